import PyProof.Rows.All
import Wide.All
import OpenK.AllK
import Wide.FinOn
import Lean
import PyProof.EqAt
import PyProof.EqKinds
import PyProof.TupleCall
import PyProof.NeKinds
import PyProof.WalksEnum
import PyProof.StrWalks
import PyProof.ExcAttrAll.ValueError
import PyProof.ZipIter
import KE.KRevIter
import PyProof.ListNew
import PyProof.WalksMore
import PyProof.ReprLoop
import PyProof.FactsAll.list
import PyProof.CollectIter
import PyProof.TupleOfGen
import PySem.Challenge.RW_worthkinds_k75_whole_steps
set_option maxHeartbeats 4000000
set_option Elab.async false
set_option linter.all false
set_option maxRecDepth 100000
namespace L2
open PySem PySem.Spec PyProof.Rows
noncomputable abbrev Key:=Sum Int Str
noncomputable def Ks:Key->Value->Bool
 | .inl k,v=>Value.isInt k v
 | .inr x,v=>Value.isStrOf x v
noncomputable def keyH (w:World):Key->Int
 | .inl k=>hashInt k
 | .inr x=>hashStr w x
theorem Zk:∀ {k:Key} {v:Value},Ks k v=true->(∃ i t,k=Sum.inl i/\v=Value.int i t)\/(∃ x t,k=Sum.inr x/\v=Value.str x t)
 | .inl i,v,h=>by
  obtain ⟨t,e⟩:=Value.isInt_shape (k:=i) (v:=v) h
  exact .inl ⟨i,t,rfl,e⟩
 | .inr x,v,h=>by
  obtain ⟨t,e⟩:=Value.isStrOf_shape (x:=x) (v:=v) h
  exact .inr ⟨x,t,rfl,e⟩
theorem Kt (a b:Int):decide ((Sum.inl a:Key)=Sum.inl b)=(a == b):=by
 by_cases e:a=b
 ·subst e; simp
 ·have h:¬ (Sum.inl a:Key)=Sum.inl b:=fun q=>e (Sum.inl.inj q)
  rw [decide_eq_false h]
  exact (beq_eq_false_iff_ne.mpr e).symm
theorem Ku (a b:Str):decide ((Sum.inr a:Key)=Sum.inr b)=decide (a=b):=by
 by_cases e:a=b
 ·subst e; simp
 ·have h:¬ (Sum.inr a:Key)=Sum.inr b:=fun q=>e (Sum.inr.inj q)
  rw [decide_eq_false h,decide_eq_false e]
theorem Kv (a:Int) (b:Str):decide ((Sum.inl a:Key)=Sum.inr b)=false:=decide_eq_false (fun q=>nomatch q)
theorem Kw (a:Str) (b:Int):decide ((Sum.inr a:Key)=Sum.inl b)=false:=decide_eq_false (fun q=>nomatch q)
noncomputable def Yl (prog:Program) (w:World):PySem.KeyKind prog w Key where
 is:=Ks
 hash:=keyH w
 inj:=fun v a b ha hb=>by
  rcases Zk ha with ⟨i,t,rfl,rfl⟩ | ⟨x,t,rfl,rfl⟩
  ·rcases Zk hb with ⟨j,u,rfl,e⟩ | ⟨y,u,rfl,e⟩
   ·injection e with e1 _; rw [e1]
   ·exact nomatch e
  ·rcases Zk hb with ⟨j,u,rfl,e⟩ | ⟨y,u,rfl,e⟩
   ·exact nomatch e
   ·injection e with e1 _; rw [e1]
 byValue:=fun k v h=>by
  rcases Zk h with ⟨i,t,rfl,rfl⟩ | ⟨x,t,rfl,rfl⟩ <;> rfl
 pyHash:=fun hv h=>by
  rcases Zk hv with ⟨i,t,rfl,rfl⟩ | ⟨x,t,rfl,rfl⟩
  ·exact wpAny_pyHash_int h
  ·exact wpAny_pyHash_str h
 eqBool:=fun hu hv h=>by
  rcases Zk hu with ⟨i,t,rfl,rfl⟩ | ⟨x,t,rfl,rfl⟩
  ·rcases Zk hv with ⟨j,u,rfl,rfl⟩ | ⟨y,u,rfl,rfl⟩
   ·rw [Kt] at h; exact wpAny_eqBool_int h
   ·rw [Kv] at h; exact SeqAt.EqAt.int_str i t y u _ _ _ _ h
  ·rcases Zk hv with ⟨j,u,rfl,rfl⟩ | ⟨y,u,rfl,rfl⟩
   ·rw [Kw] at h; exact SeqAt.EqAt.str_int x t j u _ _ _ _ h
   ·rw [Ku] at h; exact wpAny_eqBool_str h
 «strs»:=fun k x t v h=>by
  rcases Zk h with ⟨i,u,rfl,e⟩ | ⟨y,u,rfl,e⟩
  ·exact nomatch e
  ·injection e with e1 _
   subst e1
   cases v <;> rfl
end L2
namespace L2
open PySem PySem.Spec PyProof.Rows
inductive V where
 | non | bl (b:Bool) | int (i:Int) | str (x:Str) | byt (b:Array UInt8) | flt (b:UInt64) | ref (a:Addr) | ty (n:String)
 deriving DecidableEq
noncomputable def j9:V->Value->Prop
 | .non,u=>u=Value.none
 | .bl b,u=>u=Value.bool b
 | .int i,u=>∃ t,u=Value.int i t
 | .str x,u=>∃ t,u=Value.str x t
 | .byt b,u=>∃ t,u=Value.bytes b t
 | .flt b,u=>∃ t,u=Value.float b t
 | .ref a,u=>u=Value.ref a
 | .ty n,u=>u=Value.type n
noncomputable abbrev ZB:List V->List Value->Prop:=Paired j9
theorem ZB.length {xs:List V} {us:List Value} (r:ZB xs us):xs.length=us.length:=Paired.length r
theorem ZB.get:∀ {xs:List V} {us:List Value} {i:Nat} {x:V},ZB xs us->xs[i]? =some x->∃ u,us[i]? =some u/\j9 x u
 | _,_,_,_, .nil,e=>by simp at e
 | _,_,0,_, .cons r _,e=>by simp at e; subst e; exact ⟨_,rfl,r⟩
 | _,_,i+1,x, .cons _ t,e=>by
  obtain ⟨u,h1,h2⟩:=ZB.get (i:=i) (x:=x) t (by simpa using e)
  exact ⟨u,by simpa using h1,h2⟩
theorem ZB.append:∀ {xs ys:List V} {us ws:List Value},ZB xs us->ZB ys ws->ZB (xs++ys) (us++ws)
 | _,_,_,_, .nil,s=>s
 | _,_,_,_, .cons r t,s=> .cons r (ZB.append t s)
theorem ZB.take:∀ {xs:List V} {us:List Value} (n:Nat),ZB xs us->ZB (xs.take n) (us.take n)
 | _,_,0,_=> .nil
 | _,_,_+1, .nil=> .nil
 | _,_,n+1, .cons r t=> .cons r (ZB.take n t)
theorem ZB.drop:∀ {xs:List V} {us:List Value} (n:Nat),ZB xs us->ZB (xs.drop n) (us.drop n)
 | _,_,0,r=>r
 | _,_,_+1, .nil=> .nil
 | _,_,n+1, .cons _ t=>ZB.drop n t
noncomputable def GA:Option V->Option Value->Prop
 | some v,some u=>j9 v u
 | none,none=>True
 | _,_=>False
noncomputable def KV {κ:Type}:List (κ×V)->List (κ×Value)->Prop:=Paired fun (p:κ×V) (q:κ×Value)=>p.1=q.1/\j9 p.2 q.2
noncomputable def kV:Key->V
 | .inl i=> .int i
 | .inr x=> .str x
inductive HO where
 | lst (xs:List V)
 | tup (xs:List V)
 | dK (kvs:List (Key×V)) | dT (kvs:List (List Key×V))
 | set (S:Int->Bool) (n:Nat)
 | ins (C dx:Addr) (fs:List (Str×V))
 | own (x:Addr)
 | xd (fs:List (Str×V))
 | met (f x:Addr)
 | rng (lo hi:Int)
 | frz (o:Obj) (u:HO)
 | tbl (ps:Array Value)
 | ext (φ:Heap->Prop)
noncomputable abbrev Hp:=Addr->Option HO
noncomputable def upd (H:Hp) (a:Addr) (o:HO):Hp:=fun b=>if b=a then some o else H b
theorem Zv {H:Hp} {a:Addr} {o:HO}:upd H a o a=some o:=by unfold upd; rw [if_pos rfl]
theorem zI {H:Hp} {a b:Addr} {o:HO} (h:b ≠ a):upd H a o b=H b:=by unfold upd; rw [if_neg h]
theorem Z0 {H:Hp} {a b:Addr} {o:HO} (h:H a=some o) (h' :H b=none):a ≠ b:=by
 intro e; subst e; rw [h] at h'; cases h'
section
variable (P:Program) (w:World)
noncomputable def jv (H:Hp) (h:Heap) (a:Addr):HO->Prop
 | .lst xs=>xs.length<=sizeLine/\∃ (its:List Value) (n:Nat),ZB xs its/\h.get? a=some { cls:= .type "list",data:= .seq its.toArray n }
 | .tup xs=>xs.length<=sizeLine/\∃ its:List Value,ZB xs its/\IsTup h a its.toArray
 | .dK kvs=>kvs.length<=sizeLine/\(a == sysModules)=false/\∃ vs,KV kvs vs/\h.DictOf (Yl P w) a vs
 | .dT kvs=>kvs.length<=sizeLine/\(a == sysModules)=false/\∃ xs:List (List Key×Addr×Value),
   Paired (fun (p:List Key×V) (q:List Key×Addr×Value)=>p.1=q.1/\H q.2.1=some (.tup (p.1.map kV))/\j9 p.2 q.2.2) kvs xs/\
   ∃ o es ep,h.get? a=some o/\o.ExactDict/\o.data= .dict es ep/\es.toList=xs.map (entryOfKey (tupleKind (Yl P w)))/\(xs.map (·.1)).Nodup
 | .set S n=>h.SetOf (intKind P w) a S n
 | .ins C dx fs=>H dx=some (.own a)/\fs.length<=1000/\dx ≠ a/\h.get? a=some (PySem.W.instObj C dx)/\
   ∃ mA,h.Ns1 dx mA/\(∀ f,GA (fs.lookup f) (mA f))/\PySem.Within mA (fs.map (·.1))
 | .own _=>∃ o,h.get? a=some o
 | .xd fs=>∃ mA,h.Ns1 a mA/\∀ f,GA (fs.lookup f) (mA f)
 | .rng lo hi=>∃ t u v,h.get? a=some { cls:= .type "range",data:= .fields #[.int lo t, .int hi u, .int 1 v] }
 | .frz o u=>h.get? a=some o/\jv H h a u
 | .tbl ps=>h.get? a=some { cls:= .none,data:= .fields ps }
 | .met f x=>h.get? a=some (PySem.W.methodObj (.ref f) (.ref x))
 | .ext φ=>φ h/\(∃ o,h.get? a=some o)/\∀ h1 h2:Heap,φ h1->(∀ o,h1.get? a=some o->h2.get? a=some o)->φ h2
noncomputable def HOk (H:Hp) (h:Heap):Prop:=∀ a o,H a=some o->jv P w H h a o
end
section
variable {P:Program} {w:World} {H H' :Hp} {h h' :Heap} {a:Addr} {o:HO}
theorem jv.lt (x:jv P w H h a o):a < h.objs.size:=by
 cases o with
 | lst xs=>obtain ⟨_,_,_,_,e⟩:=x; exact Heap.lt_size e
 | tup xs=>obtain ⟨_,_,_,p⟩:=x; exact p.lt
 | dK kvs=>obtain ⟨_,_,_,_,o,_,_,e,_⟩:=x; exact Heap.lt_size e
 | dT kvs=>obtain ⟨_,_,_,_,o,_,_,e,_⟩:=x; exact Heap.lt_size e
 | set S n=>obtain ⟨o,_,_,_,e,_⟩:=x; exact Heap.lt_size e
 | ins C dx fs=>obtain ⟨_,_,_,e,_⟩:=x; exact Heap.lt_size e
 | own y=>obtain ⟨_,e⟩:=x; exact Heap.lt_size e
 | xd fs=>obtain ⟨_,⟨_,_,_,e,_⟩,_⟩:=x; exact Heap.lt_size e
 | rng lo hi=>obtain ⟨_,_,_,e⟩:=x; exact Heap.lt_size e
 | frz ob u=>obtain ⟨e,_⟩:=x; exact Heap.lt_size e
 | tbl ps=>exact Heap.lt_size (show h.get? a=some _ from x)
 | met f y=>exact Heap.lt_size (show h.get? a=some _ from x)
 | ext φ=>obtain ⟨_,⟨_,e⟩,_⟩:=x; exact Heap.lt_size e
theorem Paired.mapP {α β:Type} {F G:α->β->Prop}:∀ {l₁:List α} {l₂:List β},Paired F l₁ l₂->(∀ a b,F a b->G a b)->Paired G l₁ l₂
 | _,_, .nil,_=> .nil
 | _,_, .cons r t,f=> .cons (f _ _ r) (Paired.mapP t f)
theorem jv.stay (x:jv P w H h a o) (k:∀ b u,(b=a\/H b=some (.own a))->h.get? b=some u->h'.get? b=some u)
  (ho:∀ b,H b=some (.own a)->H' b=some (.own a)) (ht:∀ b xs,H b=some (.tup xs)->H' b=some (.tup xs)):jv P w H' h' a o:=by
 induction o with
 | lst xs=>obtain ⟨z,its,n,r,e⟩:=x; exact ⟨z,its,n,r,k _ _ (.inl rfl) e⟩
 | tup xs=>obtain ⟨z,its,r,ob,e,c⟩:=x; exact ⟨z,its,r,ob,k _ _ (.inl rfl) e,c⟩
 | dK kvs=>obtain ⟨z,y,vs,r,ob,es,ep,e,c⟩:=x; exact ⟨z,y,vs,r,ob,es,ep,k _ _ (.inl rfl) e,c⟩
 | dT kvs=>
  obtain ⟨z,y,xs,r,ob,es,ep,e,c⟩:=x
  exact ⟨z,y,xs,Paired.mapP r fun p q z=>⟨z.1,ht _ _ z.2.1,z.2.2⟩,ob,es,ep,k _ _ (.inl rfl) e,c⟩
 | set S n=>obtain ⟨ob,es,ep,t,e,c⟩:=x; exact ⟨ob,es,ep,t,k _ _ (.inl rfl) e,c⟩
 | ins C dx fs=>
  obtain ⟨d,z,ne,e,mA,⟨od,es,ep,e2,c⟩,r⟩:=x
  exact ⟨ho _ d,z,ne,k _ _ (.inl rfl) e,mA,⟨od,es,ep,k _ _ (.inr d) e2,c⟩,r⟩
 | own y=>obtain ⟨ob,e⟩:=x; exact ⟨ob,k _ _ (.inl rfl) e⟩
 | xd fs=>obtain ⟨mA,⟨od,es,ep,e,c⟩,r⟩:=x; exact ⟨mA,⟨od,es,ep,k _ _ (.inl rfl) e,c⟩,r⟩
 | rng lo hi=>obtain ⟨t,u,v,e⟩:=x; exact ⟨t,u,v,k _ _ (.inl rfl) e⟩
 | frz ob u ih=>obtain ⟨e,q⟩:=x; exact ⟨k _ _ (.inl rfl) e,ih q⟩
 | tbl ps=>
  have e:h.get? a=some { cls:= .none,data:= .fields ps }:=x
  show h'.get? a=some { cls:= .none,data:= .fields ps }
  exact k a _ (.inl rfl) e
 | met f y=>
  have e:h.get? a=some (PySem.W.methodObj (.ref f) (.ref y)):=x
  show h'.get? a=some (PySem.W.methodObj (.ref f) (.ref y))
  exact k a _ (.inl rfl) e
 | ext φ=>obtain ⟨p,⟨o,e⟩,st⟩:=x; exact ⟨st _ _ p fun o q=>k _ _ (.inl rfl) q,⟨o,k _ _ (.inl rfl) e⟩,st⟩
theorem HOk.lt (x:HOk P w H h) (e:H a=some o):a < h.objs.size:=(x a o e).lt
theorem HOk.fresh (x:HOk P w H h) (e:h.objs.size<=a):H a=none:=by
 cases q:H a with
 | none=>rfl
 | some u=>exact absurd (Nat.lt_of_lt_of_le (x.lt q) e) (Nat.lt_irrefl _)
theorem HOk.kept (x:HOk P w H h) (k:∀ b u,h.get? b=some u->h'.get? b=some u):HOk P w H h' :=fun a o e=>
 (x a o e).stay (fun b u _ q=>k b u q) (fun _ q=>q) fun _ _ q=>q
theorem HOk.laid (x:HOk P w H h) (k:∀ b u,h.get? b=some u->h'.get? b=some u) (hp:h.objs.size<=a) (new:jv P w (upd H a o) h' a o):HOk P w (upd H a o) h' :=fun b u e=>by
 have hn:=x.fresh hp
 by_cases hb:b=a
 ·subst hb; rw [Zv] at e; cases e; exact new
 ·rw [zI hb] at e
  exact (x b u e).stay (fun c v _ q=>k c v q) (fun c q=>by rw [zI (Z0 q hn)]; exact q) fun c xs q=>by rw [zI (Z0 q hn)]; exact q
end
noncomputable def Rd (H:Hp) (a:Addr) (u:HO):Prop:=H a=some u\/∃ o,H a=some (.frz o u)
theorem Rd.ok {P:Program} {w:World} {H:Hp} {h:Heap} {a:Addr} {u:HO} (r:Rd H a u) (x:HOk P w H h):jv P w H h a u:=by
 rcases r with r | ⟨o,r⟩
 ·exact x a u r
 ·obtain ⟨_,q⟩:=x a _ r
  exact q
noncomputable def Mut:Option HO->Prop
 | some (.lst _)=>True
 | some (.dK _)=>True
 | some (.dT _)=>True
 | some (.set _ _)=>True
 | some (.ins _ _ _)=>True
 | some (.ext _)=>True
 | _=>False
section
variable {P:Program} {w:World} {H:Hp} {h h' :Heap} {x e:Addr} {o' :HO}
theorem HOk.write (ok:HOk P w H h) (mu:Mut (H x)) (he:e=x\/H e=some (.own x)) (k:∀ b u,b ≠ e->h.get? b=some u->h'.get? b=some u) (heo:∃ u,h'.get? e=some u)
  (new:jv P w (upd H x o') h' x o'):HOk P w (upd H x o') h' :=fun b u q=>by
 have nown:∀ c y,H c=some (.own y)->c ≠ x:=fun c y r z=>by subst z; rw [r] at mu; exact mu
 have ntup:∀ c xs,H c=some (.tup xs)->c ≠ x:=fun c xs r z=>by subst z; rw [r] at mu; exact mu
 by_cases hb:b=x
 ·subst hb; rw [Zv] at q; cases q; exact new
 ·rw [zI hb] at q
  by_cases hbe:b=e
  ·have q' :H b=some (.own x):=by
    rcases he with z | z
    ·exact absurd (hbe.trans z) hb
    ·rw [hbe]; exact z
   rw [q] at q'; cases q'
   obtain ⟨v,hv⟩:=heo
   exact ⟨v,by rw [hbe]; exact hv⟩
  ·refine (ok b u q).stay (fun c v hc r=>k c v ?_ r) (fun c r=>by rw [zI (nown c b r)]; exact r) fun c xs r=>by rw [zI (ntup c xs r)]; exact r
   rcases hc with rfl | hc
   ·exact hbe
   ·rintro rfl
    rcases he with z | z
    ·exact nown c b hc z
    ·rw [hc] at z; cases z; exact hb rfl
end
structure Un (fs ex:List Addr) (H H' :Hp) (h h' :Heap):Prop where
 keep:∀ b o,h.get? b=some o->H b=none->b ∉ fs->b ∉ ex->h'.get? b=some o
 slot:∀ b o,h.get? b=some o->H b=none->b∈fs->b ∉ ex->∃ sl,h'.get? b=some { o with slots:=sl }
 free:∀ b o,h.get? b=some o->H b=none->b ∉ ex->H' b=none
 there:∀ b o,h.get? b=some o->b ∉ ex->∃ o',h'.get? b=some o'
 tups:∀ b xs,H b=some (.tup xs)->H' b=some (.tup xs)
 frzs:∀ b o u,H b=some (.frz o u)->H' b=some (.frz o u)
 tbls:∀ b ps,H b=some (.tbl ps)->∃ more,H' b=some (.tbl (ps++more))
section
variable {fs fs' ex ex' :List Addr} {H H1 H2:Hp} {h h1 h2 h' :Heap} {a x e:Addr} {o:HO}
theorem Un.any (u:Un fs ex H H1 h h1) {b:Addr} {ob:Obj} (q:h.get? b=some ob) (n:H b=none) (hx:b ∉ ex):∃ sl,h1.get? b=some { ob with slots:=sl }:=by
 by_cases hb:b∈fs
 ·exact u.slot b ob q n hb hx
 ·exact ⟨ob.slots,u.keep b ob q n hb hx⟩
theorem Un.kept (k:∀ b u,h.get? b=some u->h'.get? b=some u):Un fs ex H H h h' :=
 ⟨fun b ob q _ _ _=>k b ob q,fun b ob q _ _ _=>⟨ob.slots,k b ob q⟩,fun _ _ _ n _=>n,fun b ob q _=>⟨ob,k b ob q⟩,fun _ _ q=>q,fun _ _ _ q=>q,fun _ ps q=>⟨#[],by rw [q]; simp⟩⟩
theorem Un.refl:Un fs ex H H h h:=Un.kept fun _ _ q=>q
theorem Un.laid (k:∀ b u,h.get? b=some u->h'.get? b=some u) (hp:h.objs.size<=a) (hn:H a=none):Un fs ex H (upd H a o) h h' where
 keep:=fun b u q _ _ _=>k b u q
 slot:=fun b u q _ _ _=>⟨u.slots,k b u q⟩
 free:=fun b u q n _=>by rw [zI (Nat.ne_of_lt (Nat.lt_of_lt_of_le (Heap.lt_size q) hp))]; exact n
 there:=fun b u q _=>⟨u,k b u q⟩
 tups:=fun b xs q=>by rw [zI (Z0 q hn)]; exact q
 frzs:=fun b u xs q=>by rw [zI (Z0 q hn)]; exact q
 tbls:=fun b ps q=>⟨#[],by rw [zI (Z0 q hn),q]; simp⟩
theorem Un.write (mu:Mut (H x)) (he:e=x\/H e=some (.own x)) (k:∀ b u,b ≠ e->h.get? b=some u->h'.get? b=some u) (heo:∃ u,h'.get? e=some u):Un fs ex H (upd H x o) h h' :=by
 have hx:∀ b,H b=none->b ≠ x:=fun b n z=>by subst z; rw [n] at mu; exact mu
 have hb:∀ b,H b=none->b ≠ e:=fun b n z=>by
  subst z
  rcases he with r | r
  ·exact hx b n r
  ·rw [n] at r; cases r
 have hm:∀ b u,H b=some u->¬ Mut (some u)->b ≠ x:=fun b u q nm z=>by subst z; rw [q] at mu; exact nm mu
 refine ⟨fun b u q n _ _=>k b u (hb b n) q,fun b u q n _ _=>⟨u.slots,k b u (hb b n) q⟩,fun b u q n _=>by rw [zI (hx b n)]; exact n,fun b u q _=> ?_,
  fun b xs q=>by rw [zI (hm b _ q fun z=>z)]; exact q,fun b u xs q=>by rw [zI (hm b _ q fun z=>z)]; exact q,fun b ps q=>⟨#[],by rw [zI (hm b _ q fun z=>z),q]; simp⟩⟩
 by_cases hbe:b=e
 ·subst hbe; exact heo
 ·exact ⟨u,k b u hbe q⟩
end
noncomputable def trk (h:Heap) (H:Hp):List Addr:=(List.range h.objs.size).filter fun a=>(H a).isSome
noncomputable def VR (h:Heap) (H:Hp):Heap:=PySem.W.hideAll h (trk h H)
theorem QA (h:Heap) (H:Hp):(VR h H).objs.size=h.objs.size:=PySem.W.hideAll_size _ _
theorem VS {h:Heap} {H:Hp} {b:Addr} {o:Obj} (e:h.get? b=some o) (n:H b=none):(VR h H).get? b=some o:=
 PySem.W.hideAll_get _ e fun hm=>by
  have q:(H b).isSome=true:=(List.mem_filter.mp hm).2
  rw [n] at q; simp at q
theorem XH {h:Heap} {H:Hp} {b:Addr} {o:Obj} (e:(VR h H).get? b=some o):h.get? b=some o/\H b=none:=by
 have e' :h.get? b=some o:=PySem.W.of_hideAll (trk h H) e
 refine ⟨e', ?_⟩
 cases q:H b with
 | none=>rfl
 | some x=>
  have hm:b∈trk h H:=List.mem_filter.mpr ⟨List.mem_range.mpr (Heap.lt_size e'),by simp [q]⟩
  have z:(VR h H).get? b=none:=PySem.W.hideAll_none (trk h H) hm
  rw [z] at e; cases e
end L2
namespace L2
open PySem PySem.Spec PyProof.Rows
structure Mod (K:PySem.W.Frag) (mg:Str->Option Value) (base:Heap):Prop where
 kin:K.In base
 glob:base.Ns mainGlobals mg
 blt:∃ mb,base.Ns builtinsNs mb/\∀ x:Str,x ≠ "__name__"->mb x=bootBuiltins x
 nolimit:base.NoLimit
structure Cx where
 prog:Program
 w:World
 K:PySem.W.Frag
 mg:Str->Option Value
 base:Heap
 A:Around
 N:List Str
 s₀:Shared
 H₀:Hp
 env:Env
 outer:List Env
 stack:List Env
 ex:List Addr
 fn:Str->Bool
 calm:Bool
 pn:List (Addr×Obj)
 xe:Value->Shared->Prop
noncomputable def frs (l:List Env):List Addr:=l.filterMap (·.frame)
noncomputable abbrev Cx.fs (X:Cx):List Addr:=frs X.outer
noncomputable def Vis (sc:Scope) (x:Str):Prop:=sc.names.lookup x=some .local\/sc.names.lookup x=some .cell\/sc.names.lookup x=some .free
noncomputable def Loc (sc:Scope) (x:Str):Prop:=sc.names.lookup x=some .local\/sc.names.lookup x=some .cell
noncomputable def Look (env:Env) (h:Heap) (m:Str->Option Value) (x:Str) (u:Value):Prop:=
 (env.kindOf x=some .local/\m x=some u)\/((env.kindOf x=some .cell\/env.kindOf x=some .free)/\∃ c,env.cells.lookup x=some c/\h.IsCell c (some u))
structure Cx.Ok (X:Cx):Prop where
 mod:Mod X.K X.mg X.base
 kind:X.env.scope.kind= .function
 glob:X.env.globals=mainGlobals
 blt:X.env.builtins=builtinsNs
 above:X.s₀.heap.objs.size<=X.env.locals
 inj:∀ x y c,X.env.cells.lookup x=some c->X.env.cells.lookup y=some c->x=y
 has:∀ x,(X.env.kindOf x=some .cell\/X.env.kindOf x=some .free)->∃ c,X.env.cells.lookup x=some c
 cab:∀ x c,X.fn x=true->X.env.cells.lookup x=some c->X.s₀.heap.objs.size<=c
 hd:X.calm=true->X.A.handled=none
 frames:X.A.frames=some X.stack
 stk:X.stack=X.outer\/(X.stack=X.env :: X.outer/\X.env.frame=some X.env.locals)
 exf:∀ b∈X.ex,b ≠ X.env.locals/\∀ x c,X.env.cells.lookup x=some c->c ≠ b
 bs:∀ b o,X.base.get? b=some o->X.s₀.heap.get? b=some o/\X.H₀ b=none
 bsz:X.base.objs.size<=X.s₀.heap.objs.size
 noex:∀ b o,X.base.get? b=some o->b ∉ X.ex
 exfs:∀ b∈X.ex,b ∉ X.fs
 funs:X.s₀.heap.FunFrames X.base X.outer
 frf:∀ b∈X.fs,X.H₀ b=none
structure Inv (X:Cx) (pins:List (Addr×Obj)) (σ:List (Option V)) (H:Hp) (s:Shared):Prop where
 ok:X.Ok
 os:s.os=X.s₀.os
 bare:AllBare s.gens
 base:Un X.fs X.ex X.H₀ H X.s₀.heap s.heap
 loc:∃ m,s.heap.Ns X.env.locals m/\∀ (i:Nat) (x:Str) (v:V),X.N[i]? =some x->σ[i]? =some (some v)->Vis X.env.scope x->∃ u,j9 v u/\Look X.env s.heap m x u
 cell:∀ x c,X.env.cells.lookup x=some c->∃ v,s.heap.IsCell c v
 free:H X.env.locals=none
 freeC:∀ x c,X.env.cells.lookup x=some c->H c=none
 pin:∀ p∈X.pn++pins,s.heap.get? p.1=some p.2/\H p.1=none/\p.1 ≠ X.env.locals/\p.1 ∉ X.fs/\∀ v,p.2.data ≠ .cell v
 hok:HOk X.prog X.w H s.heap
 len:σ.length=X.N.length
section
variable {X:Cx} {pins:List (Addr×Obj)} {σ:List (Option V)} {H H' :Hp} {s:Shared} {h' :Heap}
theorem Cx.Ok.nofr (ok:X.Ok) {b:Addr} {o:Obj} (e:X.base.get? b=some o):b ∉ X.fs:=fun hb=>by
 have:=(ok.funs.mem hb).1
 rw [e] at this; cases this
theorem Inv.bs (I:Inv X pins σ H s):∀ b o,X.base.get? b=some o->s.heap.get? b=some o/\H b=none:=fun b o e=>
 ⟨I.base.keep b o (I.ok.bs b o e).1 (I.ok.bs b o e).2 (I.ok.nofr e) (I.ok.noex b o e),I.base.free b o (I.ok.bs b o e).1 (I.ok.bs b o e).2 (I.ok.noex b o e)⟩
theorem Inv.bk (I:Inv X pins σ H s):∀ b o,X.base.get? b=some o->s.heap.get? b=some o:=fun b o e=>(I.bs b o e).1
theorem Inv.mod (I:Inv X pins σ H s):Mod X.K X.mg X.base:=I.ok.mod
theorem Inv.kIn (I:Inv X pins σ H s):X.K.In s.heap:=I.ok.mod.kin.keeps I.bk
theorem Inv.lt (I:Inv X pins σ H s):X.env.locals < s.heap.objs.size:=let ⟨_,hn,_⟩:=I.loc; hn.lt
theorem Inv.sz (I:Inv X pins σ H s):X.s₀.heap.objs.size<=s.heap.objs.size:=Nat.le_trans I.ok.above (Nat.le_of_lt I.lt)
theorem Inv.nofs (I:Inv X pins σ H s) {a:Addr} (h:s.heap.objs.size<=a):a ∉ X.fs:=fun hb=>by
 obtain ⟨_,o,ho,_⟩:=I.ok.funs.mem hb
 exact absurd (Nat.lt_of_lt_of_le (Heap.lt_size ho) (Nat.le_trans I.sz h)) (Nat.lt_irrefl _)
theorem Inv.cne (I:Inv X pins σ H s):∀ x c,X.env.cells.lookup x=some c->c ≠ X.env.locals:=fun x c e z=>by
 obtain ⟨v,o,ho,hd⟩:=I.cell x c e
 obtain ⟨m,⟨o',es,ep,ho',hd',_⟩,_⟩:=I.loc
 rw [z,ho'] at ho; cases ho; rw [hd'] at hd; cases hd
theorem Inv.funs (I:Inv X pins σ H s):s.heap.FunFrames X.base X.outer:=by
 have all:∀ (l:List Env),(∀ b∈frs l,b∈X.fs)->X.s₀.heap.FunFrames X.base l->s.heap.FunFrames X.base l:=by
  intro l
  induction l with
  | nil=>intro _ _; trivial
  | cons env r ih=>
   intro hs hl
   obtain ⟨hk,⟨L,o,hf,hn,ho,hd⟩,hr⟩:=hl
   have hL:L∈X.fs:=hs L (by unfold frs; rw [List.filterMap_cons,hf]; exact List.mem_cons_self)
   obtain ⟨sl,e⟩:=I.base.slot L o ho (I.ok.frf L hL) hL fun z=>I.ok.exfs L z hL
   exact ⟨hk,⟨L,_,hf,hn,e,hd⟩,ih (fun b hb=>hs b (by unfold frs; rw [List.filterMap_cons,hf]; exact List.mem_cons_of_mem _ hb)) hr⟩
 exact all X.outer (fun _ hb=>hb) I.ok.funs
theorem Inv.stack (I:Inv X pins σ H s):s.heap.FunFrames X.base X.stack:=by
 rcases I.ok.stk with e | ⟨e,hf⟩
 ·rw [e]; exact I.funs
 ·rw [e]
  obtain ⟨m,hn,_⟩:=I.loc
  refine .cons (by rw [I.ok.kind]; decide) hf hn ?_ I.funs
  exact Heap.get?_none_of_le (Nat.le_trans I.ok.bsz I.ok.above)
theorem Inv.stkSub (I:Inv X pins σ H s):∀ b∈frs X.stack,b∈X.env.locals :: X.fs:=fun b hb=>by
 rcases I.ok.stk with e | ⟨e,hf⟩
 ·rw [e] at hb; exact List.mem_cons_of_mem _ hb
 ·rw [e] at hb
  unfold frs at hb
  rw [List.filterMap_cons,hf] at hb
  exact hb
theorem Inv.stkFree (I:Inv X pins σ H s):∀ b∈frs X.stack,H b=none:=fun b hb=>by
 rcases List.mem_cons.mp (I.stkSub b hb) with e | hb
 ·rw [e]; exact I.free
 ·obtain ⟨_,o,ho,_⟩:=I.ok.funs.mem hb
  exact I.base.free b o ho (I.ok.frf b hb) fun z=>I.ok.exfs b z hb
theorem Inv.step {g' :Array GenState} {t' :Nat} {d' :Drawn} {ch:List Addr} (I:Inv X pins σ H s)
  (hch:∀ b∈ch,(b∈X.ex\/X.s₀.heap.objs.size<=b)/\b ≠ X.env.locals/\(∀ x c,X.env.cells.lookup x=some c->c ≠ b)/\∀ p∈X.pn++pins,p.1 ≠ b)
  (keep:∀ b o,b ≠ X.env.locals->b ∉ X.fs->b ∉ ch->s.heap.get? b=some o->H b=none->h'.get? b=some o)
  (slot:∀ b o,b ≠ X.env.locals->b∈X.fs->b ∉ ch->s.heap.get? b=some o->H b=none->∃ sl,h'.get? b=some { o with slots:=sl }) (free:∀ b o,b ∉ ch->s.heap.get? b=some o->H b=none->H' b=none)
  (there:∀ b o,b ∉ ch->s.heap.get? b=some o->∃ o',h'.get? b=some o')
  (tups:∀ b xs,H b=some (.tup xs)->H' b=some (.tup xs)) (frzs:∀ b o u,H b=some (.frz o u)->H' b=some (.frz o u)) (tbls:∀ b ps,H b=some (.tbl ps)->∃ more,H' b=some (.tbl (ps++more)))
  (ns:∀ m,s.heap.Ns X.env.locals m->h'.Ns X.env.locals m) (hok:HOk X.prog X.w H' h') (hg:AllBare g'):
  Inv X pins σ H' { s with heap:=h',gens:=g',drawn:=d',toks:=t' }:=by
 have neL:∀ b o,X.s₀.heap.get? b=some o->b ≠ X.env.locals:=fun b o e=>Nat.ne_of_lt (Nat.lt_of_lt_of_le (Heap.lt_size e) I.ok.above)
 have neC:∀ b o,X.s₀.heap.get? b=some o->b ∉ X.ex->b ∉ ch:=fun b o e hx hb=>by
  rcases (hch b hb).1 with z | z
  ·exact hx z
  ·exact absurd (Nat.lt_of_lt_of_le (Heap.lt_size e) z) (Nat.lt_irrefl _)
 have cellK:∀ x c,X.env.cells.lookup x=some c->∀ v,s.heap.IsCell c v->h'.IsCell c v:=fun x c e v ⟨o,ho,hd⟩=>by
  have nch:c ∉ ch:=fun z=>(hch c z).2.2.1 x c e rfl
  by_cases hc:c∈X.fs
  ·obtain ⟨sl,q⟩:=slot c o (I.cne x c e) hc nch ho (I.freeC x c e)
   exact ⟨_,q,hd⟩
  ·exact ⟨o,keep c o (I.cne x c e) hc nch ho (I.freeC x c e),hd⟩
 refine ⟨I.ok,I.os,hg,⟨fun b o e n hb hx=> ?_,fun b o e n hb hx=> ?_,fun b o e n hx=> ?_,fun b o e hx=> ?_,fun b xs e=>tups b xs (I.base.tups b xs e),fun b o xs e=>frzs b o xs (I.base.frzs b o xs e),fun b ps e=> ?_⟩, ?_,fun x c e=> ?_, ?_,fun x c e=> ?_,fun p hp=> ?_,hok,I.len⟩
 ·exact keep b o (neL b o e) hb (neC b o e hx) (I.base.keep b o e n hb hx) (I.base.free b o e n hx)
 ·obtain ⟨sl,e1⟩:=I.base.slot b o e n hb hx
  obtain ⟨sl',e2⟩:=slot b _ (neL b o e) hb (neC b o e hx) e1 (I.base.free b o e n hx)
  exact ⟨sl',e2⟩
 ·obtain ⟨o',e1⟩:=I.base.there b o e hx
  exact free b o' (neC b o e hx) e1 (I.base.free b o e n hx)
 ·obtain ⟨o',e1⟩:=I.base.there b o e hx
  exact there b o' (neC b o e hx) e1
 ·obtain ⟨m1,e1⟩:=I.base.tbls b ps e
  obtain ⟨m2,e2⟩:=tbls b _ e1
  exact ⟨m1++m2,by rw [e2,Array.append_assoc]⟩
 ·obtain ⟨m,hn,hl⟩:=I.loc
  refine ⟨m,ns m hn,fun i x v e1 e2 e3=> ?_⟩
  obtain ⟨u,r,l⟩:=hl i x v e1 e2 e3
  refine ⟨u,r, ?_⟩
  rcases l with l | ⟨k,c,e,z⟩
  ·exact .inl l
  ·exact .inr ⟨k,c,e,cellK x c e _ z⟩
 ·obtain ⟨v,z⟩:=I.cell x c e
  exact ⟨v,cellK x c e v z⟩
 ·obtain ⟨m,⟨o,_,_,ho,_⟩,_⟩:=I.loc
  exact free _ o (fun z=>(hch _ z).2.1 rfl) ho I.free
 ·obtain ⟨v,o,ho,hd⟩:=I.cell x c e
  exact free c o (fun z=>(hch c z).2.2.1 x c e rfl) ho (I.freeC x c e)
 ·obtain ⟨e,n,ne,nf,d⟩:=I.pin p hp
  have nch:p.1 ∉ ch:=fun z=>(hch p.1 z).2.2.2 p hp rfl
  exact ⟨keep p.1 p.2 ne nf nch e n,free p.1 p.2 nch e n,ne,nf,d⟩
theorem Inv.un {t' :Nat} (I:Inv X pins σ H s) (u:Un X.fs [] H H' s.heap h') (hok:HOk X.prog X.w H' h'):Inv X pins σ H' { s with heap:=h',toks:=t' }:=by
 obtain ⟨m,⟨o,es,ep,ho,r⟩,_⟩:=id I.loc
 obtain ⟨sl,hL⟩:=u.any ho I.free (by simp)
 exact I.step (g' :=s.gens) (d' :=s.drawn) (ch:=[]) (fun _ z=>nomatch z) (fun b o _ hb _ e n=>u.keep b o e n hb (by simp)) (fun b o _ hb _ e n=>u.slot b o e n hb (by simp)) (fun b o _ e n=>u.free b o e n (by simp)) (fun b o _ e=>u.there b o e (by simp)) u.tups u.frzs u.tbls (fun m' hm=>by
  obtain ⟨o',es',ep',ho',r'⟩:=hm
  rw [ho] at ho'; cases ho'
  exact ⟨_,es',ep',hL,r'⟩) hok I.bare
theorem Inv.call {g' :Array GenState} {t' :Nat} {d' :Drawn} {ch:List Addr} (I:Inv X pins σ H s) (u:Un (frs X.stack) ch H H' s.heap h') (hok:HOk X.prog X.w H' h') (hg:AllBare g')
  (hch:∀ b∈ch,(b∈X.ex\/X.s₀.heap.objs.size<=b)/\b ≠ X.env.locals/\(∀ x c,X.env.cells.lookup x=some c->c ≠ b)/\∀ p∈X.pn++pins,p.1 ≠ b):
  Inv X pins σ H' { s with heap:=h',gens:=g',drawn:=d',toks:=t' }:=by
 obtain ⟨m,⟨o,es,ep,ho,r⟩,_⟩:=id I.loc
 obtain ⟨sl,hL⟩:=u.any ho I.free fun z=>(hch _ z).2.1 rfl
 exact I.step (ch:=ch) hch (fun b o hL hb hc e n=>u.keep b o e n (fun z=>(List.mem_cons.mp (I.stkSub b z)).elim hL hb) hc) (fun b o _ _ hc e n=>u.any e n hc) (fun b o hc e n=>u.free b o e n hc) (fun b o hc e=>u.there b o e hc) u.tups u.frzs u.tbls (fun m' hm=>by
  obtain ⟨o',es',ep',ho',r'⟩:=hm
  rw [ho] at ho'; cases ho'
  exact ⟨_,es',ep',hL,r'⟩) hok hg
theorem Inv.turned {t' :Nat} {it:Addr} (I:Inv X pins σ H s) (k:∀ b o,b ≠ it->s.heap.get? b=some o->h'.get? b=some o) (hn:H it=none) (hL:it ≠ X.env.locals)
  (h1:it∈X.ex\/X.s₀.heap.objs.size<=it) (h2:∀ x c,X.env.cells.lookup x=some c->c ≠ it) (h3:∀ p∈X.pn++pins,p.1 ≠ it):Inv X pins σ H { s with heap:=h',toks:=t' }:=by
 have nit:∀ b u,H b=some u->b ≠ it:=fun b u e z=>by rw [z,hn] at e; cases e
 refine I.step (g' :=s.gens) (d' :=s.drawn) (ch:=[it]) (fun b hb=> ?_) (fun b o _ _ hc e _=>k b o (fun z=>hc (by simp [z])) e) (fun b o _ _ hc e _=>⟨o.slots,k b o (fun z=>hc (by simp [z])) e⟩) (fun _ _ _ _ n=>n)
  (fun b o hc e=>⟨o,k b o (fun z=>hc (by simp [z])) e⟩) (fun _ _ e=>e) (fun _ _ _ e=>e) (fun b ps e=>⟨#[],by rw [e]; simp⟩) (fun m hm=> ?_) (fun b u e=> ?_) I.bare
 ·have e:b=it:=by simpa using hb
  subst e
  exact ⟨h1,hL,h2,h3⟩
 ·obtain ⟨o,es,ep,ho,r⟩:=hm
  exact ⟨o,es,ep,k _ o (Ne.symm hL) ho,r⟩
 ·refine (I.hok b u e).stay (fun c v hc q=>k c v ?_ q) (fun _ q=>q) fun _ _ q=>q
  rcases hc with z | z
  ·rw [z]; exact nit b u e
  ·exact nit c _ z
theorem Inv.tok (I:Inv X pins σ H s) (t:Nat):Inv X pins σ H { s with toks:=t }:=I.un (h' :=s.heap) (t' :=t) Un.refl I.hok
theorem Inv.kept {t' :Nat} (I:Inv X pins σ H s) (k:∀ b u,s.heap.get? b=some u->h'.get? b=some u):Inv X pins σ H { s with heap:=h',toks:=t' }:=I.un (Un.kept k) (I.hok.kept k)
theorem Inv.laid {a:Addr} {o:HO} {t' :Nat} (I:Inv X pins σ H s) (k:∀ b u,s.heap.get? b=some u->h'.get? b=some u) (hp:s.heap.objs.size<=a) (new:jv X.prog X.w (upd H a o) h' a o):
  Inv X pins σ (upd H a o) { s with heap:=h',toks:=t' }:=I.un (Un.laid k hp (I.hok.fresh hp)) (I.hok.laid k hp new)
theorem Inv.write {x e:Addr} {o:HO} {t' :Nat} (I:Inv X pins σ H s) (mu:Mut (H x)) (he:e=x\/H e=some (.own x)) (k:∀ b u,b ≠ e->s.heap.get? b=some u->h'.get? b=some u) (heo:∃ u,h'.get? e=some u)
  (new:jv X.prog X.w (upd H x o) h' x o):Inv X pins σ (upd H x o) { s with heap:=h',toks:=t' }:=I.un (Un.write mu he k heo) (I.hok.write mu he k heo new)
theorem Inv.pins_of {pins' :List (Addr×Obj)} (I:Inv X pins σ H s) (h:∀ p∈pins',s.heap.get? p.1=some p.2/\H p.1=none/\p.1 ≠ X.env.locals/\p.1 ∉ X.fs/\∀ v,p.2.data ≠ .cell v):Inv X pins' σ H s:=
 ⟨I.ok,I.os,I.bare,I.base,I.loc,I.cell,I.free,I.freeC,fun p hp=>(List.mem_append.mp hp).elim (fun z=>I.pin p (List.mem_append_left _ z)) (h p),I.hok,I.len⟩
theorem YX {N:List Str} (hN:N.Nodup) {i j:Nat} {x:Str} (a:N[i]? =some x) (b:N[j]? =some x):i=j:=by
 obtain ⟨h1,e1⟩:=List.getElem?_eq_some_iff.mp a
 obtain ⟨h2,e2⟩:=List.getElem?_eq_some_iff.mp b
 exact (List.getElem_inj hN).mp (e1.trans e2.symm)
theorem yg {M:Model} {A:Around} {E:Value->Shared->Prop} {i:Nat} {x:Str} {v:V} {u:Value} {Q:Unit->Shared->Prop} (I:Inv X pins σ H s) (hN:X.N.Nodup) (hi:X.N[i]? =some x) (hx:Loc X.env.scope x) (r:j9 v u)
  (h:∀ s',Inv X pins (σ.set i (some v)) H s' ->(∃ a,Heap.SameBut a s.heap s'.heap/\(a=X.env.locals\/X.env.cells.lookup x=some a))->Q () s') (hf:X.fn x=true\/X.env.scope.names.lookup x=some .local:=by first | exact .inl rfl | exact .inr rfl | assumption):wpAny M A (storeName X.env x u) Q E s:=by
 obtain ⟨m,hn,hl⟩:=id I.loc
 have hcls:(X.env.scope.kind == .class || (X.env.scope.kind == .module && X.env.locals != X.env.globals))=false:=by rw [I.ok.kind]; rfl
 have hiσ:i < σ.length:=by rw [I.len]; exact (List.getElem?_eq_some_iff.mp hi).1
 have cne:=I.cne
 have tracked:∀ {a:Addr} {h' :Heap},(∃ o,s.heap.get? a=some o/\H a=none)->Heap.SameBut a s.heap h' ->HOk X.prog X.w H h' :=fun {a h'} ha hs b ob e=>by
  obtain ⟨_,_,hfree⟩:=ha
  refine (I.hok b ob e).stay (fun c w' hc q=>(hs.2 c ?_).trans q) (fun _ q=>q) fun _ _ q=>q
  rintro rfl
  rcases hc with rfl | hc
  ·rw [hfree] at e; cases e
  ·rw [hfree] at hc; cases hc
 rcases hx with hk | hk
 ·refine wpAny_storeName_local hk hn (fun h' hn' hs=> ?_) hcls
  obtain ⟨oL,_,_,hoL,_⟩:=id hn
  refine h _ ⟨I.ok,I.os,I.bare,⟨fun b o e n hb hx=> ?_,fun b o e n hb hx=> ?_,I.base.free,fun b o e hx=> ?_,I.base.tups,I.base.frzs,I.base.tbls⟩,⟨_,hn',fun j y v' e1 e2 e3=> ?_⟩,fun y c e=> ?_,I.free,I.freeC,fun p hp=> ?_,tracked ⟨oL,hoL,I.free⟩ hs,by simpa using I.len⟩ ⟨_,hs, .inl rfl⟩
  ·exact (hs.2 b (Nat.ne_of_lt (Nat.lt_of_lt_of_le (Heap.lt_size e) I.ok.above))).trans (I.base.keep b o e n hb hx)
  ·obtain ⟨sl,e1⟩:=I.base.slot b o e n hb hx
   exact ⟨sl,(hs.2 b (Nat.ne_of_lt (Nat.lt_of_lt_of_le (Heap.lt_size e) I.ok.above))).trans e1⟩
  ·obtain ⟨o',e1⟩:=I.base.there b o e hx
   exact ⟨o',(hs.2 b (Nat.ne_of_lt (Nat.lt_of_lt_of_le (Heap.lt_size e) I.ok.above))).trans e1⟩
  ·by_cases hj:j=i
   ·subst hj
    rw [hi] at e1; cases e1
    rw [List.getElem?_set_self hiσ] at e2
    cases e2
    exact ⟨u,r, .inl ⟨hk,by simp⟩⟩
   ·rw [List.getElem?_set_ne (Ne.symm hj)] at e2
    obtain ⟨u',r',q⟩:=hl j y v' e1 e2 e3
    refine ⟨u',r', ?_⟩
    rcases q with ⟨k,e⟩ | ⟨k,c,e,z⟩
    ·refine .inl ⟨k, ?_⟩
     have:y ≠ x:=fun e=>hj (YX hN e1 (e ▸ hi))
     simp [this,e]
    ·exact .inr ⟨k,c,e,z.sameBut hs (cne y c e)⟩
  ·obtain ⟨w',z⟩:=I.cell y c e
   exact ⟨w',z.sameBut hs (cne y c e)⟩
  ·obtain ⟨e,n,ne,nf,d⟩:=I.pin p hp
   exact ⟨(hs.2 p.1 ne).trans e,n,ne,nf,d⟩
 ·have hfn:X.fn x=true:=by
   rcases hf with z | z
   ·exact z
   ·rw [z] at hk; cases hk
  obtain ⟨c,hc⟩:=I.ok.has x (.inl hk)
  obtain ⟨w',z⟩:=I.cell x c hc
  refine wpAny_storeName_cell I.ok.kind hk hc z (fun h' hc' hs=> ?_)
  obtain ⟨oc,hoc,hocd⟩:=id z
  refine h { s with heap:=h' } ⟨I.ok,I.os,I.bare,⟨fun b o e n hb hx=> ?_,fun b o e n hb hx=> ?_,I.base.free,fun b o e hx=> ?_,I.base.tups,I.base.frzs,I.base.tbls⟩,⟨m,hn.sameBut hs (Ne.symm (cne x c hc)),fun j y v' e1 e2 e3=> ?_⟩,fun y c' e=> ?_,I.free,I.freeC,fun p hp=> ?_,tracked ⟨oc,hoc,I.freeC x c hc⟩ hs,by simpa using I.len⟩ ⟨c,hs, .inr hc⟩
  ·exact (hs.2 b (Nat.ne_of_lt (Nat.lt_of_lt_of_le (Heap.lt_size e) (I.ok.cab x c hfn hc)))).trans (I.base.keep b o e n hb hx)
  ·obtain ⟨sl,e1⟩:=I.base.slot b o e n hb hx
   exact ⟨sl,(hs.2 b (Nat.ne_of_lt (Nat.lt_of_lt_of_le (Heap.lt_size e) (I.ok.cab x c hfn hc)))).trans e1⟩
  ·obtain ⟨o',e1⟩:=I.base.there b o e hx
   exact ⟨o',(hs.2 b (Nat.ne_of_lt (Nat.lt_of_lt_of_le (Heap.lt_size e) (I.ok.cab x c hfn hc)))).trans e1⟩
  ·by_cases hj:j=i
   ·subst hj
    rw [hi] at e1; cases e1
    rw [List.getElem?_set_self hiσ] at e2
    cases e2
    exact ⟨u,r, .inr ⟨.inl hk,c,hc,hc'⟩⟩
   ·rw [List.getElem?_set_ne (Ne.symm hj)] at e2
    obtain ⟨u',r',q⟩:=hl j y v' e1 e2 e3
    refine ⟨u',r', ?_⟩
    rcases q with q | ⟨k,c',e,z'⟩
    ·exact .inl q
    ·refine .inr ⟨k,c',e,z'.sameBut hs ?_⟩
     rintro rfl
     exact hj (YX hN e1 (I.ok.inj _ _ _ e hc ▸ hi))
  ·by_cases hcc:c' =c
   ·subst hcc; exact ⟨_,hc'⟩
   ·obtain ⟨w2,z2⟩:=I.cell y c' e
    exact ⟨w2,z2.sameBut hs hcc⟩
  ·obtain ⟨e,n,ne,nf,d⟩:=I.pin p hp
   refine ⟨(hs.2 p.1 ?_).trans e,n,ne,nf,d⟩
   intro q
   rw [q,hoc] at e
   have q' :oc=p.2:=Option.some.inj e
   exact d w' (by rw [← q']; exact hocd)
theorem WY {M:Model} {A:Around} {E:Value->Shared->Prop} {i:Nat} {x:Str} {v:V} {u:Value} {Q:Unit->Shared->Prop} (I:Inv X pins σ H s) (hN:X.N.Nodup) (hi:X.N[i]? =some x) (hx:Loc X.env.scope x) (r:j9 v u)
  (h:∀ s',Inv X pins (σ.set i (some v)) H s' ->Q () s') (hf:X.fn x=true\/X.env.scope.names.lookup x=some .local:=by first | exact .inl rfl | exact .inr rfl | assumption):wpAny M A (storeName X.env x u) Q E s:=
 yg I hN hi hx r (fun s' I' _=>h s' I') hf
theorem Inv.call' {s' :Shared} {ch:List Addr} (I:Inv X pins σ H s) (ho:s'.os=s.os) (u:Un (frs X.stack) ch H H' s.heap s'.heap) (hok:HOk X.prog X.w H' s'.heap) (hg:AllBare s'.gens)
  (hch:∀ b∈ch,(b∈X.ex\/X.s₀.heap.objs.size<=b)/\b ≠ X.env.locals/\(∀ x c,X.env.cells.lookup x=some c->c ≠ b)/\∀ p∈X.pn++pins,p.1 ≠ b):Inv X pins σ H' s' :=by
 obtain ⟨h',g',d',t',o'⟩:=s'
 have e:o' =s.os:=ho
 subst e
 exact I.call (g' :=g') (t' :=t') (d' :=d') u hok hg hch
end
noncomputable abbrev XK:=Value->Option Addr->Hp->Prop
noncomputable abbrev St:=List (Option V)
noncomputable abbrev VK:=V->Hp->Prop
noncomputable abbrev TE:=St->Hp->VK->Prop
noncomputable abbrev TT:=St->Hp->(Bool->Hp->Prop)->Prop
noncomputable abbrev TA:=St->Hp->(List V->Hp->Prop)->Prop
structure X3 where
 nx:St->Hp->Prop
 rt:VK
 bk:St->Hp->Prop:=fun _ _=>False
 ct:St->Hp->Prop:=fun _ _=>False
noncomputable abbrev TS:=X3->St->Hp->Prop
noncomputable def EP (X:Cx) (pins:List (Addr×Obj)) (σ:St) (Q:VK) (u:Value) (s' :Shared):Prop:=∃ v H',Inv X pins σ H' s' /\j9 v u/\Q v H'
noncomputable def TP (X:Cx) (pins:List (Addr×Obj)) (σ:St) (Q:Bool->Hp->Prop) (b:Bool) (s' :Shared):Prop:=∃ H',Inv X pins σ H' s' /\Q b H'
noncomputable def AP (X:Cx) (pins:List (Addr×Obj)) (σ:St) (Q:List V->Hp->Prop) (us:List Value) (s' :Shared):Prop:=∃ vs H',Inv X pins σ H' s' /\ZB vs us/\Q vs H'
noncomputable def SP (X:Cx) (pins:List (Addr×Obj)) (D:X3) (f:Flow) (s' :Shared):Prop:=
 match f with
 | .next=>∃ σ' H',Inv X pins σ' H' s' /\D.nx σ' H'
 | .brk=>∃ σ' H',Inv X pins σ' H' s' /\D.bk σ' H'
 | .cont=>∃ σ' H',Inv X pins σ' H' s' /\D.ct σ' H'
 | .ret u=>∃ v σ' H',Inv X pins σ' H' s' /\j9 v u/\D.rt v H'
noncomputable def PE (X:Cx) (e:Expr) (t:TE):Prop:=
 ∀ (pins:List (Addr×Obj)) (s:Shared) (σ:St) (H:Hp) (Q:VK),Inv X pins σ H s->t σ H Q->wpAny (model X.prog X.w) X.A (eval e X.env) (EP X pins σ Q) X.xe s
noncomputable def PT (X:Cx) (e:Expr) (t:TT):Prop:=
 ∀ (pins:List (Addr×Obj)) (s:Shared) (σ:St) (H:Hp) (Q:Bool->Hp->Prop),Inv X pins σ H s->t σ H Q->wpAny (model X.prog X.w) X.A (isTrue e X.env (eval e X.env)) (TP X pins σ Q) X.xe s
noncomputable def PW (X:Cx) (e:Expr) (t:TT):Prop:=
 ∀ (whole:Sem Value) (pins:List (Addr×Obj)) (s:Shared) (σ:St) (H:Hp) (Q:Bool->Hp->Prop),Inv X pins σ H s->t σ H Q->wpAny (model X.prog X.w) X.A (isTrue e X.env whole) (TP X pins σ Q) X.xe s
theorem PW.pt {X:Cx} {e:Expr} {t:TT} (h:PW X e t):PT X e t:=h _
noncomputable def PA (X:Cx) (es:List Expr) (t:TA):Prop:=
 ∀ (pos:Pos) (pins:List (Addr×Obj)) (s:Shared) (σ:St) (H:Hp) (Q:List V->Hp->Prop),Inv X pins σ H s->t σ H Q->wpAny (model X.prog X.w) X.A (spliced (backTo pos (starEach es X.env))) (AP X pins σ Q) X.xe s
noncomputable def PS (X:Cx) (st:Stmt) (t:TS):Prop:=
 ∀ (pins:List (Addr×Obj)) (s:Shared) (σ:St) (H:Hp) (D:X3),Inv X pins σ H s->t D σ H->wpAny (model X.prog X.w) X.A (exec st X.env) (SP X pins D) X.xe s
noncomputable def PSs (X:Cx) (st:List Stmt) (t:TS):Prop:=
 ∀ (pins:List (Addr×Obj)) (s:Shared) (σ:St) (H:Hp) (D:X3),Inv X pins σ H s->t D σ H->wpAny (model X.prog X.w) X.A (execs st X.env) (SP X pins D) X.xe s
theorem thn {α:Type} {t:Sem α} {Q Q' :α->Shared->Prop} {M:Model} {A:Around} {E:Value->Shared->Prop} {s:Shared} (h:wpAny M A t Q E s) (hQ:∀ a s,Q a s->Q' a s):wpAny M A t Q' E s:=wpAny_mono h hQ fun _ _ x=>x
end L2
namespace L2
open PySem PySem.Spec PyProof.Rows
section
variable {X:Cx}
theorem bin {a b:Expr} {ta tb:TE} (ha:PE X a ta) (hb:PE X b tb) {pins:List (Addr×Obj)} {s:Shared} {σ:St} {H:Hp} {R:V->V->Hp->Prop} (I:Inv X pins σ H s) (h:ta σ H fun x H1=>tb σ H1 fun y H2=>R x y H2)
  {α:Type} {Q:α->Shared->Prop} {f:Value->Value->Sem α}
  (hf:∀ v u s2 x y H2,Inv X pins σ H2 s2->j9 x v->j9 y u->R x y H2->wpAny (model X.prog X.w) X.A (f v u) Q X.xe s2):
  wpAny (model X.prog X.w) X.A (eval a X.env) (fun v s₁=>wpAny (model X.prog X.w) X.A (eval b X.env) (fun u s₂=>wpAny (model X.prog X.w) X.A (f v u) Q X.xe s₂) X.xe s₁) X.xe s:=by
 refine thn (ha pins s σ H _ I h) fun v s1 ⟨x,H1,I1,r1,q1⟩=> ?_
 refine thn (hb pins s1 σ H1 _ I1 q1) fun u s2 ⟨y,H2,I2,r2,q2⟩=> ?_
 exact hf v u s2 x y H2 I2 r1 r2 q2
noncomputable def XI (i:Nat):TE:=fun σ H Q=>∃ v,σ[i]? =some (some v)/\Q v H
noncomputable def tC (v:V):TE:=fun _ H Q=>Q v H
theorem Kx {i:Nat} {x:Str} {pos:Pos} (hN:X.N[i]? =some x) (hv:Vis X.env.scope x) (hd:(x == ("__debug__":Str))=false:=by decide) (hcd:(x == ("__classdict__":Str))=false:=by decide):PE X (.Name x pos) (XI i):=by
 intro pins s σ H Q I h
 obtain ⟨v,e,h⟩:=h
 obtain ⟨m,hn,hl⟩:=I.loc
 obtain ⟨u,r,l⟩:=hl i x v hN e hv
 have fin:EP X pins σ Q u s:=⟨v,H,I,r,h⟩
 rcases l with ⟨hk,hm⟩ | ⟨hk,c,hc,hcell⟩
 ·exact wpAny_Name (wpAny_loadName_local I.ok.kind hk hn hm fin) hd
 ·rcases hk with hk | hk
  ·exact wpAny_Name (wpAny_loadName_cell I.ok.kind hk hc hcell fin) hd
  ·exact wpAny_Name (wpAny_loadName_free I.ok.kind hk hc hcell fin hcd) hd
theorem Ky {i j pos}:PE X (.Constant (.int i) j pos) (tC (.int i)):=fun _ _ _ H _ I h=>wpAny_Constant_int ⟨.int i,H,I.tok _,⟨_,rfl⟩,h⟩
theorem GB {b j pos}:PE X (.Constant (.bool b) j pos) (tC (.bl b)):=fun _ _ _ H _ I h=>Constant_bool ⟨.bl b,H,I,rfl,h⟩
theorem Kz {j pos}:PE X (.Constant .none j pos) (tC .non):=fun _ _ _ H _ I h=>Constant_none ⟨.non,H,I,rfl,h⟩
theorem X4 {x j pos}:PE X (.Constant (.str x) j pos) (tC (.str x)):=fun _ _ _ H _ I h=>Calls.Constant_str ⟨.str x,H,I.tok _,⟨_,rfl⟩,h⟩
noncomputable def Gl (X:Cx) (x:Str):Prop:=X.env.kindOf x=some .globalImplicit
theorem Ym {E:Value->Shared->Prop} {pins:List (Addr×Obj)} {s:Shared} {σ:St} {H:Hp} {x:Str} {u:Value} {pos:Pos} {Q:Value->Shared->Prop} (I:Inv X pins σ H s) (hg:Gl X x) (hm:X.mg x=some u) (h:Q u s)
  (hd:(x == ("__debug__":Str))=false:=by decide):wpAny (model X.prog X.w) X.A (eval (.Name x pos) X.env) Q E s:=
 Calls.Name_function_global I.ok.kind hg (Calls.loadGlobal_global (by rw [I.ok.glob]; exact I.mod.glob.keeps I.bk) hm h) hd
theorem ww {E:Value->Shared->Prop} {pins:List (Addr×Obj)} {s:Shared} {σ:St} {H:Hp} {x:Str} {u:Value} {pos:Pos} {Q:Value->Shared->Prop} (I:Inv X pins σ H s) (hg:Gl X x) (hm:X.mg x=none) (hv:bootBuiltins x=some u) (h:Q u s)
  (hn:x ≠ "__name__":=by decide) (hd:(x == ("__debug__":Str))=false:=by decide):wpAny (model X.prog X.w) X.A (eval (.Name x pos) X.env) Q E s:=by
 obtain ⟨mb,h1,h2⟩:=I.mod.blt
 exact Calls.Name_function_global I.ok.kind hg (Calls.loadGlobal_builtin (by rw [I.ok.glob]; exact I.mod.glob.keeps I.bk) hm (by rw [I.ok.blt]; exact h1.keeps I.bk) ((h2 x hn).trans hv) h) hd
theorem XJ {x:Str} {v:V} {u:Value} {pos:Pos} (hg:Gl X x) (hm:X.mg x=some u) (r:j9 v u) (hd:(x == ("__debug__":Str))=false:=by decide):PE X (.Name x pos) (tC v):=
 fun _ _ _ H _ I h=>Ym I hg hm ⟨v,H,I,r,h⟩ hd
theorem XL {x:Str} {v:V} {u:Value} {pos:Pos} (hg:Gl X x) (hm:X.mg x=none) (hv:bootBuiltins x=some u) (r:j9 v u) (hn:x ≠ "__name__":=by decide) (hd:(x == ("__debug__":Str))=false:=by decide):PE X (.Name x pos) (tC v):=
 fun _ _ _ H _ I h=>ww I hg hm hv ⟨v,H,I,r,h⟩ hn hd
variable {a b:Expr} {ta tb:TE} {pos:Pos}
variable {tA tB' :TT} {rest:List Expr}
noncomputable def tOr (t u:TT):TT:=fun σ H Q=>t σ H fun c H1=>if c=true then Q true H1 else u σ H1 Q
noncomputable def tNot (t:TT):TT:=fun σ H Q=>t σ H fun c H1=>Q (!c) H1
theorem KA (ha:PT X a tA):PW X (.BoolOp .Or [a] pos) tA:=by
 intro wh pins s σ H Q I h
 refine isTrue_or (thn (ha pins s σ H Q I h) fun c s1 e=> ?_)
 cases c with
 | false=>exact isTrue_or_nil e
 | true=>exact e
theorem GC (ha:PT X a tA) (hb:PW X (.BoolOp .Or (b :: rest) pos) tB'):PW X (.BoolOp .Or (a :: b :: rest) pos) (tOr tA tB'):=by
 intro wh pins s σ H Q I h
 refine isTrue_or (thn (ha pins s σ H _ I h) fun c s1 ⟨H1,I1,q1⟩=> ?_)
 cases c with
 | true=>exact ⟨H1,I1,q1⟩
 | false=>exact hb wh pins s1 σ H1 Q I1 q1
theorem KC (ha:PT X a tA):PT X (.UnaryOp .Not a pos) (tNot tA):=by
 intro pins s σ H Q I h
 exact isTrue_not (ha pins s σ H (fun c H1=>Q (!c) H1) I h)
noncomputable def GD (ta tb:TE):TE:=fun σ H Q=>ta σ H fun x H1=>∃ c,x= .bl c/\if c=true then tb σ H1 Q else Q (.bl false) H1
noncomputable def GE (ta:TE):TE:=fun σ H Q=>ta σ H fun x H1=>∃ c,x= .bl c/\Q (.bl (!c)) H1
theorem KD {op} {t:TE} (h:PE X a t):PE X (.BoolOp op [a] pos) t:=fun pins s σ H Q I hw=>BoolOp_one (h pins s σ H Q I hw)
theorem KF (ha:PE X a ta) (hb:PE X (.BoolOp .And (b :: rest) pos) tb):PE X (.BoolOp .And (a :: b :: rest) pos) (GD ta tb):=by
 intro pins s σ H Q I h
 refine BoolOp_and (thn (ha pins s σ H _ I h) fun v s1 ⟨x,H1,I1,r1,q1⟩=> ?_)
 obtain ⟨c,rfl,q1⟩:=q1
 cases r1
 refine wpAny_truthy_bool ?_
 cases c with
 | true=>exact hb pins s1 σ H1 Q I1 q1
 | false=>exact ⟨.bl false,H1,I1,rfl,q1⟩
theorem KG (ha:PE X a ta):PE X (.UnaryOp .Not a pos) (GE ta):=by
 intro pins s σ H Q I h
 refine UnaryOp_ (thn (ha pins s σ H _ I h) fun v s1 ⟨x,H1,I1,r1,q1⟩=> ?_)
 obtain ⟨c,rfl,q1⟩:=q1
 cases r1
 exact not_of (wpAny_truthy_bool ⟨.bl (!c),H1,I1,rfl,q1⟩)
noncomputable def tIf (t:TT) (ta tb:TE):TE:=fun σ H Q=>t σ H fun c H1=>if c=true then ta σ H1 Q else tb σ H1 Q
theorem VT {c:Expr} (hc:PT X c tA) (ha:PE X a ta) (hb:PE X b tb):PE X (.IfExp c a b pos) (tIf tA ta tb):=by
 intro pins s σ H Q I h
 refine wpAny_IfExp (thn (hc pins s σ H _ I h) fun d s1 ⟨H1,I1,q1⟩=> ?_)
 cases d with
 | true=>exact ha pins s1 σ H1 Q I1 q1
 | false=>exact hb pins s1 σ H1 Q I1 q1
end
end L2
namespace L2
open PySem PySem.Spec PyProof.Rows
noncomputable def SqL (K:PySem.W.Frag) (H:Hp) (a:Addr) (xs:List V):Prop:=
 Rd H a (.lst xs)\/
  ∃ (o:Obj) (its:Array Value) (n:Nat),K.lookup a=some o/\o.cls= .type "list"/\o.dict=none/\o.data= .seq its n/\its.size<=sizeLine/\ZB xs its.toList
noncomputable def SqT (K:PySem.W.Frag) (H:Hp) (a:Addr) (xs:List V):Prop:=
 Rd H a (.tup xs)\/
  ∃ (o:Obj) (its:Array Value) (n:Nat),K.lookup a=some o/\o.cls= .type "tuple"/\o.data= .seq its n/\its.size<=sizeLine/\ZB xs its.toList
noncomputable def absV:Value->Option V
 | .none=>some .non
 | .bool b=>some (.bl b)
 | .int i _=>some (.int i)
 | .str x _=>some (.str x)
 | .bytes b _=>some (.byt b)
 | .float b _=>some (.flt b)
 | .ref a=>some (.ref a)
 | .type n=>some (.ty n)
 | _=>none
theorem j9.abs {x:V} {u:Value} (r:j9 x u):absV u=some x:=by
 cases x with
 | non=>cases r; rfl
 | bl _=>cases r; rfl
 | int _=>obtain ⟨t,rfl⟩:=r; rfl
 | str _=>obtain ⟨t,rfl⟩:=r; rfl
 | byt _=>obtain ⟨t,rfl⟩:=r; rfl
 | flt _=>obtain ⟨t,rfl⟩:=r; rfl
 | ref _=>cases r; rfl
 | ty _=>cases r; rfl
theorem j9.inj {x y:V} {u:Value} (r:j9 x u) (q:j9 y u):x=y:=Option.some.inj (r.abs.symm.trans q.abs)
theorem ZB.inj:∀ {xs ys:List V} {us:List Value},ZB xs us->ZB ys us->xs=ys
 | _,_,_, .nil, .nil=>rfl
 | _,_,_, .cons r t, .cons r' t' =>by rw [r.inj r',ZB.inj t t']
section
variable {X:Cx} {pins:List (Addr×Obj)} {σ:St} {H:Hp} {s:Shared} {a:Addr} {xs ys:List V}
theorem SqL.of {K:PySem.W.Frag} (h:H a=some (.lst xs)):SqL K H a xs:= .inl (.inl h)
theorem SqT.of {K:PySem.W.Frag} (h:H a=some (.tup xs)):SqT K H a xs:= .inl (.inl h)
theorem Inv.list (I:Inv X pins σ H s) (h:SqL X.K H a xs):∃ its:List Value,ZB xs its/\PlainL s.heap a its.toArray/\xs.length<=sizeLine:=by
 rcases h with h | ⟨o,its,n,hk,hc,hd,hs,hz,r⟩
 ·obtain ⟨z,its,n,r,e⟩:=h.ok I.hok
  exact ⟨its,r,⟨_,n,e,rfl,rfl,rfl⟩,z⟩
 ·refine ⟨its.toList,r,⟨o,n,I.kIn a o hk,hc,hd,by simpa using hs⟩, ?_⟩
  have e:=r.length
  simp only [Array.length_toList] at e
  omega
theorem Inv.tuple (I:Inv X pins σ H s) (h:SqT X.K H a xs):∃ its:List Value,ZB xs its/\IsTup s.heap a its.toArray/\xs.length<=sizeLine:=by
 rcases h with h | ⟨o,its,n,hk,hc,hs,hz,r⟩
 ·obtain ⟨z,its,r,p⟩:=h.ok I.hok
  exact ⟨its,r,p,z⟩
 ·refine ⟨its.toList,r,⟨o,I.kIn a o hk,hc,n,by simpa using hs⟩, ?_⟩
  have e:=r.length
  simp only [Array.length_toList] at e
  omega
theorem Inv.list_inj (I:Inv X pins σ H s) (h:SqL X.K H a xs) (h' :SqL X.K H a ys):xs=ys:=by
 obtain ⟨its,r,⟨o,n,e,_,_,d⟩,_⟩:=I.list h
 obtain ⟨its',r',⟨o',n',e',_,_,d'⟩,_⟩:=I.list h'
 rw [e] at e'; cases e'
 rw [d] at d'
 injection d' with d1 _
 have:its=its' :=by simpa using congrArg Array.toList d1
 subst this
 exact r.inj r'
theorem Inv.tuple_inj (I:Inv X pins σ H s) (h:SqT X.K H a xs) (h' :SqT X.K H a ys):xs=ys:=by
 obtain ⟨its,r,⟨o,e,_,n,d⟩,_⟩:=I.tuple h
 obtain ⟨its',r',⟨o',e',_,n',d'⟩,_⟩:=I.tuple h'
 rw [e] at e'; cases e'
 rw [d] at d'
 injection d' with d1 _
 have:its=its' :=by simpa using congrArg Array.toList d1
 subst this
 exact r.inj r'
end
noncomputable abbrev Cx.wish (X:Cx) (E:Value->Shared->Prop):Cx:={ X with xe:=E }
noncomputable abbrev Cx.nox (X:Cx):Cx:=X.wish fun _ _=>False
theorem Cx.Ok.wish {X:Cx} (ok:X.Ok) (E:Value->Shared->Prop):(X.wish E).Ok:=
 ⟨ok.mod,ok.kind,ok.glob,ok.blt,ok.above,ok.inj,ok.has,ok.cab,ok.hd,ok.frames,ok.stk,ok.exf,ok.bs,ok.bsz,ok.noex,ok.exfs,ok.funs,ok.frf⟩
theorem Cx.Ok.unwish {X:Cx} {E:Value->Shared->Prop} (ok:(X.wish E).Ok):X.Ok:=
 ⟨ok.mod,ok.kind,ok.glob,ok.blt,ok.above,ok.inj,ok.has,ok.cab,ok.hd,ok.frames,ok.stk,ok.exf,ok.bs,ok.bsz,ok.noex,ok.exfs,ok.funs,ok.frf⟩
section
variable {X:Cx} {pins:List (Addr×Obj)} {σ:St} {H:Hp} {s:Shared} {E:Value->Shared->Prop}
theorem Inv.wish (I:Inv X pins σ H s) (E:Value->Shared->Prop):Inv (X.wish E) pins σ H s:=⟨I.ok.wish E,I.os,I.bare,I.base,I.loc,I.cell,I.free,I.freeC,I.pin,I.hok,I.len⟩
theorem Inv.unwish (I:Inv (X.wish E) pins σ H s):Inv X pins σ H s:=⟨I.ok.unwish,I.os,I.bare,I.base,I.loc,I.cell,I.free,I.freeC,I.pin,I.hok,I.len⟩
theorem SP.unwish {D:X3} {f:Flow} {s' :Shared} (h:SP (X.wish E) pins D f s'):SP X pins D f s' :=by
 cases f with
 | next=>obtain ⟨σ',H',I,q⟩:=h; exact ⟨σ',H',I.unwish,q⟩
 | brk=>obtain ⟨σ',H',I,q⟩:=h; exact ⟨σ',H',I.unwish,q⟩
 | cont=>obtain ⟨σ',H',I,q⟩:=h; exact ⟨σ',H',I.unwish,q⟩
 | ret u=>obtain ⟨v,σ',H',I,r,q⟩:=h; exact ⟨v,σ',H',I.unwish,r,q⟩
theorem PSs.nox {st:List Stmt} {t:TS} (h:PSs X.nox st t):PSs X st t:=fun pins s σ H D I hw=>
 wpAny_mono (h pins s σ H D (I.wish _) hw) (fun _ _ q=>q.unwish) fun _ _ z=>False.elim z
end
section
variable {X:Cx} {st:Stmt} {rest:List Stmt} {t u:TS} {e:Expr} {te:TE} {pos:Pos}
noncomputable def GF:TS:=fun D σ H=>D.nx σ H
noncomputable def tSeq (t u:TS):TS:=fun D σ H=>t { D with nx:=u D } σ H
theorem XM:PSs X [] GF:=fun _ _ σ H _ I h=>wpAny_execs_nil ⟨σ,H,I,h⟩
theorem VU (h1:PS X st t) (h2:PSs X rest u):PSs X (st :: rest) (tSeq t u):=by
 intro pins s σ H D I h
 refine wpAny_execs_cons (thn (h1 pins s σ H { D with nx:=u D } I h) fun f s1 q=> ?_)
 cases f with
 | next=>
  obtain ⟨σ',H',I',q⟩:=q
  exact h2 pins s1 σ' H' D I' q
 | ret v=>exact q
 | brk=>exact q
 | cont=>exact q
theorem XN (h1:PS X st t):PSs X [st] t:=by
 intro pins s σ H D I h
 refine wpAny_execs_cons (thn (h1 pins s σ H D I h) fun f s1 q=> ?_)
 cases f with
 | next=>exact wpAny_execs_nil q
 | ret v=>exact q
 | brk=>exact q
 | cont=>exact q
theorem Inv.quiet {pins:List (Addr×Obj)} {σ:St} {H:Hp} {s:Shared} (I:Inv X pins σ H s):interactive X.env=false:=by simp [interactive,I.ok.kind]
noncomputable def GG (te:TE):TS:=fun D σ H=>te σ H fun _ H1=>D.nx σ H1
theorem Yn (he:PE X e te) (hs:swapsWith e none pos.line X.env=pure false:=by rfl):PS X (.Expr e pos) (GG te):=by
 intro pins s σ H D I h
 exact wpAny_Expr_any (thn (he pins s σ H _ I h) fun v s1 ⟨x,H1,I1,r1,q1⟩=>⟨σ,H1,I1,q1⟩) I.quiet hs
noncomputable def tRet (te:TE):TS:=fun D σ H=>te σ H D.rt
theorem X5 (he:PE X e te):PS X (.Return (some e) pos) (tRet te):=by
 intro pins s σ H D I h
 exact wpAny_Return_some (thn (he pins s σ H _ I h) fun v s1 ⟨x,H1,I1,r1,q1⟩=>⟨x,σ,H1,I1,r1,q1⟩)
noncomputable def tIfS (c:TT) (t u:TS):TS:=fun D σ H=>c σ H fun b H1=>if b=true then t D σ H1 else u D σ H1
theorem GH {c:Expr} {a b:List Stmt} {tc:TT} (hc:PT X c tc) (ha:PSs X a t) (hb:PSs X b u):PS X (.If c a b pos) (tIfS tc t u):=by
 intro pins s σ H D I h
 refine wpAny_If (thn (hc pins s σ H _ I h) fun d s1 ⟨H1,I1,q1⟩=> ?_)
 cases d with
 | true=>exact ha pins s1 σ H1 D I1 q1
 | false=>exact hb pins s1 σ H1 D I1 q1
end
noncomputable abbrev TG:=V->St->Hp->(St->Hp->Prop)->Prop
noncomputable abbrev TGs:=List V->St->Hp->(St->Hp->Prop)->Prop
noncomputable def PG (X:Cx) (target:Expr) (t:TG):Prop:=
 ∀ (pins:List (Addr×Obj)) (s:Shared) (σ:St) (H:Hp) (v:V) (u:Value) (Q:St->Hp->Prop),Inv X pins σ H s->j9 v u->t v σ H Q->
  wpAny (model X.prog X.w) X.A (assign target X.env u) (fun _ s' =>∃ σ' H',Inv X pins σ' H' s' /\Q σ' H') X.xe s
noncomputable def PGs (X:Cx) (ts:List Expr) (t:TGs):Prop:=
 ∀ (pins:List (Addr×Obj)) (s:Shared) (σ:St) (H:Hp) (vs:List V) (us:List Value) (Q:St->Hp->Prop),Inv X pins σ H s->ZB vs us->t vs σ H Q->
  wpAny (model X.prog X.w) X.A (assignInOrder ((assignEach ts X.env).map (·.2)) us) (fun _ s' =>∃ σ' H',Inv X pins σ' H' s' /\Q σ' H') X.xe s
section
variable {X:Cx} {pos:Pos}
noncomputable def yh (i:Nat):TG:=fun v σ H Q=>Q (σ.set i (some v)) H
theorem zZ {i:Nat} {x:Str} (hN:X.N.Nodup) (hi:X.N[i]? =some x) (hx:Loc X.env.scope x) (hf:X.fn x=true\/X.env.scope.names.lookup x=some .local:=by first | exact .inl rfl | exact .inr rfl | assumption):PG X (.Name x pos) (yh i):=by
 intro pins s σ H v u Q I r h
 exact wpAny_assign_Name (WY I hN hi hx r (fun s' I' =>⟨_,H,I',h⟩) hf)
noncomputable def GI:TGs:=fun vs σ H Q=>vs=[]/\Q σ H
noncomputable def QB (t:TG) (u:TGs):TGs:=fun vs σ H Q=>∃ v r,vs=v :: r/\t v σ H fun σ' H' =>u r σ' H' Q
theorem Uw:PGs X [] GI:=by
 intro pins s σ H vs us Q I r h
 obtain ⟨e,h⟩:=h
 subst e
 cases r
 exact assignInOrder_nil ⟨σ,H,I,h⟩
theorem J8 {e:Expr} {es:List Expr} {t:TG} {u:TGs} (h1:PG X e t) (h2:PGs X es u)
  (hs:(assignEach (e :: es) X.env).map (·.2)=assign e X.env :: (assignEach es X.env).map (·.2):=by rfl):PGs X (e :: es) (QB t u):=by
 intro pins s σ H vs us Q I r h
 obtain ⟨v,vr,e1,h⟩:=h
 subst e1
 cases r with
 | cons r rr=>
  rw [hs]
  refine assignInOrder_cons (thn (h1 pins s σ H _ _ _ I r h) fun _ s1 ⟨σ1,H1,I1,q1⟩=> ?_)
  exact h2 pins s1 σ1 H1 _ _ Q I1 rr q1
noncomputable def GJ (K:PySem.W.Frag) (n:Nat) (t:TGs):TG:=fun v σ H Q=>∃ a xs,v= .ref a/\SqT K H a xs/\xs.length=n/\t xs σ H Q
theorem YY {es:List Expr} {k:Nat} {t:TGs} {n:Nat} (hc:X.calm=true) (h:PGs X es t)
  (hn:(assignEach es X.env).length=n:=by rfl) (hst:(assignEach es X.env).findIdx? (·.1)=none:=by rfl):PG X (.Tuple es k pos) (GJ X.K n t):=by
 intro pins s σ H v u Q I r hw
 obtain ⟨a,xs,e1,hq,hl,hw⟩:=hw
 subst e1
 cases r
 obtain ⟨its,rv,ht,hz⟩:=I.tuple hq
 refine assign_Tuple_tuple (I.ok.hd hc) ht (by simp [hn,← hl,rv.length]) hst fun h' hx=> ?_
 have I1:Inv X pins σ H { s with heap:=h' }:=I.kept (t' :=s.toks) fun b o e=>hx b o (Nat.ne_of_lt (Heap.lt_size e)) e
 exact h pins _ σ H xs _ Q I1 (by simpa using rv) hw
noncomputable def tAsg (te:TE) (g:TG):TS:=fun D σ H=>te σ H fun x H1=>g x σ H1 D.nx
theorem QC {i:Nat} {x:Str} {e:Expr} {te:TE} {pos' :Pos} (hN:X.N.Nodup) (hi:X.N[i]? =some x) (hx:Loc X.env.scope x) (he:PE X e te) (hs:swapsWith e (some (.Name x pos')) pos.line X.env=pure false:=by rfl) (hf:X.fn x=true\/X.env.scope.names.lookup x=some .local:=by first | exact .inl rfl | exact .inr rfl | assumption):
  PS X (.Assign [.Name x pos'] e pos) (tAsg te (yh i)):=by
 intro pins s σ H D I h
 refine wpAny_Assign_Name (thn (he pins s σ H _ I h) fun v s1 ⟨y,H1,I1,r1,q1⟩=> ?_) hs
 exact WY I1 hN hi hx r1 (fun s2 I2=>⟨_,H1,I2,q1⟩) hf
noncomputable def tPar (i j:Nat) (ta:TA):TS:=fun D σ H=>ta σ H fun vs H1=>∃ v w,vs=[v,w]/\D.nx ((σ.set i (some v)).set j (some w)) H1
theorem KH {i j:Nat} {x y:Str} {a b:Expr} {ta:TA} {px py pt:Pos} {kt k2 pt2} (hc:X.calm=true) (hN:X.N.Nodup) (hi:X.N[i]? =some x) (hj:X.N[j]? =some y) (hij:i ≠ j)
  (hx:X.env.scope.names.lookup x=some .local) (hy:X.env.scope.names.lookup y=some .local) (ha:PA X [a,b] ta)
  (hw:swappedStores [.Tuple [.Name x px, .Name y py] kt pt] (.Tuple [a,b] k2 pt2) X.env=pure (some [x,y]))
  (hs:swapsWithSole [.Tuple [.Name x px, .Name y py] kt pt] (.Tuple [a,b] k2 pt2) pos.line X.env=pure false:=by rfl):
  PS X (.Assign [.Tuple [.Name x px, .Name y py] kt pt] (.Tuple [a,b] k2 pt2) pos) (tPar i j ta):=by
 intro pins s σ H D I h
 rw [exec_Assign_arm]
 refine wpAny_bind (wpAny_standAt ?_)
 rw [hs]
 refine wpAny_bind (wpAny_pure ?_)
 rw [if_neg (by decide)]
 refine wpAny_bind (Tuple_ (thn (ha _ pins s σ H _ I h) fun us s1 ⟨vs,H1,I1,r1,q1⟩=> ?_))
 obtain ⟨v,w,e1,q1⟩:=q1
 subst e1
 obtain ⟨u1,u2,rfl,rv,rw'⟩:∃ u1 u2,us=[u1,u2]/\j9 v u1/\j9 w u2:=by
  cases r1 with
  | cons p q=>
   cases q with
   | cons p' q' =>
    cases q'
    exact ⟨_,_,rfl,p,p'⟩
 refine wpAny_newObj_type ?_ (by show 2<=sizeLine; decide)
 have I2:Inv X pins σ H1 { s1 with heap:=s1.heap.push { cls:= .type "tuple",data:= .seq [u1,u2].toArray } }:=I1.kept (t' :=s1.toks) fun b o e=>Heap.get?_push_of_some _ e
 rw [hw]
 refine wpAny_bind (wpAny_pure ?_)
 show wpAny (model X.prog X.w) X.A (do rule "assign.swapped-stores"; let items ← unpackItems (.ref s1.heap.objs.size) 2 none; assignInOrder [fun v=>bindName X.env y v,fun v=>bindName X.env x v] items.reverse; pure Flow.next) _ _ _
 refine wpAny_bind (wpAny_rule (wpAny_bind (unpackItems_tuple (items:= #[u1,u2]) (I.ok.hd hc) (IsTup.new s1.heap _) fun h' hx' => ?_)))
 have I3:=I2.kept (h' :=h') (t' :=s1.toks) fun b o e=>hx' b o (Nat.ne_of_lt (Heap.lt_size e)) e
 show wpAny _ _ (assignInOrder [fun v=>bindName X.env y v,fun v=>bindName X.env x v] [u2,u1] >>= fun _=>pure Flow.next) _ _ _
 refine wpAny_bind (assignInOrder_cons (wpAny_bindName (WY I3 hN hj (.inl hy) rw' (fun s2 I4=> ?_) (.inr hy))))
 refine assignInOrder_cons (wpAny_bindName (WY I4 hN hi (.inl hx) rv (fun s3 I5=>assignInOrder_nil (wpAny_pure ?_)) (.inr hx)))
 rw [List.set_comm _ _ (Ne.symm hij)] at I5
 exact ⟨_,H1,I5,q1⟩
end
section
variable {X:Cx} {pos:Pos}
noncomputable def KI (c:TT) (tb:TS):TS:=fun D σ H=>∃ W:Nat->St->Hp->Prop,(∃ m,W m σ H)/\∀ m σ H,W m σ H->
 c σ H fun b H1=>if b=true then ∃ N:St->Hp->Prop,(∀ σ' H',N σ' H' ->∃ m',m' < m/\W m' σ' H')/\tb { D with nx:=N,ct:=N,bk:=D.nx } σ H1 else D.nx σ H1
theorem VV {c:Expr} {body:List Stmt} {tc:TT} {tb:TS} (hp:PassesOwn (model X.prog X.w) X.A X.env X.xe) (hc:PT X c tc) (hb:PSs X body tb):PS X (.While c body [] pos) (KI tc tb):=by
 intro pins s σ H D I h
 obtain ⟨W,⟨m0,w0⟩,turn⟩:=h
 refine wpAny_While (codeAny_whileLoop (fun n s' =>∃ σ' H',Inv X pins σ' H' s' /\W n σ' H') ?_ m0 ⟨σ,H,I,w0⟩)
 rintro n s1 ⟨σ1,H1,I1,w1⟩
 refine wpAny_passesOwn hp (thn (hc pins s1 σ1 H1 _ I1 (turn n σ1 H1 w1)) fun b s2 ⟨H2,I2,q2⟩=> ?_)
 cases b with
 | true=>
  obtain ⟨N,hN,q2⟩:=q2
  rw [if_pos rfl]
  refine wpAny_passesOwn hp (thn (hb pins s2 σ1 H2 _ I2 q2) fun f s3 q3=> ?_)
  cases f with
  | next=>
   obtain ⟨σ3,H3,I3,n3⟩:=q3
   obtain ⟨m',hm,w3⟩:=hN σ3 H3 n3
   exact ⟨m',hm,σ3,H3,I3,w3⟩
  | cont=>
   obtain ⟨σ3,H3,I3,n3⟩:=q3
   obtain ⟨m',hm,w3⟩:=hN σ3 H3 n3
   exact ⟨m',hm,σ3,H3,I3,w3⟩
  | brk=>exact q3
  | ret v=>exact q3
 | false=>
  rw [if_neg Bool.false_ne_true]
  exact wpAny_execs_nil ⟨σ1,H2,I2,q2⟩
end
structure It where
 go:Nat->Hp->Prop
 yld:Nat->Hp->V->Hp->Prop
 stop:Nat->Hp->Prop
noncomputable def Yh (X:Cx) (pins:List (Addr×Obj)) (H:Hp) (b:Addr):Prop:=
 H b=none/\b ≠ X.env.locals/\b ∉ X.fs/\(b∈X.ex\/X.s₀.heap.objs.size<=b)/\(∀ x c,X.env.cells.lookup x=some c->c ≠ b)/\∀ p∈X.pn++pins,p.1 ≠ b
theorem Inv.fpOk {X:Cx} {pins:List (Addr×Obj)} {σ:St} {H H' :Hp} {s:Shared} {b:Addr} (I:Inv X pins σ H s) (hb:s.heap.objs.size<=b) (hn:H' b=none):Yh X pins H' b:=by
 refine ⟨hn,Nat.ne_of_gt (Nat.lt_of_lt_of_le I.lt hb),I.nofs hb, .inr (Nat.le_trans I.sz hb),fun x c e z=> ?_,fun p hp z=> ?_⟩
 ·obtain ⟨v,q⟩:=I.cell x c e
  exact absurd (Nat.lt_of_lt_of_le q.lt (by rw [z]; exact hb)) (Nat.lt_irrefl _)
 ·exact absurd (Nat.lt_of_lt_of_le (Heap.lt_size (I.pin p hp).1) (by rw [z]; exact hb)) (Nat.lt_irrefl _)
structure QD (P:Program) (w:World) (K:PySem.W.Frag) (tg:Expr) (J:It) (fp:List Addr) (it:Addr) (tn:Nat->Heap->Prop):Prop where
 mem:it∈fp
 obj:∀ i h,tn i h->∀ b∈fp,∃ o,h.get? b=some o/\∀ v,o.data ≠ .cell v
 keep:∀ i h h',tn i h->(∀ b∈fp,∀ o,h.get? b=some o->h'.get? b=some o)->tn i h'
 item:∀ (X:Cx),X.prog=P->X.w=w->X.K=K->X.calm=true->∀ (i:Nat) (pins:List (Addr×Obj)) (s:Shared) (σ:St) (H:Hp) (E:Value->Shared->Prop),Inv X pins σ H s->(∀ b∈fp,Yh X pins H b)->tn i s.heap->J.go i H->
  wpAny (model P w) X.A (pyNext (.ref it)) (fun r s1=>∃ u,r=some u/\
   wpAny (model P w) X.A (letOwnedTupleGo tg (.ref it) u) (fun _ s2=>∃ x H',Inv X pins σ H' s2/\j9 x u/\J.yld i H x H' /\tn (i+1) s2.heap/\∀ b∈fp,H' b=none) E s1) E s
 done:∀ (X:Cx),X.prog=P->X.w=w->X.K=K->X.calm=true->∀ (i:Nat) (pins:List (Addr×Obj)) (s:Shared) (σ:St) (H:Hp) (E:Value->Shared->Prop),Inv X pins σ H s->(∀ b∈fp,Yh X pins H b)->tn i s.heap->J.stop i H->
  wpAny (model P w) X.A (pyNext (.ref it)) (fun r s1=>r=none/\Inv X pins σ H s1) E s
 self:∀ (A:Around) (i:Nat) (s:Shared) (Q:Value->Shared->Prop) (E:Value->Shared->Prop),tn i s.heap->Q (.ref it) s->wpAny (model P w) A (pyIter (.ref it)) Q E s
noncomputable abbrev TI:=St->Hp->(It->Hp->Prop)->Prop
noncomputable def PIE (X:Cx) (pins:List (Addr×Obj)) (σ:St) (tg:Expr) (R:It->Hp->Prop) (itv:Value) (s2:Shared):Prop:=
 ∃ (it:Addr) (fp:List Addr) (tn:Nat->Heap->Prop) (J:It) (H' :Hp),itv= .ref it/\Inv X pins σ H' s2/\QD X.prog X.w X.K tg J fp it tn/\tn 0 s2.heap/\(∀ b∈fp,Yh X pins H' b)/\R J H'
noncomputable def PI (X:Cx) (tg iter:Expr) (wi:TI):Prop:=
 ∀ (pins:List (Addr×Obj)) (s:Shared) (σ:St) (H:Hp) (R:It->Hp->Prop),Inv X pins σ H s->wi σ H R->
  wpAny (model X.prog X.w) X.A (eval iter X.env) (fun v s1=>wpAny (model X.prog X.w) X.A (pyIter v) (PIE X pins σ tg R) X.xe s1) X.xe s
theorem qP {M:Model} {A:Around} {E:Value->Shared->Prop} {s:Shared} {tg:Expr} {it:Addr} {u:Value} {o:Obj} {n:String} {vs:Array Value} {Q:Unit->Shared->Prop} (ho:s.heap.get? it=some o) (hc:o.cls= .type n) (hd:o.data= .fields vs)
  (hn:["enumerate","zip","dict_itemiterator","dict_reverseitemiterator","odict_iterator","itertools.zip_longest","itertools.pairwise"].contains n=false) (hQ:Q () s):wpAny M A (letOwnedTupleGo tg (.ref it) u) Q E s:=by
 unfold letOwnedTupleGo
 cases tg <;> first
  | exact wpAny_pure hQ
  | (cases u <;> first
    | exact wpAny_pure hQ
    | (refine wpAny_bind (wpAny_load ho ?_); rw [hc,hd]; show wpAny M A (if (["enumerate","zip","dict_itemiterator","dict_reverseitemiterator","odict_iterator","itertools.zip_longest","itertools.pairwise"].contains n && vs[0]? == some (rawInt _))=true then _ else _) Q E s; rw [if_neg (by intro h; rw [hn,Bool.false_and] at h; cases h)]; exact wpAny_pure hQ))
noncomputable def Itl (K:PySem.W.Frag) (a:Addr):It:=
 ⟨fun i H=>∃ xs x,SqL K H a xs/\xs[i]? =some x,fun i H x H' =>H' =H/\∀ xs,SqL K H a xs->xs[i]? =some x,fun i H=>∃ xs,SqL K H a xs/\xs.length<=i⟩
noncomputable def Itt (K:PySem.W.Frag) (a:Addr):It:=
 ⟨fun i H=>∃ xs x,SqT K H a xs/\xs[i]? =some x,fun i H x H' =>H' =H/\∀ xs,SqT K H a xs->xs[i]? =some x,fun i H=>∃ xs,SqT K H a xs/\xs.length<=i⟩
noncomputable def Itr (lo:Int) (n:Nat):It:=⟨fun i _=>i < n,fun i H x H' =>H' =H/\x= .int (lo+i),fun i _=>n<=i⟩
theorem QE {P:Program} {w:World} {K:PySem.W.Frag} {tg:Expr} (a it:Addr):QD P w K tg (Itl K a) [it] it (fun i h=>h.IsListIter it a i) where
 mem:=by simp
 obj:=fun i h st b hb=>by
  have e:b=it:=by simpa using hb
  subst e
  obtain ⟨o,e,c,d⟩:=st
  exact ⟨o,e,fun v z=>by rw [d] at z; cases z⟩
 keep:=fun i h h' st k=>st.at fun o e=>k it (by simp) o e
 item:=by
  intro X hP hw hK hc i pins s σ H E I hf st hg
  subst hP hw hK
  obtain ⟨xs,x,hq,hx⟩:=hg
  obtain ⟨its,rv,p,hz⟩:=I.list hq
  obtain ⟨u,hu,ru⟩:=rv.get hx
  obtain ⟨f0,f1,f2,f3,f4,f5⟩:=hf it (by simp)
  refine wpAny_pyNext_list_item st p.isList (x:=u) (by simpa using hu) fun h' st' sb=> ?_
  have I1:Inv X pins σ H { s with heap:=h' }:=I.turned (t' :=s.toks) (fun b o hb e=>(sb.2 b hb).trans e) f0 f1 f3 f4 f5
  obtain ⟨o,e,c,d⟩:=id st'
  exact ⟨u,rfl,qP (s:={ s with heap:=h' }) e c d (by decide) ⟨x,H,I1,ru,⟨rfl,fun ys hy=>by rw [I.list_inj hy hq]; exact hx⟩,st',fun b hb=>(hf b hb).1⟩⟩
 done:=by
  intro X hP hw hK hc i pins s σ H E I hf st hg
  subst hP hw hK
  obtain ⟨xs,hq,hx⟩:=hg
  obtain ⟨its,rv,p,hz⟩:=I.list hq
  obtain ⟨f0,f1,f2,f3,f4,f5⟩:=hf it (by simp)
  have hl:=rv.length
  exact wpAny_pyNext_list_end (I.ok.hd hc) st p.isList (by simp; omega) fun h' eb=>⟨rfl,I.turned (t' :=s.toks) (fun b o hb e=>eb b o hb e) f0 f1 f3 f4 f5⟩
 self:=fun _ _ _ _ _ st h=>wpAny_pyIter_listiter st h
theorem qQ {P:Program} {w:World} {K:PySem.W.Frag} {tg:Expr} (a it:Addr):QD P w K tg (Itt K a) [it] it (fun i h=>h.IsTupleIter it a i) where
 mem:=by simp
 obj:=fun i h st b hb=>by
  have e:b=it:=by simpa using hb
  subst e
  obtain ⟨o,e,c,d⟩:=st
  exact ⟨o,e,fun v z=>by rw [d] at z; cases z⟩
 keep:=fun i h h' st k=>st.at fun o e=>k it (by simp) o e
 item:=by
  intro X hP hw hK hc i pins s σ H E I hf st hg
  subst hP hw hK
  obtain ⟨xs,x,hq,hx⟩:=hg
  obtain ⟨its,rv,p,hz⟩:=I.tuple hq
  obtain ⟨u,hu,ru⟩:=rv.get hx
  obtain ⟨f0,f1,f2,f3,f4,f5⟩:=hf it (by simp)
  refine wpAny_pyNext_tuple_item st (show s.heap.IsTuple a its.toArray from p) (x:=u) (by simpa using hu) fun h' st' sb=> ?_
  have I1:Inv X pins σ H { s with heap:=h' }:=I.turned (t' :=s.toks) (fun b o hb e=>(sb.2 b hb).trans e) f0 f1 f3 f4 f5
  obtain ⟨o,e,c,d⟩:=id st'
  exact ⟨u,rfl,qP (s:={ s with heap:=h' }) e c d (by decide) ⟨x,H,I1,ru,⟨rfl,fun ys hy=>by rw [I.tuple_inj hy hq]; exact hx⟩,st',fun b hb=>(hf b hb).1⟩⟩
 done:=by
  intro X hP hw hK hc i pins s σ H E I hf st hg
  subst hP hw hK
  obtain ⟨xs,hq,hx⟩:=hg
  obtain ⟨its,rv,p,hz⟩:=I.tuple hq
  obtain ⟨f0,f1,f2,f3,f4,f5⟩:=hf it (by simp)
  have hl:=rv.length
  exact wpAny_pyNext_tuple_end (I.ok.hd hc) st (show s.heap.IsTuple a its.toArray from p) (by simp; omega) fun h' eb=>⟨rfl,I.turned (t' :=s.toks) (fun b o hb e=>eb b o hb e) f0 f1 f3 f4 f5⟩
 self:=fun _ _ _ _ _ st h=>wpAny_pyIter_tupleiter st h
theorem qR {P:Program} {w:World} {K:PySem.W.Frag} {tg:Expr} (it:Addr) (lo:Int) (n:Nat):QD P w K tg (Itr lo n) [it] it (fun i h=>IsRangeIter h it (lo+(i:Nat)*1) ((n:Int) - (i:Nat)) 1) where
 mem:=by simp
 obj:=fun i h st b hb=>by
  have e:b=it:=by simpa using hb
  subst e
  exact ⟨_,st,fun v z=>by
   have z' :Data.fields _=Data.cell v:=z
   cases z'⟩
 keep:=fun i h h' st k=>k it (by simp) _ st
 item:=by
  intro X hP hw hK hc i pins s σ H E I hf st hg
  subst hP hw hK
  obtain ⟨f0,f1,f2,f3,f4,f5⟩:=hf it (by simp)
  have W:=Walks.range (prog:=X.prog) (w:=X.w) (I.ok.hd hc) it lo 1 n
  refine W.item i s _ _ hg st fun v h' tk hv st' kk=> ?_
  obtain ⟨t,rfl⟩:=hv
  have I1:Inv X pins σ H { s with heap:=h',toks:=tk }:=I.turned (fun b o hb e=>kk b o (by simpa using hb) e) f0 f1 f3 f4 f5
  refine ⟨_,rfl,qP (s:={ s with heap:=h',toks:=tk }) (n:="range_iterator") st' rfl rfl (by decide) ⟨.int (lo+i),H,I1,⟨t, ?_⟩,⟨rfl,rfl⟩,st',fun b hb=>(hf b hb).1⟩⟩
  rw [Int.mul_one]
 done:=by
  intro X hP hw hK hc i pins s σ H E I hf st hg
  subst hP hw hK
  obtain ⟨f0,f1,f2,f3,f4,f5⟩:=hf it (by simp)
  exact wpAny_pyNext_range_end (I.ok.hd hc) st (by have:n<=i:=hg; omega) fun h' eb=>⟨rfl,I.turned (t' :=s.toks) (fun b o hb e=>eb b o hb e) f0 f1 f3 f4 f5⟩
 self:=fun _ _ _ _ _ st h=>wpAny_pyIter_rangeiter st h
end L2
namespace L2
open PySem PySem.Spec PyProof.Rows
section
variable {X:Cx} {tg:Expr}
theorem YZ {pins:List (Addr×Obj)} {σ:St} {H:Hp} {s:Shared} {R:It->Hp->Prop} {E:Value->Shared->Prop} {lo hi:Int} {t u v:Tok} {tk:Nat} (I:Inv X pins σ H s) (h1: -(2 ^ 62)<=lo) (h2:lo < 2 ^ 62) (h3: -(2 ^ 62)<=hi) (h4:hi < 2 ^ 62)
  (q:R (Itr lo (hi - lo).toNat) H):wpAny (model X.prog X.w) X.A (pyIter (.ref s.heap.objs.size)) (PIE X pins σ tg R) E { s with heap:=s.heap.push { cls:= .type "range",data:= .fields #[.int lo t, .int hi u, .int 1 v] },toks:=tk }:=by
 refine wpAny_pyIter_range (IsRange.new ..) (small_one h1 h2 h3 h4) ?_
 have I1:Inv X pins σ H { s with heap:=s.heap.push { cls:= .type "range",data:= .fields #[.int lo t, .int hi u, .int 1 v] },toks:=tk }:=I.kept fun b o e=>Heap.get?_push_of_some _ e
 refine ⟨(s.heap.push { cls:= .type "range",data:= .fields #[.int lo t, .int hi u, .int 1 v] }).objs.size,[(s.heap.push { cls:= .type "range",data:= .fields #[.int lo t, .int hi u, .int 1 v] }).objs.size],_,_,H,rfl,
  I1.kept (t' :=tk) fun b o e=>Heap.get?_push_of_some _ e,qR _ lo (hi - lo).toNat, ?_,fun b hb=> ?_,q⟩
 ·have e1:lo+((0:Nat):Int)*1=lo:=by simp
  have e2:(((hi - lo).toNat:Nat):Int) - ((0:Nat):Int)=Builtin.Range.rangeSize lo hi 1:=by rw [rangeSize_one]; split <;> omega
  show IsRangeIter _ _ (lo+((0:Nat):Int)*1) ((((hi - lo).toNat:Nat):Int) - ((0:Nat):Int)) 1
  rw [e1,e2]
  exact Heap.get?_push_size _ rfl
 ·have e:b=(s.heap.push { cls:= .type "range",data:= .fields #[.int lo t, .int hi u, .int 1 v] }).objs.size:=by simpa using hb
  subst e
  exact I1.fpOk (Nat.le_refl _) (I1.hok.fresh (Nat.le_refl _))
noncomputable def GK (ta:TA):TI:=fun σ H R=>ta σ H fun vs H1=>∃ j:Int,vs=[.int j]/\ -(2 ^ 62)<=j/\j < 2 ^ 62/\R (Itr 0 j.toNat) H1
noncomputable def GL (ta:TA):TI:=fun σ H R=>ta σ H fun vs H1=>∃ i j:Int,vs=[.int i, .int j]/\(-(2 ^ 62)<=i/\i < 2 ^ 62/\ -(2 ^ 62)<=j/\j < 2 ^ 62)/\R (Itr i (j - i).toNat) H1
theorem QF {a:Expr} {ta:TA} {p pos:Pos} (hg:Gl X "range") (hm:X.mg "range"=none) (ha:PA X [a] ta) (hs:starEach [a] X.env=[(false,eval a X.env)]:=by rfl):PI X tg (.Call (.Name "range" p) [a] [] pos) (GK ta):=by
 intro pins s σ H R I h
 refine Call_ (ww I hg hm boot_range (PyProof.Rows.callWith_type1 (thn (ha pos pins s σ H _ I h) fun us s1 ⟨vs,H1,I1,r1,q1⟩=> ?_) hs rfl))
 obtain ⟨j,e,q1,q2,q⟩:=q1
 subst e
 cases r1 with
 | cons r rr=>
  cases rr
  obtain ⟨t,rfl⟩:=r
  exact call_range_1 (YZ I1 (by omega) (by omega) q1 q2 (by simpa using q))
theorem QG {a b:Expr} {ta:TA} {p pos:Pos} (hg:Gl X "range") (hm:X.mg "range"=none) (ha:PA X [a,b] ta) (hs:starEach [a,b] X.env=[(false,eval a X.env),(false,eval b X.env)]:=by rfl) (hs2:starEach [b] X.env=[(false,eval b X.env)]:=by rfl):
  PI X tg (.Call (.Name "range" p) [a,b] [] pos) (GL ta):=by
 intro pins s σ H R I h
 refine Call_ (ww I hg hm boot_range (PyProof.Rows.callWith_type1 (thn (ha pos pins s σ H _ I h) fun us s1 ⟨vs,H1,I1,r1,q1⟩=> ?_) (by rw [hs,hs2]) (by rw [hs2]; rfl)))
 obtain ⟨i,j,e,⟨q1,q2,q3,q4⟩,q⟩:=q1
 subst e
 cases r1 with
 | cons r rr=>
  cases rr with
  | cons r' rr=>
   cases rr
   obtain ⟨t,rfl⟩:=r
   obtain ⟨t',rfl⟩:=r'
   exact call_range_2 (YZ I1 q1 q2 q3 q4 q)
noncomputable def tFor (wi:TI) (g:TG) (tb:TS):TS:=fun D σ H=>wi σ H fun J H1=>∃ W:Nat->Nat->St->Hp->Prop,(∃ m,W 0 m σ H1)/\∀ i m σ H,W i m σ H->
 (J.stop i H/\D.nx σ H)\/(J.go i H/\∃ N:St->Hp->Prop,(∀ σ' H',N σ' H' ->∃ m',m' < m/\W (i+1) m' σ' H')/\∀ x H',J.yld i H x H' ->g x σ H' fun σ2 H2=>tb { D with nx:=N,ct:=N,bk:=D.nx } σ2 H2)
noncomputable def yi (fp:List Addr) (h:Heap):List (Addr×Obj):=fp.filterMap fun b=>(h.get? b).map fun o=>(b,o)
theorem wj {fp:List Addr} {h:Heap} {b:Addr} {o:Obj} (hb:b∈fp) (e:h.get? b=some o):(b,o)∈yi fp h:=List.mem_filterMap.mpr ⟨b,hb,by rw [e]; rfl⟩
theorem QH {fp:List Addr} {h:Heap} {p:Addr×Obj} (hp:p∈yi fp h):p.1∈fp/\h.get? p.1=some p.2:=by
 obtain ⟨b,hb,e⟩:=List.mem_filterMap.mp hp
 cases q:h.get? b with
 | none=>rw [q] at e; cases e
 | some o=>
  rw [q] at e
  have e' :(b,o)=p:=Option.some.inj e
  subst e'
  exact ⟨hb,q⟩
theorem Inv.pinned {pins:List (Addr×Obj)} {σ:St} {H:Hp} {s:Shared} {fp:List Addr} (I:Inv X pins σ H s) (hf:∀ b∈fp,Yh X pins H b) (ho:∀ b∈fp,∃ o,s.heap.get? b=some o/\∀ v,o.data ≠ .cell v):Inv X (pins++yi fp s.heap) σ H s:=
 I.pins_of fun p hp=>(List.mem_append.mp hp).elim (fun z=>I.pin p (List.mem_append_right _ z)) fun z=>by
  obtain ⟨hb,e⟩:=QH z
  obtain ⟨f0,f1,f2,_⟩:=hf p.1 hb
  obtain ⟨o,e',d⟩:=ho p.1 hb
  rw [e] at e'; cases e'
  exact ⟨e,f0,f1,f2,d⟩
theorem Inv.unpinned {pins pl:List (Addr×Obj)} {σ:St} {H:Hp} {s:Shared} (I:Inv X (pins++pl) σ H s):Inv X pins σ H s:=I.pins_of fun p hp=>I.pin p (List.mem_append_right _ (List.mem_append_left _ hp))
theorem KJ {iter:Expr} {body:List Stmt} {wi:TI} {g:TG} {tb:TS} {pos:Pos} (hp:PassesOwn (model X.prog X.w) X.A X.env X.xe) (hc:X.calm=true) (hi:PI X tg iter wi) (hg:PG X tg g) (hb:PSs X body tb)
  (hs:∀ x,foldedSetIterable iter X.env x=pure x:=by intro _; rfl):PS X (.For tg iter body [] pos) (tFor wi g tb):=by
 intro pins s σ H D I h
 refine wpAny_For (thn (hi pins s σ H _ I h) fun v s1 h1=>thn h1 fun itv s2 h2=> ?_) hs
 obtain ⟨it,fp,tn,J,H2,e,I2,T,st2,f2,W,⟨m0,w0⟩,turn⟩:=h2
 subst e
 have stat:∀ {H' :Hp},(∀ b∈fp,H' b=none)->∀ b∈fp,Yh X pins H' b:=fun hn b hb=>⟨hn b hb,(f2 b hb).2⟩
 refine codeAny_forLoop_any (fun n s' =>∃ i σ' H',Inv X pins σ' H' s' /\tn i s'.heap/\(∀ b∈fp,H' b=none)/\W i n σ' H') ?_ m0 ⟨0,σ,H2,I2,st2,fun b hb=>(f2 b hb).1,w0⟩
 rintro n s3 ⟨i,σ3,H3,I3,st3,fr3,w3⟩
 rcases turn i n σ3 H3 w3 with ⟨stop,qn⟩ | ⟨go,N,hN,step⟩
 ·refine wpAny_passesOwn hp (thn (T.done X rfl rfl rfl hc i pins s3 σ3 H3 X.xe I3 (stat fr3) st3 stop) fun r s4 ⟨hr,I4⟩=> ?_)
  subst hr
  exact wpAny_execs_nil ⟨σ3,H3,I4,qn⟩
 ·refine wpAny_passesOwn hp (thn (T.item X rfl rfl rfl hc i pins s3 σ3 H3 X.xe I3 (stat fr3) st3 go) fun r s4 ⟨u,hr,h4⟩=> ?_)
  subst hr
  refine wpAny_passesOwn hp (thn h4 fun _ s5 ⟨x,H5,I5,r5,y5,st5,fr5⟩=> ?_)
  have I5' :=I5.pinned (stat fr5) (T.obj _ _ st5)
  refine wpAny_passesOwn hp (thn (hg _ s5 σ3 H5 x u _ I5' r5 (step x H5 y5)) fun _ s6 ⟨σ6,H6,I6,q6⟩=> ?_)
  refine wpAny_passesOwn hp (thn (hb _ s6 σ6 H6 _ I6 q6) fun f s7 q7=> ?_)
  have again:∀ {σ7:St} {H7:Hp},Inv X (pins++yi fp s5.heap) σ7 H7 s7->N σ7 H7->∃ m,m < n/\∃ i σ' H',Inv X pins σ' H' s7/\tn i s7.heap/\(∀ b∈fp,H' b=none)/\W i m σ' H' :=fun {σ7 H7} I7 n7=>by
   obtain ⟨m',hm,w7⟩:=hN σ7 H7 n7
   refine ⟨m',hm,i+1,σ7,H7,I7.unpinned,T.keep _ _ _ st5 fun b hb o e=>(I7.pin (b,o) (List.mem_append_right _ (List.mem_append_right _ (wj hb e)))).1,fun b hb=> ?_,w7⟩
   obtain ⟨o,e,d⟩:=T.obj _ _ st5 b hb
   exact (I7.pin (b,o) (List.mem_append_right _ (List.mem_append_right _ (wj hb e)))).2.1
  cases f with
  | next=>obtain ⟨σ7,H7,I7,n7⟩:=q7; exact again I7 n7
  | cont=>obtain ⟨σ7,H7,I7,n7⟩:=q7; exact again I7 n7
  | brk=>obtain ⟨σ7,H7,I7,q7⟩:=q7; exact ⟨σ7,H7,I7.unpinned,q7⟩
  | ret v=>obtain ⟨x7,σ7,H7,I7,r7,q7⟩:=q7; exact ⟨x7,σ7,H7,I7.unpinned,r7,q7⟩
end
end L2
namespace L2
open PySem PySem.Spec PyProof.Rows
noncomputable abbrev R2:=V->V->Hp->VK->Prop
noncomputable def OpR (X:Cx) (f:Value->Value->Sem Value) (r:R2):Prop:=
 ∀ (pins:List (Addr×Obj)) (s:Shared) (σ:St) (H:Hp) (x y:V) (v u:Value) (Q:VK),Inv X pins σ H s->j9 x v->j9 y u->r x y H Q->
  wpAny (model X.prog X.w) X.A (f v u) (EP X pins σ Q) X.xe s
noncomputable def UnR (X:Cx) (f:Value->Sem Value) (r:V->Hp->VK->Prop):Prop:=
 ∀ (pins:List (Addr×Obj)) (s:Shared) (σ:St) (H:Hp) (x:V) (v:Value) (Q:VK),Inv X pins σ H s->j9 x v->r x H Q->
  wpAny (model X.prog X.w) X.A (f v) (EP X pins σ Q) X.xe s
noncomputable def Jq (X:Cx) (f:Value) (r:List V->Hp->VK->Prop):Prop:=
 ∀ (pins:List (Addr×Obj)) (s:Shared) (σ:St) (H:Hp) (xs:List V) (us:List Value) (Q:VK),Inv X pins σ H s->ZB xs us->r xs H Q->
  wpAny (model X.prog X.w) X.A (call f us) (EP X pins σ Q) X.xe s
noncomputable def TruR (X:Cx) (r:V->Hp->(Bool->Hp->Prop)->Prop):Prop:=
 ∀ (pins:List (Addr×Obj)) (s:Shared) (σ:St) (H:Hp) (x:V) (v:Value) (Q:Bool->Hp->Prop),Inv X pins σ H s->j9 x v->r x H Q->
  wpAny (model X.prog X.w) X.A (truthy v) (TP X pins σ Q) X.xe s
noncomputable def tOp (r:R2) (ta tb:TE):TE:=fun σ H Q=>ta σ H fun x H1=>tb σ H1 fun y H2=>r x y H2 Q
noncomputable def tUn (r:V->Hp->VK->Prop) (ta:TE):TE:=fun σ H Q=>ta σ H fun x H1=>r x H1 Q
noncomputable def rI (C:Int->Int->Prop) (g:Int->Int->V):R2:=fun x y H Q=>∃ i j,x= .int i/\y= .int j/\C i j/\Q (g i j) H
noncomputable def rI0 (g:Int->Int->V):R2:=fun x y H Q=>∃ i j,x= .int i/\y= .int j/\Q (g i j) H
noncomputable def rU (g:Int->V):V->Hp->VK->Prop:=fun x H Q=>∃ i,x= .int i/\Q (g i) H
section
variable {X:Cx} {a b c:Expr} {ta tb tc:TE} {pos:Pos}
theorem GM (ha:PE X a ta) (hb:PE X b tb) {pins:List (Addr×Obj)} {s:Shared} {σ:St} {H:Hp} {R:V->V->Hp->Prop} (I:Inv X pins σ H s)
  (h:ta σ H fun x H1=>tb σ H1 fun y H2=>R x y H2) {Q:Value->Shared->Prop} {f:Value->Value->Sem Value}
  (hf:∀ v u s2 x y H2,Inv X pins σ H2 s2->j9 x v->j9 y u->R x y H2->wpAny (model X.prog X.w) X.A (f v u) Q X.xe s2):
  wpAny (model X.prog X.w) X.A (eval a X.env) (fun v s₁=>wpAny (model X.prog X.w) X.A (eval b X.env) (fun u s₂=>wpAny (model X.prog X.w) X.A (f v u) Q X.xe s₂) X.xe s₁) X.xe s:=by
 refine thn (ha pins s σ H _ I h) fun v s1 ⟨x,H1,I1,r1,q1⟩=> ?_
 refine thn (hb pins s1 σ H1 _ I1 q1) fun u s2 ⟨y,H2,I2,r2,q2⟩=> ?_
 exact hf v u s2 x y H2 I2 r1 r2 q2
theorem GN {op:Operator} {r:R2} (ho:OpR X (binaryOp op) r) (ha:PE X a ta) (hb:PE X b tb):PE X (.BinOp a op b pos) (tOp r ta tb):=by
 intro pins s σ H Q I h
 exact wpAny_BinOp (GM ha hb I h fun v u s2 x y H2 I2 rx ry q=>ho pins s2 σ H2 x y v u Q I2 rx ry q)
theorem GO {op:UnaryOp} {r:V->Hp->VK->Prop} (ho:UnR X (unaryOp op) r) (ha:PE X a ta):PE X (.UnaryOp op a pos) (tUn r ta):=by
 intro pins s σ H Q I h
 exact UnaryOp_ (thn (ha pins s σ H _ I h) fun v s1 ⟨x,H1,I1,r1,q1⟩=>ho pins s1 σ H1 x v Q I1 r1 q1)
theorem opI {f:Value->Value->Sem Value} {C:Int->Int->Prop} {g:Int->Int->Int}
  (rule:∀ (i j:Int) (t u:Tok) (s:Shared) (Q:Value->Shared->Prop) (E:Value->Shared->Prop),C i j->Q (.int (g i j) s.toks) { s with toks:=s.toks+1 }->wpAny (model X.prog X.w) X.A (f (.int i t) (.int j u)) Q E s):
  OpR X f (rI C fun i j=> .int (g i j)):=by
 intro pins s σ H x y v u Q I rx ry h
 obtain ⟨i,j,rfl,rfl,hc,q⟩:=h
 obtain ⟨t,rfl⟩:=rx
 obtain ⟨t',rfl⟩:=ry
 exact rule i j t t' s _ _ hc ⟨.int (g i j),H,I.tok _,⟨_,rfl⟩,q⟩
theorem opI0 {f:Value->Value->Sem Value} {g:Int->Int->Int}
  (rule:∀ (i j:Int) (t u:Tok) (s:Shared) (Q:Value->Shared->Prop) (E:Value->Shared->Prop),Q (.int (g i j) s.toks) { s with toks:=s.toks+1 }->wpAny (model X.prog X.w) X.A (f (.int i t) (.int j u)) Q E s):
  OpR X f (rI0 fun i j=> .int (g i j)):=by
 intro pins s σ H x y v u Q I rx ry h
 obtain ⟨i,j,rfl,rfl,q⟩:=h
 obtain ⟨t,rfl⟩:=rx
 obtain ⟨t',rfl⟩:=ry
 exact rule i j t t' s _ _ ⟨.int (g i j),H,I.tok _,⟨_,rfl⟩,q⟩
theorem GP {f:Value->Value->Sem Value} {g:Int->Int->Bool}
  (rule:∀ (i j:Int) (t u:Tok) (s:Shared) (Q:Value->Shared->Prop) (E:Value->Shared->Prop),Q (.bool (g i j)) s->wpAny (model X.prog X.w) X.A (f (.int i t) (.int j u)) Q E s):
  OpR X f (rI0 fun i j=> .bl (g i j)):=by
 intro pins s σ H x y v u Q I rx ry h
 obtain ⟨i,j,rfl,rfl,q⟩:=h
 obtain ⟨t,rfl⟩:=rx
 obtain ⟨t',rfl⟩:=ry
 exact rule i j t t' s _ _ ⟨.bl (g i j),H,I,rfl,q⟩
noncomputable def CDiv (i j:Int):Prop:=0 < j/\j < 1073741824
noncomputable def yc (i j:Int):Prop:=(-(2 ^ 64) < i/\i < 2 ^ 64)\/(-(2 ^ 64) < j/\j < 2 ^ 64)
theorem yc.ok {i j:Int} (h:yc i j):IntMulOk i j:=by
 rcases h with ⟨h1,h2⟩ | ⟨h1,h2⟩
 ·exact .of_left (intBits_le_64 h1 h2)
 ·exact .of_right (intBits_le_64 h1 h2)
theorem KK:OpR X (binaryOp .Add) (rI0 fun i j=> .int (i+j)):=opI0 fun _ _ _ _ _ _ _ q=>add_int q
theorem KL:OpR X (binaryOp .Sub) (rI0 fun i j=> .int (i - j)):=opI0 fun _ _ _ _ _ _ _ q=>sub_int q
theorem KM:OpR X (binaryOp .Mult) (rI yc fun i j=> .int (i*j)):=opI fun _ _ _ _ _ _ _ hc q=>mul_int q hc.ok
theorem XO:OpR X (binaryOp .FloorDiv) (rI CDiv fun i j=> .int (i / j)):=opI fun i j _ _ _ _ _ hc q=>by
 have h1:(0:Int) < j:=hc.1
 have h2:j < 1073741824:=hc.2
 exact floordiv_int (by omega) (by rw [Int.fdiv_eq_ediv_of_nonneg i (by omega)]; exact q) (.inl (PyProof.noPylong_small (by omega)))
theorem KN:OpR X (binaryOp .Mod) (rI (fun _ j=>0 < j) fun i j=> .int (i % j)):=opI fun i j _ _ _ _ _ hc q=>by
 have h1:(0:Int) < j:=hc
 exact mod_int' (by omega) (by rw [Int.fmod_eq_emod_of_nonneg i (by omega)]; exact q)
theorem unI {f:Value->Sem Value} {g:Int->Int}
  (rule:∀ (i:Int) (t:Tok) (s:Shared) (Q:Value->Shared->Prop) (E:Value->Shared->Prop),Q (.int (g i) s.toks) { s with toks:=s.toks+1 }->wpAny (model X.prog X.w) X.A (f (.int i t)) Q E s):
  UnR X f (rU fun i=> .int (g i)):=by
 intro pins s σ H x v Q I rx h
 obtain ⟨i,rfl,q⟩:=h
 obtain ⟨t,rfl⟩:=rx
 exact rule i t s _ _ ⟨.int (g i),H,I.tok _,⟨_,rfl⟩,q⟩
theorem KO:UnR X (unaryOp .USub) (rU fun i=> .int (-i)):=unI fun _ _ _ _ _ q=>neg_int q
theorem QI:OpR X (binaryOp .Add) (fun x y H Q=>∃ i k,x= .int i/\y= .bl k/\Q (.int (i+b2i k)) H):=by
 intro pins s σ H x y v u Q I rx ry h
 obtain ⟨i,k,rfl,rfl,q⟩:=h
 obtain ⟨t,rfl⟩:=rx
 cases ry
 exact add_int_bool ⟨.int (i+b2i k),H,I.tok _,⟨_,rfl⟩,q⟩
end
section
variable {X:Cx} {a b c:Expr} {ta tb tc:TE} {pos:Pos}
theorem GQ:OpR X (compareOp .Lt) (rI0 fun i j=> .bl (decide (i < j))):=GP fun _ _ _ _ _ _ _ q=>lt_int q
theorem GR:OpR X (compareOp .LtE) (rI0 fun i j=> .bl (decide (i<=j))):=GP fun _ _ _ _ _ _ _ q=>le_int q
theorem GS:OpR X (compareOp .Gt) (rI0 fun i j=> .bl (decide (j < i))):=GP fun _ _ _ _ _ _ _ q=>gt_int q
theorem zv (b:Expr) {op:CmpOp} (h:op ≠ .In:=by decide) (h2:op ≠ .NotIn:=by decide):behindInMarks op b=false:=by
 have e1:(op == CmpOp.In)=false:=by cases op <;> first | rfl | exact absurd rfl h
 have e2:(op == CmpOp.NotIn)=false:=by cases op <;> first | rfl | exact absurd rfl h2
 cases b <;> simp [behindInMarks,e1,e2]
theorem XQ {op:CmpOp} {r:R2} (ho:OpR X (compareOp op) r) (ha:PE X a ta) (hb:PE X b tb) (hm:behindInMarks op b=false):PE X (.Compare a [op] [b] pos) (tOp r ta tb):=by
 intro pins s σ H Q I h
 exact wpAny_Compare1 (GM ha hb I h fun v u s2 x y H2 I2 rx ry q=>ho pins s2 σ H2 x y v u Q I2 rx ry q) hm
noncomputable def KP (t:TE):TT:=fun σ H Q=>t σ H fun x H' =>∃ k,x= .bl k/\Q k H'
theorem XR {op:CmpOp} {r:R2} (ho:OpR X (compareOp op) r) (ha:PE X a ta) (hb:PE X b tb) (hm:behindInMarks op b=false):PT X (.Compare a [op] [b] pos) (KP (tOp r ta tb)):=by
 intro pins s σ H Q I h
 refine wpAny_isTrue_Compare1 (thn (ha pins s σ H _ I h) fun v s1 ⟨x,H1,I1,r1,q1⟩=>thn (hb pins s1 σ H1 _ I1 q1) fun u s2 ⟨y,H2,I2,r2,q2⟩=>
  thn (ho pins s2 σ H2 x y v u _ I2 r1 r2 q2) fun c s3 ⟨z,H3,I3,r3,k,e,q3⟩=> ?_) hm
 subst e
 cases r3
 exact wpAny_truthy_bool ⟨H3,I3,q3⟩
noncomputable def X6 (r r' :R2) (ta tb tc:TE):TE:=fun σ H Q=>ta σ H fun x H1=>tb σ H1 fun y H2=>r x y H2 fun z H3=>∃ k,z= .bl k/\
 (if k=true then tc σ H3 fun w' H4=>r' y w' H4 Q else Q (.bl false) H3)
theorem VW {op op' :CmpOp} {r r' :R2} (ho:OpR X (compareOp op) r) (ho' :OpR X (compareOp op') r') (ha:PE X a ta) (hb:PE X b tb) (hc:PE X c tc)
  (hm:lastMarks [op,op'] [b,c]=false:=by with_unfolding_all rfl):PE X (.Compare a [op,op'] [b,c] pos) (X6 r r' ta tb tc):=by
 intro pins s σ H Q I h
 refine Compare_chain (thn (ha pins s σ H _ I h) fun v s1 ⟨x,H1,I1,r1,q1⟩=>chain_link (thn (hb pins s1 σ H1 _ I1 q1) fun u s2 ⟨y,H2,I2,r2,q2⟩=>
  thn (ho pins s2 σ H2 x y v u _ I2 r1 r2 q2) fun d s3 ⟨z,H3,I3,r3,k,e,q3⟩=> ?_)) hm
 subst e
 cases r3
 refine wpAny_truthy_bool ?_
 cases k with
 | false=>exact ite_ff ⟨.bl false,H3,I3,rfl,q3⟩
 | true=>exact ite_tt (chain_last (thn (hc pins s3 σ H3 _ I3 q3) fun w' s4 ⟨z',H4,I4,r4,q4⟩=>ho' pins s4 σ H4 y z' u w' Q I4 r2 r4 q4))
theorem VX {op op' :CmpOp} {r r' :R2} (ho:OpR X (compareOp op) r) (ho' :OpR X (compareOp op') r') (ha:PE X a ta) (hb:PE X b tb) (hc:PE X c tc)
  (hm:lastMarks [op,op'] [b,c]=false:=by with_unfolding_all rfl):PT X (.Compare a [op,op'] [b,c] pos) (KP (X6 r r' ta tb tc)):=by
 intro pins s σ H Q I h
 refine isTrue_chain (thn (ha pins s σ H _ I h) fun v s1 ⟨x,H1,I1,r1,q1⟩=>test_link (thn (hb pins s1 σ H1 _ I1 q1) fun u s2 ⟨y,H2,I2,r2,q2⟩=>
  thn (ho pins s2 σ H2 x y v u _ I2 r1 r2 q2) fun d s3 ⟨z,H3,I3,r3,k,e,q3⟩=> ?_)) hm
 subst e
 cases r3
 refine wpAny_truthy_bool ?_
 cases k with
 | false=>
  obtain ⟨k',e',q'⟩:=q3
  cases e'
  exact ite_ff ⟨H3,I3,q'⟩
 | true=>
  refine ite_tt (test_last (thn (hc pins s3 σ H3 _ I3 q3) fun w' s4 ⟨z',H4,I4,r4,q4⟩=>thn (ho' pins s4 σ H4 y z' u w' _ I4 r2 r4 q4) fun d' s5 ⟨z2,H5,I5,r5,k2,e2,q5⟩=> ?_))
  subst e2
  cases r5
  exact wpAny_truthy_bool ⟨H5,I5,q5⟩
noncomputable def TruV (K:PySem.W.Frag) (x:V) (H:Hp) (k:Bool):Prop:=
 match x with
 | .non=>k=false
 | .bl b=>k=b
 | .int i=>k=(i != 0)
 | .str y=>y.length<=sizeLine/\k=((y.length:Int) != 0)
 | .byt y=>y.size<=sizeLine/\k=((y.size:Int) != 0)
 | .ref p=>(∃ xs,SqL K H p xs/\k= !xs.isEmpty)\/(∃ xs,SqT K H p xs/\k= !xs.isEmpty)\/∃ kvs,H p=some (.dK kvs)/\k= !kvs.isEmpty
 | _=>False
theorem qS {κ:Type} {kvs:List (κ×V)} {vs:List (κ×Value)} (r:KV kvs vs):(!vs.isEmpty)= !kvs.isEmpty:=by
 cases r <;> rfl
theorem U9 {xs:List V} {its:List Value} (r:ZB xs its):(!its.toArray.isEmpty)= !xs.isEmpty:=by
 cases r <;> simp
theorem Ua:(sizeLine:Nat) < 2 ^ 63:=by rw [sizeLine_eq]; decide
theorem KQ:TruR X (fun x H Q=>∃ k,TruV X.K x H k/\Q k H):=by
 intro pins s σ H x v Q I rx h
 obtain ⟨k,e,q⟩:=h
 have hl:=Ua
 have hs:sizeLine=16777216:=sizeLine_eq
 cases x with
 | non=>
  cases rx
  have e' :k=false:=e
  subst e'
  exact truthy_none ⟨H,I,q⟩
 | bl b=>
  cases rx
  have e' :k=b:=e
  subst e'
  exact wpAny_truthy_bool ⟨H,I,q⟩
 | int i=>
  obtain ⟨t,rfl⟩:=rx
  have e' :k=(i != 0):=e
  subst e'
  exact PySem.P.truthy_int ⟨H,I,q⟩
 | str y=>
  obtain ⟨t,rfl⟩:=rx
  obtain ⟨hy,e'⟩:y.length<=sizeLine/\k=((y.length:Int) != 0):=e
  subst e'
  exact PySem.P.truthy_str (by omega) ⟨H,I.tok _,q⟩
 | byt y=>
  obtain ⟨t,rfl⟩:=rx
  obtain ⟨hy,e'⟩:y.size<=sizeLine/\k=((y.size:Int) != 0):=e
  subst e'
  exact PySem.W.truthy_bytes (by omega) ⟨H,I.tok _,q⟩
 | ref p=>
  cases rx
  have e' :(∃ xs,SqL X.K H p xs/\k= !xs.isEmpty)\/(∃ xs,SqT X.K H p xs/\k= !xs.isEmpty)\/∃ kvs,H p=some (.dK kvs)/\k= !kvs.isEmpty:=e
  rcases e' with ⟨xs,hx,e'⟩ | ⟨xs,hx,e'⟩ | ⟨kvs,hx,e'⟩
  ·subst e'
   obtain ⟨its,r,pl,hz⟩:=I.list hx
   have hlen:=r.length
   exact wpAny_truthy_list pl.isList (by simp only [List.size_toArray]; omega) ⟨H,I.tok _,by rw [U9 r]; exact q⟩
  ·subst e'
   obtain ⟨its,r,pl,hz⟩:=I.tuple hx
   have hlen:=r.length
   exact truthy_tuple pl (by simp only [List.size_toArray]; omega) ⟨H,I.tok _,by rw [U9 r]; exact q⟩
  ·subst e'
   obtain ⟨hz,hS,vs,r,m⟩:kvs.length<=sizeLine/\(p == sysModules)=false/\∃ vs,KV kvs vs/\s.heap.DictOf (Yl X.prog X.w) p vs:=I.hok p _ hx
   have hlen:kvs.length=vs.length:=Paired.length r
   exact wpAny_truthy_dict hS m (by omega) ⟨H,I.tok _,by rw [qS r]; exact q⟩
 | _=>exact (show False from e).elim
theorem VY (ha:PE X a ta) (he:∀ whole,isTrue a X.env whole=(do let v ← whole; standAt a.pos; holding [v] (truthy v))):
  PT X a (fun σ H Q=>ta σ H fun x H' =>∃ k,TruV X.K x H' k/\Q k H'):=by
 intro pins s σ H Q I h
 exact isTrue_plain (thn (ha pins s σ H _ I h) fun v s1 ⟨x,H1,I1,r1,q1⟩=>KQ pins s1 σ H1 x v Q I1 r1 q1) (he _)
theorem qT:OpR X (binaryOp .Add) (fun x y H Q=>∃ i j,x= .str i/\y= .str j/\i.length+j.length<=sizeLine/\Q (.str (i++j)) H):=by
 intro pins s σ H x y v u Q I rx ry h
 obtain ⟨i,j,rfl,rfl,hz,q⟩:=h
 obtain ⟨t,rfl⟩:=rx
 obtain ⟨t',rfl⟩:=ry
 exact add_str (fun t' tk=>⟨.str (i++j),H,I.tok _,⟨_,rfl⟩,q⟩) hz
theorem wD {x:V} {us:List Value} (r:ZB [x] us):∃ u,us=[u]/\j9 x u:=by
 cases r with
 | cons r1 r2=>cases r2; exact ⟨_,rfl,r1⟩
theorem VZ {x y:V} {us:List Value} (r:ZB [x,y] us):∃ u w',us=[u,w']/\j9 x u/\j9 y w' :=by
 cases r with
 | cons r1 r2=>
  cases r2 with
  | cons r3 r4=>cases r4; exact ⟨_,_,rfl,r1,r3⟩
theorem QJ (hc:X.calm=true):Jq X (.builtin "min") (fun xs H Q=>∃ i j,xs=[.int i, .int j]/\Q (.int (if j < i then j else i)) H):=by
 intro pins s σ H xs us Q I r h
 obtain ⟨i,j,rfl,q⟩:=h
 obtain ⟨u,w',rfl,⟨t,rfl⟩,⟨t',rfl⟩⟩:=VZ r
 refine min_two_ints (I.ok.hd hc) fun h' tk k=>⟨_,H,I.kept k, ?_,q⟩
 by_cases hj:j < i
 ·rw [if_pos hj,if_pos hj]; exact ⟨_,rfl⟩
 ·rw [if_neg hj,if_neg hj]; exact ⟨_,rfl⟩
theorem QK:Jq X (.type "int") (fun xs H Q=>(∃ i,xs=[.int i]/\Q (.int i) H)\/∃ k,xs=[.bl k]/\Q (.int (if k then 1 else 0)) H):=by
 intro pins s σ H xs us Q I r h
 rcases h with ⟨i,rfl,q⟩ | ⟨k,rfl,q⟩
 ·obtain ⟨u,rfl,t,rfl⟩:=wD r
  exact call_int_int ⟨.int i,H,I,⟨_,rfl⟩,q⟩
 ·obtain ⟨u,rfl,r1⟩:=wD r
  cases r1
  exact call_int_bool ⟨.int (if k then 1 else 0),H,I.tok _,⟨_,rfl⟩,q⟩
end
end L2
namespace L2
open PySem PySem.Spec PyProof.Rows
structure GT (h:Heap) (x dx C:Addr) (mA:Str->Option Value):Prop where
 obj:h.get? x=some (PySem.W.instObj C dx)
 ns:h.Ns1 dx mA
 ne:dx ≠ x
theorem QL {h:Heap} {dx:Addr} {mA:Str->Option Value} (n:h.Ns1 dx mA):∃ od,h.get? dx=some od/\∀ name,PySem.W.lookIn name od=some (mA name):=by
 obtain ⟨o,es,ep,ho,hd,hk,_,hm⟩:=n
 refine ⟨o,ho,fun name=> ?_⟩
 have e:=hm name
 unfold nsFind findBy at e
 rw [← Array.find?_toList] at e
 unfold PySem.W.lookIn
 rw [hd]
 dsimp only
 split
 ·rename_i y q
  rw [q] at e
  exact congrArg some e
 ·rename_i q
  rw [q] at e
  have a:es.toList.any (·.refKey)=false:=by
   rw [List.any_eq_false]
   intro y hy
   obtain ⟨z,t,hkey⟩:=hk y (Array.mem_toList_iff.mp hy)
   simp [DictEntry.refKey,hkey]
  have a' :¬ es.toList.any (·.refKey)=true:=by rw [a]; exact Bool.false_ne_true
  rw [if_neg a']
  exact congrArg some e
theorem GT.look {h:Heap} {x dx C:Addr} {mA:Str->Option Value} (I:GT h x dx C mA):∃ od,PySem.W.InstAt h x (PySem.W.instObj C dx) C (some od)/\∀ name,PySem.W.lookIn name od=some (mA name):=
 let ⟨od,ho,hl⟩:=QL I.ns
 ⟨od,⟨I.obj,rfl,rfl,ho⟩,hl⟩
section
variable {prog:Program} {w:World} {A:Around} {E:Value->Shared->Prop} {s:Shared} {K:PySem.W.Frag} {x dx C f:Addr} {mA:Str->Option Value} {name:Str} {v:Value}
end
section
variable {P:Program} {w:World} {H H' :Hp} {h h' :Heap} {a C dx:Addr} {fs fs' :List (Str×V)}
theorem XS (hok:HOk P w H h) (e:H a=some (.ins C dx fs)):∃ mA,GT h a dx C mA/\(∀ f,GA (fs.lookup f) (mA f))/\PySem.Within mA (fs.map (·.1))/\fs.length<=1000/\H dx=some (.own a):=by
 obtain ⟨d,z,ne,ob,mA,n,r,q⟩:=(show jv P w H h a (.ins C dx fs) from hok a _ e)
 exact ⟨mA,⟨ob,n,ne⟩,r,q,z,d⟩
end
structure Cls (K:PySem.W.Frag) (C:Addr):Prop where
 pg:PySem.W.plainGet K C Str.empty=true
 hd:PySem.W.hasDictIn K C=true
 po:PySem.W.plainOver K C=true
 sa:PySem.W.findIn K (.ref C) "__setattr__"=some (some (.builtin "object.__setattr__"))
theorem Cls.get {K:PySem.W.Frag} {C:Addr} (c:Cls K C) (f:Str):PySem.W.plainGet K C f=true:=c.pg
section
variable {X:Cx} {pins:List (Addr×Obj)} {σ:St} {H:Hp} {s:Shared} {a C dx:Addr} {fs:List (Str×V)} {f:Str} {v:V} {A:Around} {E:Value->Shared->Prop}
end
section
variable {X:Cx} {o e value:Expr} {f:Str} {pos pos' tpos:Pos} {ta tv:TE}
end
section
variable {X:Cx} {pins:List (Addr×Obj)} {σ:St} {H:Hp} {s:Shared} {A:Around} {E:Value->Shared->Prop} {Q:Value->Shared->Prop} {c:Value} {b:Bool}
inductive qU (K:PySem.W.Frag) (H:Hp):V->Value->Prop where
 | non:qU K H .non (.type "NoneType")
 | bl (x:Bool):qU K H (.bl x) (.type "bool")
 | int (i:Int):qU K H (.int i) (.type "int")
 | str (x:Str):qU K H (.str x) (.type "str")
 | flt (x:UInt64):qU K H (.flt x) (.type "float")
 | lst {a:Addr} {xs:List V} (e:H a=some (.lst xs)):qU K H (.ref a) (.type "list")
 | frz {a:Addr} {o:Obj} {xs:List V} (e:H a=some (.frz o (.lst xs))):qU K H (.ref a) (.type "list")
 | tup {a:Addr} {xs:List V} (e:H a=some (.tup xs)):qU K H (.ref a) (.type "tuple")
 | dK {a:Addr} {kvs:List (Key×V)} (e:H a=some (.dK kvs)):qU K H (.ref a) (.type "dict")
 | dT {a:Addr} {kvs:List (List Key×V)} (e:H a=some (.dT kvs)):qU K H (.ref a) (.type "dict")
 | ins {a C dx:Addr} {fs:List (Str×V)} (e:H a=some (.ins C dx fs)) (cl:Cls K C) (ha:PySem.W.findIn K (.ref C) "__class__"=some (some (.builtin "object.__class__")))
   (hn:PySem.W.specialIn K (.builtin "object.__class__") "__get__"=some (some (.builtin "getset_descriptor.__get__"))) (htk:PySem.W.takesIn K (.builtin "object.__class__")=some true)
   (hm:PySem.W.mroIn K C (.type "object")=some true):qU K H (.ref a) (.ref C)
theorem QM {x:V} {u t:Value} (I:Inv X pins σ H s) (rx:j9 x u) (ty:qU X.K H x t) (e:PySem.W.kitOne X.K t c=some b) (h:∀ tk,Q (.bool b) { s with toks:=tk }):
  wpAny (model X.prog X.w) A (call (.builtin "isinstance") [u,c]) Q E s:=by
 cases ty with
 | non=>cases (show u=Value.none from rx); exact PySem.W.kia_one PySem.W.kitx_none I.kIn True.intro e (fun z=>nomatch z) h
 | bl y=>cases (show u=Value.bool y from rx); exact PySem.W.kia_one PySem.W.kitx_bool I.kIn True.intro e (fun z=>nomatch z) h
 | int i=>obtain ⟨t,q⟩:=(show ∃ t,u=Value.int i t from rx); cases q; exact PySem.W.kia_one PySem.W.kitx_int I.kIn True.intro e (fun z=>nomatch z) h
 | str y=>obtain ⟨t,q⟩:=(show ∃ t,u=Value.str y t from rx); cases q; exact PySem.W.kia_one PySem.W.kitx_str I.kIn True.intro e (fun z=>nomatch z) h
 | flt y=>obtain ⟨t,q⟩:=(show ∃ t,u=Value.float y t from rx); cases q; exact PySem.W.kia_one PySem.W.kitx_float I.kIn True.intro e (fun z=>nomatch z) h
 | @lst a xs ea=>
  cases (show u=Value.ref a from rx)
  obtain ⟨_,_,n,_,h1⟩:=(show jv X.prog X.w H s.heap a (.lst xs) from I.hok a _ ea)
  exact PySem.W.kia_one PySem.W.kitx_list I.kIn ⟨_,h1,rfl⟩ e (fun z=>nomatch z) h
 | @frz a ob xs ea=>
  cases (show u=Value.ref a from rx)
  obtain ⟨_,_,_,n,_,h1⟩:=(show jv X.prog X.w H s.heap a (.frz ob (.lst xs)) from I.hok a _ ea)
  exact PySem.W.kia_one PySem.W.kitx_list I.kIn ⟨_,h1,rfl⟩ e (fun z=>nomatch z) h
 | @tup a xs ea=>
  cases (show u=Value.ref a from rx)
  obtain ⟨_,_,_,p⟩:=(show jv X.prog X.w H s.heap a (.tup xs) from I.hok a _ ea)
  obtain ⟨o,h1,h2,_⟩:=p
  exact PySem.W.kia_one PySem.W.kitx_tuple I.kIn ⟨o,h1,h2⟩ e (fun z=>nomatch z) h
 | @dK a kvs ea=>
  cases (show u=Value.ref a from rx)
  obtain ⟨_,_,vs,_,p⟩:=(show jv X.prog X.w H s.heap a (.dK kvs) from I.hok a _ ea)
  obtain ⟨o,es,ep,h1,h2,_⟩:=p
  exact PySem.W.kia_one PySem.W.kitx_dict I.kIn ⟨o,h1,h2.1⟩ e (fun z=>nomatch z) h
 | @dT a kvs ea=>
  cases (show u=Value.ref a from rx)
  obtain ⟨_,_,xs,_,o,es,ep,h1,h2,_⟩:=(show jv X.prog X.w H s.heap a (.dT kvs) from I.hok a _ ea)
  exact PySem.W.kia_one PySem.W.kitx_dict I.kIn ⟨o,h1,h2.1⟩ e (fun z=>nomatch z) h
 | @ins a C dx fs ea cl ha hn htk hm=>
  cases (show u=Value.ref a from rx)
  obtain ⟨mA,O,_⟩:=XS I.hok ea
  obtain ⟨od,J,_⟩:=O.look
  exact PySem.W.kia_one (PySem.W.kitx_own (cl.get _) cl.hd ha hn htk hm) I.kIn J e (fun z=>nomatch z) h
end
end L2
namespace L2
open PySem PySem.Spec PyProof.Rows
structure WH (k:Nat) (A:Around):Prop where
 hd:A.handled=none
 dp:A.depth+3*k+5 < recursionLimit
 un:A.units+16*k+200 < cLine
theorem WH.mono {j k:Nat} {A:Around} (r:WH k A) (h:j<=k):WH j A:=⟨r.hd,by have:=r.dp; omega,by have:=r.un; omega⟩
theorem WH.deeper {k:Nat} {A:Around} (r:WH (k+1) A) (env:Env):WH k (A.deeper env):=
 ⟨r.hd,by have:=r.dp; show A.depth+1+3*k+5 < _; omega,by have:=r.un; show A.units+3+16*k+200 < _; omega⟩
theorem WH.depth {k:Nat} {A:Around} (r:WH k A):A.depth < recursionLimit:=by have:=r.dp; omega
theorem WH.units {k:Nat} {A:Around} (r:WH k A):A.units+64 < cLine:=by have:=r.un; omega
noncomputable def tNil:TA:=fun _ H Q=>Q [] H
noncomputable def GU (ta:TE) (tr:TA):TA:=fun σ H Q=>ta σ H fun x H1=>tr σ H1 fun xs H2=>Q (x :: xs) H2
section
variable {X:Cx} {e:Expr} {es:List Expr} {te:TE} {t:TA} {pos:Pos}
theorem ja:PA X [] tNil:=fun _ _ _ _ H Q I h=>Calls.spliced_nil ⟨[],H,I, .nil,h⟩
theorem zS (ha:PE X e te) (hr:PA X es t) (hs:starEach (e :: es) X.env=(false,eval e X.env) :: starEach es X.env:=by rfl):PA X (e :: es) (GU te t):=by
 intro pos pins s σ H Q I h
 rw [hs]
 show wpAny _ _ (spliced ((false,eval e X.env) :: backTo pos (starEach es X.env))) _ _ s
 refine Calls.spliced_cons (thn (ha pins s σ H _ I h) fun u s1 ⟨x,H1,I1,r1,q1⟩=> ?_)
 exact thn (hr pos pins s1 σ H1 _ I1 q1) fun us s2 ⟨xs,H2,I2,r2,q2⟩=>⟨x :: xs,H2,I2, .cons r1 r2,q2⟩
noncomputable def tTup (t:TA):TE:=fun σ H Q=>t σ H fun xs H1=>xs.length<=sizeLine/\∀ p,H1 p=none->Q (.ref p) (upd H1 p (.tup xs))
noncomputable def tLst (t:TA):TE:=fun σ H Q=>t σ H fun xs H1=>xs.length<=sizeLine/\∀ p,H1 p=none->Q (.ref p) (upd H1 p (.lst xs))
theorem KR {x1} (h:PA X es t):PE X (.Tuple es x1 pos) (tTup t):=by
 intro pins s σ H Q I hq
 refine wpAny_Tuple_spliced (thn (h pos pins s σ H _ I hq) fun us s1 ⟨xs,H1,I1,r,z,q⟩=>⟨by rw [← r.length]; exact z, ?_⟩)
 have hf:H1 s1.heap.objs.size=none:=I1.hok.fresh (Nat.le_refl _)
 refine ⟨.ref s1.heap.objs.size,upd H1 s1.heap.objs.size (.tup xs),I1.laid (t' :=s1.toks) (fun b u e=>Heap.get?_push_of_some _ e) (Nat.le_refl _) ?_,rfl,q _ hf⟩
 exact ⟨z,us,r,⟨_,Heap.get?_push_size _ rfl,rfl,_,rfl⟩⟩
theorem X7 (h:PA X es t):PE X (.List es pos) (tLst t):=by
 intro pins s σ H Q I hq
 refine wpAny_List_spliced (thn (h pos pins s σ H _ I hq) fun us s1 ⟨xs,H1,I1,r,z,q⟩=>⟨by rw [← r.length]; exact z, ?_⟩)
 have hf:H1 s1.heap.objs.size=none:=I1.hok.fresh (Nat.le_refl _)
 refine ⟨.ref s1.heap.objs.size,upd H1 s1.heap.objs.size (.lst xs),I1.laid (t' :=s1.toks) (fun b u e=>Heap.get?_push_of_some _ e) (Nat.le_refl _) ?_,rfl,q _ hf⟩
 exact ⟨z,us,0,r,Heap.get?_push_size _ rfl⟩
end
noncomputable abbrev Sp:=List V->Hp->VK->XK->Prop
noncomputable abbrev CXT:=List Env->Hp->Shared->XK->Value->Shared->Prop
structure Go (P:Program) (w:World) (K:PySem.W.Frag) (mg:Str->Option Value) (base:Heap) (A:Around) (outer:List Env) (s:Shared) (H:Hp):Prop where
 frames:A.frames=some outer
 mod:Mod K mg base
 bs:∀ b o,base.get? b=some o->s.heap.get? b=some o/\H b=none
 bsz:base.objs.size<=s.heap.objs.size
 funs:s.heap.FunFrames base outer
 frf:∀ b∈frs outer,H b=none
 hok:HOk P w H s.heap
 bare:AllBare s.gens
noncomputable def CE (outer:List Env) (P:Program) (w:World) (H:Hp) (s:Shared) (Q:VK) (u:Value) (s' :Shared):Prop:=
 ∃ v H',s'.os=s.os/\AllBare s'.gens/\Un (frs outer) [] H H' s.heap s'.heap/\HOk P w H' s'.heap/\j9 v u/\Q v H'
noncomputable def CR (CX:CXT) (outer:List Env) (P:Program) (w:World) (H:Hp) (s:Shared) (Q:VK) (E:XK) (r:Result) (s' :Shared):Prop:=
 match r with
 | .ok (.ret u)=>CE outer P w H s Q u s'
 | .ok _=>False
 | .error e=>CX outer H s E e s'
structure jj (P:Program) (w:World) (K:PySem.W.Frag) (mg:Str->Option Value) (base:Heap) (CX:CXT) (k:Nat) (f:Addr) (fd:FuncData) (ps:List Str) (sp:Sp):Prop where
 len:∀ vs H Q E,sp vs H Q E->vs.length=ps.length
 run:∀ (A:Around) (outer:List Env) (s:Shared) (H:Hp) (args:Args) (us:List Value) (vs:List V) (Q:VK) (E:XK),WH k A->Go P w K mg base A outer s H->BindsTo s fd args (ps.zip us)->ZB vs us->sp vs H Q E->
  codeAny (model P w) A (.call (.ref f) args) (CR CX outer P w H s Q E) s
section
variable {X:Cx} {pins:List (Addr×Obj)} {σ:St} {H:Hp} {s s' :Shared}
theorem Inv.env0 (I:Inv X pins σ H s):Go X.prog X.w X.K X.mg X.base X.A X.stack s H:=
 ⟨I.ok.frames,I.ok.mod,I.bs,Nat.le_trans I.ok.bsz I.sz,I.stack,I.stkFree,I.hok,I.bare⟩
theorem Inv.after {Q:VK} {u:Value} (I:Inv X pins σ H s) (h:CE X.stack X.prog X.w H s Q u s'):EP X pins σ Q u s' :=by
 obtain ⟨v,H',os,bare,un,hok,r,q⟩:=h
 obtain ⟨hh,g,d,t,os'⟩:=s'
 obtain rfl:os' =s.os:=os
 exact ⟨v,H',I.call (h' :=hh) (g' :=g) (d' :=d) (t' :=t) (ch:=[]) un hok bare (fun b z=>absurd z (by simp)),r,q⟩
end
noncomputable def GV (sp:Sp) (dvs:List V) (E:XK) (t:TA):TE:=fun σ H Q=>t σ H fun vs H1=>sp (vs++dvs) H1 Q E
noncomputable def Binds (K:PySem.W.Frag) (fd:FuncData) (ps:List Str) (ds:List Value):Prop:=
 ∀ (s:Shared) (us:List Value),K.In s.heap->(us++ds).length=ps.length->BindsTo s fd ⟨us,[]⟩ (ps.zip (us++ds))
theorem Binds.all {K:PySem.W.Frag} {fd:FuncData} {ps:List Str} (h:∀ us:List Value,us.length=ps.length->bindArgs fd ⟨us,[]⟩=pure (ps.zip us)):Binds K fd ps []:=fun s us _ hl=>by
 rw [List.append_nil] at hl ⊢
 exact .of_eq (h us hl)
noncomputable def u9 (CX:CXT) (X:Cx) (E:XK):Prop:=∀ (pins:List (Addr×Obj)) (σ:St) (H:Hp) (s:Shared) (e:Value) (s' :Shared),Inv X pins σ H s->CX X.stack H s E e s' ->X.xe e s'
section
variable {X:Cx} {CX:CXT} {k:Nat} {f C:Addr} {fd:FuncData} {ps:List Str} {sp:Sp} {dvs:List V} {ds:List Value} {E:XK} {x m:Str} {p pos apos:Pos} {e o:Expr} {es:List Expr} {ta:TE} {t:TA}
theorem KS {pins:List (Addr×Obj)} {σ:St} {H:Hp} {s:Shared} {Q:VK} {us:List Value} {vs:List V} (F:jj X.prog X.w X.K X.mg X.base CX k f fd ps sp) (hr:WH k X.A) (hb:Binds X.K fd ps ds) (hd:ZB dvs ds) (hx:u9 CX X E)
  (I:Inv X pins σ H s) (r:ZB vs us) (h:sp (vs++dvs) H Q E):wpAny (model X.prog X.w) X.A (call (.ref f) us) (EP X pins σ Q) X.xe s:=by
 have r2:ZB (vs++dvs) (us++ds):=r.append hd
 have hl:(us++ds).length=ps.length:=by rw [← r2.length]; exact F.len _ _ _ _ h
 refine wpAny_call (codeAny_mono (F.run X.A X.stack s H ⟨us,[]⟩ (us++ds) (vs++dvs) Q E hr I.env0 (hb s us I.kIn hl) r2 h) fun r s' hq=> ?_)
 cases r with
 | error e=>exact hx pins σ H s e s' I hq
 | ok fl=>
  cases fl with
  | ret u=>exact I.after hq
  | next=>exact False.elim hq
  | brk=>exact False.elim hq
  | cont=>exact False.elim hq
theorem XT (F:jj X.prog X.w X.K X.mg X.base CX k f fd ps sp) (hr:WH k X.A) (hg:Gl X x) (hm:X.mg x=some (.ref f)) (hk:PySem.W.keepIn X.K (.ref f)=true) (hb:Binds X.K fd ps ds) (hd:ZB dvs ds) (hx:u9 CX X E)
  (ha:PA X (e :: es) t) (hdb:(x == ("__debug__":Str))=false:=by decide) (he:starEach (e :: es) X.env=(false,eval e X.env) :: starEach es X.env:=by rfl) (hpl:(backTo pos (starEach es X.env)).any (·.1)=false:=by rfl):
  PE X (.Call (.Name x p) (e :: es) [] pos) (GV sp dvs E t):=by
 intro pins s σ H Q I h
 refine wpAny_Call_Name_kw (Ym I hg hm ?_ hdb)
 refine PySem.W.callWith_K (h₀:=X.base) I.ok.mod.kin hk (thn (ha pos pins s σ H _ I h) fun us s1 ⟨vs,H1,I1,r,q⟩=>⟨I1.kIn, ?_⟩) he hpl
 exact KS F hr hb hd hx I1 r q
end
section
variable {X:Cx} {CX:CXT} {k:Nat} {f C:Addr} {fd:FuncData} {ps ks:List Str} {sp:Sp} {E:XK} {x m:Str} {p pos apos kpos:Pos} {e o:Expr} {es:List Expr} {kws:List Keyword} {te ta:TE} {t tk:TA} {nm:Option Str}
variable {g:List Value->List Value->List Value} {gV:List V->List V->List V}
end
structure zo (N P:List Str) (sc:Scope):Prop where
 kind:sc.kind= .function
 co:sc.isCoroutine=false
 gen:sc.isGenerator=false
 nd:N.Nodup
 pre:N.take P.length=P
 par:∀ x∈P,sc.names.lookup x=some .local\/sc.names.lookup x=some .cell
 nofree:∀ y∈sc.names,y.2 ≠ .free
theorem yj {kindOf:Str->Option NameKind} {x:Str}:∀ {binds:List (Str×Value)} {m:Str->Option Value},(∀ v,(x,v) ∉ binds)->bindL kindOf binds m x=m x
 | [],_,_=>rfl
 | (n,v) :: r,m,h=>by
  unfold bindL
  rw [yj fun w hw=>h w (List.mem_cons_of_mem _ hw)]
  split
  ·have:x ≠ n:=by rintro rfl; exact h v List.mem_cons_self
   simp [this]
  ·rfl
theorem yk {kindOf:Str->Option NameKind} {x:Str}:∀ {binds:List (Str×Value)} {m:Str->Option Value},(∀ v,(x,v) ∉ binds)->bindC kindOf binds m x=m x
 | [],_,_=>rfl
 | (n,v) :: r,m,h=>by
  unfold bindC
  rw [yk fun w hw=>h w (List.mem_cons_of_mem _ hw)]
  split
  ·rfl
  ·have:x ≠ n:=by rintro rfl; exact h v List.mem_cons_self
   simp [this]
theorem yl {kindOf:Str->Option NameKind} {x:Str} {v:Value}:∀ {P:List Str} {vs:List Value} {i:Nat} {m:Str->Option Value},P.Nodup->P[i]? =some x->vs[i]? =some v->kindOf x=some .local->
  bindL kindOf (P.zip vs) m x=some v
 | [],_,_,_,_,h,_,_=>by simp at h
 | _ :: _,[],_,_,_,_,h,_=>by simp at h
 | p :: P,w :: vs,0,m,nd,h1,h2,hk=>by
  simp at h1 h2; subst h1; subst h2
  show bindL kindOf ((p,w) :: P.zip vs) m p=_
  unfold bindL
  rw [yj fun v hv=>(List.nodup_cons.mp nd).1 (List.of_mem_zip hv).1,if_pos hk]
  simp
 | p :: P,w :: vs,i+1,m,nd,h1,h2,hk=>by
  show bindL kindOf ((p,w) :: P.zip vs) m x=_
  unfold bindL
  exact yl (i:=i) (List.nodup_cons.mp nd).2 (by simpa using h1) (by simpa using h2) hk
theorem ym {kindOf:Str->Option NameKind} {x:Str} {v:Value}:∀ {P:List Str} {vs:List Value} {i:Nat} {m:Str->Option Value},P.Nodup->P[i]? =some x->vs[i]? =some v->kindOf x ≠ some .local->
  bindC kindOf (P.zip vs) m x=some v
 | [],_,_,_,_,h,_,_=>by simp at h
 | _ :: _,[],_,_,_,_,h,_=>by simp at h
 | p :: P,w :: vs,0,m,nd,h1,h2,hk=>by
  simp at h1 h2; subst h1; subst h2
  show bindC kindOf ((p,w) :: P.zip vs) m p=_
  unfold bindC
  rw [yk fun v hv=>(List.nodup_cons.mp nd).1 (List.of_mem_zip hv).1,if_neg hk]
  simp
 | p :: P,w :: vs,i+1,m,nd,h1,h2,hk=>by
  show bindC kindOf ((p,w) :: P.zip vs) m x=_
  unfold bindC
  exact ym (i:=i) (List.nodup_cons.mp nd).2 (by simpa using h1) (by simpa using h2) hk
noncomputable def start (N:List Str) (vs:List V):St:=vs.map some++List.replicate (N.length - vs.length) none
noncomputable def uS (CX:CXT) (P:Program) (w:World) (K:PySem.W.Frag) (mg:Str->Option Value) (base:Heap) (N:List Str) (qual:Str) (scope:Scope) (f:Addr) (cd:Value) (A:Around) (outer:List Env) (s:Shared) (H:Hp) (E:XK):Cx where
 prog:=P
 w:=w
 K:=K
 mg:=mg
 base:=base
 A:=A.deeper (envOfC qual scope s.heap.objs.size f cd)
 N:=N
 s₀:=s
 H₀:=H
 env:=envOfC qual scope s.heap.objs.size f cd
 outer:=outer
 stack:=envOfC qual scope s.heap.objs.size f cd :: outer
 ex:=[]
 calm:=true
 fn:=fun _=>true
 pn:=[]
 xe:=fun e s' =>wpAny (model P w) (A.deeper (envOfC qual scope s.heap.objs.size f cd)) (leaving (envOfC qual scope s.heap.objs.size f cd) e) (fun _ s'' =>CX outer H s E e s'') (fun e' s'' =>CX outer H s E e' s'') s'
theorem qa {sc:Scope} {n:Nat} {x:Str} (h:sc.names.lookup x=some .cell):∃ c,(cellsFrom n sc.names []).lookup x=some c:=by
 have q:=PySem.W.cellsFrom_some sc.names n [] (.inl h)
 exact Option.isSome_iff_exists.mp q
theorem QN {CX:CXT} {P:Program} {w:World} {K:PySem.W.Frag} {mg:Str->Option Value} {base:Heap} {N ps:List Str} {qual:Str} {scope:Scope} {f:Addr} {cd:Value} {A:Around} {outer:List Env} {s s1:Shared} {H:Hp} {E:XK} {us:List Value} {vs:List V}
  (S:zo N ps scope) (hd:A.handled=none) (e0:Go P w K mg base A outer s H) (hl:vs.length=ps.length) (r:ZB vs us)
  (x:InCallC s s.heap.objs.size (bindL (envOfC qual scope s.heap.objs.size f cd).kindOf (ps.zip us) fun _=>none) (cellsFrom (s.heap.objs.size+1) scope.names []) (bindC (envOfC qual scope s.heap.objs.size f cd).kindOf (ps.zip us) fun _=>none) s1):
  Inv (uS CX P w K mg base N qual scope f cd A outer s H E) [] (start N vs) H s1:=by
 have hpl:ps.length<=N.length:=by have:=congrArg List.length S.pre; rw [List.length_take] at this; omega
 obtain ⟨h1,tk,rfl,hk⟩:=x.done
 have noA:∀ b:Addr,b ∉ (uS CX P w K mg base N qual scope f cd A outer s H E).ex:=fun b z=>absurd (show b∈([]:List Addr) from z) (by simp)
 refine ⟨⟨e0.mod,S.kind,rfl,rfl,Nat.le_refl _,fun y z c h1 h2=> ?_,fun y hy=> ?_,fun y c _ h=> ?_,fun _=>hd,Around.frames_deeper e0.frames, .inr ⟨rfl,rfl⟩,fun b z=>absurd z (noA b),e0.bs,e0.bsz,fun b _ _=>noA b,fun b z=>absurd z (noA b),e0.funs,e0.frf⟩,
  rfl,e0.bare,Un.kept hk,⟨_,x.toInCall.ns,fun i y v h1 h2 h3=> ?_⟩,fun y c h=>⟨_,x.cell y c h⟩,e0.hok.fresh (Nat.le_refl _),fun y c h=> ?_,fun p hp=>absurd (show p∈([]:List (Addr×Obj)) from hp) (by simp),e0.hok.kept hk, ?_⟩
 ·exact name_of_addr x.apart (PySem.mem_of_lookup h1) (PySem.mem_of_lookup h2)
 ·have hy:scope.names.lookup y=some .cell\/scope.names.lookup y=some .free:=hy
  rcases hy with hy | hy
  ·exact qa hy
  ·exact absurd rfl (S.nofree _ (PySem.mem_of_lookup hy))
 ·exact Nat.le_of_lt (x.above y c (PySem.mem_of_lookup h))
 ·have hi:i < vs.length:=by
   unfold start at h2
   by_cases hi:i < vs.length
   ·exact hi
   ·rw [List.getElem?_append_right (by simpa using hi)] at h2
    rw [List.getElem?_replicate] at h2
    split at h2 <;> cases h2
  have ha:vs[i]? =some v:=by
   unfold start at h2
   rw [List.getElem?_append_left (by simpa using hi),List.getElem?_map] at h2
   cases e:vs[i]? with
   | none=>rw [e] at h2; cases h2
   | some a=>rw [e] at h2; cases h2; rfl
  obtain ⟨u,hu,rv⟩:=r.get ha
  have hp:ps[i]? =some y:=by
   rw [← S.pre,List.getElem?_take_of_lt (by omega)]; exact h1
  have ndP:ps.Nodup:=by rw [← S.pre]; exact S.nd.sublist (List.take_sublist _ _)
  refine ⟨u,rv, ?_⟩
  rcases S.par y (List.mem_of_getElem? hp) with k | k
  ·exact .inl ⟨k,yl ndP hp hu k⟩
  ·obtain ⟨c,e⟩:=qa (n:=s.heap.objs.size+1) k
   refine .inr ⟨.inl k,c,e, ?_⟩
   have q:=x.cell y c e
   rw [ym ndP hp hu (by show scope.names.lookup y ≠ _; rw [k]; decide)] at q
   exact q
 ·exact e0.hok.fresh (Nat.le_of_lt (x.above y c (PySem.mem_of_lookup h)))
 ·unfold start
  show _=N.length
  rw [List.length_append,List.length_map,List.length_replicate]
  omega
theorem KT {CX:CXT} {P:Program} {w:World} {K:PySem.W.Frag} {mg:Str->Option Value} {base:Heap} {k:Nat} {f:Addr} {name qual:Str} {params:Arguments} {body:List Stmt} {scope:Scope} {dV kV doc pm cdv ct oc:Value} {an od:Option Addr}
  {osl:Array (Option Value)} {N ps:List Str} {sp:Sp} (lk:K.lookup f=some ⟨oc,od, .func (PySem.W.fnOf name qual params body scope dV kV doc pm an cdv ct),osl⟩) (hcd:PySem.W.codeIn K cdv qual=true) (S:zo N ps scope)
  (len:∀ vs H Q E,sp vs H Q E->vs.length=ps.length)
  (hbody:∀ (A:Around) (outer:List Env) (s:Shared) (H:Hp) (vs:List V) (Q:VK) (E:XK),WH k (A.deeper (envOfC qual scope s.heap.objs.size f cdv))->sp vs H Q E->
   ∃ t,PSs (uS CX P w K mg base N qual scope f cdv A outer s H E) body t/\t { nx:=fun _ H' =>Q .non H',rt:=Q } (start N vs) H):
  jj P w K mg base CX (k+1) f (PySem.W.fnOf name qual params body scope dV kV doc pm an cdv ct) ps sp:=by
 refine ⟨len,fun A outer s H args us vs Q E hr e0 hb r hsp=> ?_⟩
 have hl:=len _ _ _ _ hsp
 have KX:K.In s.heap:=e0.mod.kin.keeps fun b o e=>(e0.bs b o e).1
 have lim:s.heap.NoLimit:=e0.mod.nolimit.keeps fun b o e=>(e0.bs b o e).1
 have hkind:∀ y∈ps.zip us,scope.names.lookup y.1=some .local\/(scope.names.lookup y.1=some .cell/\((cellsFrom (s.heap.objs.size+1) scope.names []).lookup y.1).isSome=true):=fun ⟨n,v⟩ hy=>by
  rcases S.par n (List.of_mem_zip hy).1 with q | q
  ·exact .inl q
  ·exact .inr ⟨q,PySem.W.cellsFrom_some _ _ _ (.inl q)⟩
 refine codeAny_call_function hr.depth (KX _ _ lk) rfl S.co S.gen rfl (PySem.W.codeRec_of KX hcd) (hb _ _ _ _ ?_)
 refine wpAny_newFunctionEnv_cells S.kind hkind fun env he s1 x=> ?_
 subst he
 refine ⟨lim.keeps x.toInCall.keep,codeAny_func ?_⟩
 obtain ⟨t,ht,hq⟩:=hbody A outer s H vs Q E (hr.deeper _) hsp
 have I:Inv (uS CX P w K mg base N qual scope f cdv A outer s H E) [] (start N vs) H s1:=QN S hr.hd e0 hl r x
 refine wpAny_mono (ht [] s1 (start N vs) H _ I hq) (fun fl s' hs=> ?_) fun e s' hs=>hs
 have fin:∀ {σ' :St} {H' :Hp} {v:V} {u:Value},Inv (uS CX P w K mg base N qual scope f cdv A outer s H E) [] σ' H' s' ->j9 v u->Q v H' ->CE outer P w H s Q u s' :=
  fun {σ' H' v u} J rv q=>⟨v,H',J.os,J.bare,J.base,J.hok,rv,q⟩
 cases fl with
 | ret u=>
  obtain ⟨v,σ',H',J,rv,q⟩:=hs
  exact fin J rv q
 | next=>
  obtain ⟨σ',H',J,q⟩:=hs
  exact fin (v:=V.non) (u:=Value.none) J rfl q
 | brk=>
  obtain ⟨_,_,_,q⟩:=hs
  exact False.elim q
 | cont=>
  obtain ⟨_,_,_,q⟩:=hs
  exact False.elim q
end L2
namespace L2
open PySem PySem.Spec PyProof.Rows
section
variable {X:Cx} {x:Str} {p pos:Pos} {e:Expr} {es:List Expr} {t:TA} {id T:String} {r:List V->Hp->VK->Prop}
noncomputable def tCB (r:List V->Hp->VK->Prop) (t:TA):TE:=fun σ H Q=>t σ H fun vs H1=>r vs H1 Q
theorem WZ (hc:Jq X (.builtin id) r) (hg:Gl X x) (hm:X.mg x=none) (hv:bootBuiltins x=some (.builtin id)) (ha:PA X (e :: es) t) (hn:x ≠ "__name__":=by decide) (hdb:(x == ("__debug__":Str))=false:=by decide)
  (he:starEach (e :: es) X.env=(false,eval e X.env) :: starEach es X.env:=by rfl) (hpl:(backTo pos (starEach es X.env)).any (·.1)=false:=by rfl):PE X (.Call (.Name x p) (e :: es) [] pos) (tCB r t):=by
 intro pins s σ H Q I h
 refine wpAny_Call_Name_kw (ww I hg hm hv ?_ hn hdb)
 exact PyProof.Rows.callWith_builtin1 (thn (ha pos pins s σ H _ I h) fun us s1 ⟨vs,H1,I1,r1,q1⟩=>hc pins s1 σ H1 vs us Q I1 r1 q1) he hpl
theorem wQ (hc:Jq X (.type T) r) (hg:Gl X x) (hm:X.mg x=none) (hv:bootBuiltins x=some (.type T)) (ha:PA X (e :: es) t) (hn:x ≠ "__name__":=by decide) (hdb:(x == ("__debug__":Str))=false:=by decide)
  (he:starEach (e :: es) X.env=(false,eval e X.env) :: starEach es X.env:=by rfl) (hpl:(backTo pos (starEach es X.env)).any (·.1)=false:=by rfl):PE X (.Call (.Name x p) (e :: es) [] pos) (tCB r t):=by
 intro pins s σ H Q I h
 refine wpAny_Call_Name_kw (ww I hg hm hv ?_ hn hdb)
 exact PyProof.Rows.callWith_type1 (thn (ha pos pins s σ H _ I h) fun us s1 ⟨vs,H1,I1,r1,q1⟩=>hc pins s1 σ H1 vs us Q I1 r1 q1) he hpl
end
end L2
namespace HT
open PySem PyProof.Rows
section
open PySem.SeqAt
open PySem.AutoSeq1 (wpAny_loadPart')
open PySem.MeetsSeq PySem.MeetsSeq2 PySem.MeetsSeq3
end
section
variable {prog:Program} {w:World} {A:Around} {E:Value->Shared->Prop} {s:Shared}
theorem cat_tup {t b:Addr} {vs ws:List Value} {Q:Value->Shared->Prop} (ht:IsTup s.heap t vs.toArray) (hb:IsTup s.heap b ws.toArray) (hv:vs ≠ [])
  (h1:ws=[]->Q (.ref t) s) (h2:ws ≠ []->Q (.ref s.heap.objs.size) { s with heap:=s.heap.push { cls:= .type "tuple",data:= .seq (vs++ws).toArray } })
  (hsz:vs.length+ws.length<=sizeLine):wpAny (model prog w) A (binaryOp .Add (.ref t) (.ref b)) Q E s:=by
 obtain ⟨⟨cls,dd,data,sl⟩,ho,hc,n,hd⟩:=id ht
 obtain ⟨⟨cls2,dd2,data2,sl2⟩,ho2,hc2,n2,hd2⟩:=id hb
 simp only at hc hd hc2 hd2
 subst hc hd hc2 hd2
 have e:vs.toArray++ws.toArray=(vs++ws).toArray:=by simp
 by_cases hw:ws=[]
 ·exact concat_meets ⟨_,ho,rfl⟩ ⟨_,ho2,rfl⟩ noFill_tuple_add seq_tuple_add PySem.F.slot_tuple_add PySem.F.entry_tuple_add (PySem.F.args_tuple_add_2 _ _)
   (tuple_addW1 t b vs.toArray ws.toArray n n2 dd dd2 sl sl2 (by simpa using hv) (by simp [hw])) ⟨ho,ho2,h1 hw⟩
 ·refine concat_meets ⟨_,ho,rfl⟩ ⟨_,ho2,rfl⟩ noFill_tuple_add seq_tuple_add PySem.F.slot_tuple_add PySem.F.entry_tuple_add (PySem.F.args_tuple_add_2 _ _)
   (tuple_addW2 t b vs.toArray ws.toArray n n2 dd dd2 sl sl2 (by simpa using hv) (by simpa using hw) (by rw [List.size_toArray,List.size_toArray]; exact hsz)) ⟨ho,ho2, ?_⟩
  rw [e]
  exact h2 hw
noncomputable def sIx (n d:Nat):Option Int->Nat
 | none=>d
 | some v=>if v < 0 then (v+(n:Int)).toNat else min v.toNat n
theorem sIx_none (n d:Nat):sIx n d none=d:=rfl
theorem sIx_nat (n d k:Nat):sIx n d (some (k:Int))=min k n:=by
 show (if (k:Int) < 0 then ((k:Int)+(n:Int)).toNat else min (k:Int).toNat n)=min k n
 rw [if_neg (by omega),Int.toNat_natCast]
theorem KU (n d:Nat) (hd:d<=n) (o:Option Int):sIx n d o<=n:=by
 cases o with
 | none=>exact hd
 | some v=>
  show (if v < 0 then (v+(n:Int)).toNat else min v.toNat n)<=n
  by_cases hv:v < 0
  ·rw [if_pos hv]; omega
  ·rw [if_neg hv]; exact Nat.min_le_right _ _
theorem QO (v:Int) (n d:Nat):(if v < 0 then max (v+(n:Int)) 0 else min v (n:Int))=((sIx n d (some v):Nat):Int):=by
 show (if v < 0 then max (v+(n:Int)) 0 else min v (n:Int))=(((if v < 0 then (v+(n:Int)).toNat else min v.toNat n):Nat):Int)
 by_cases hv:v < 0
 ·simp only [if_pos hv]; omega
 ·simp only [if_neg hv]; omega
theorem qV (lo hi:Option Int) (n:Nat):Builtin.Slice.sliceAdjust lo hi 1 (n:Int)=(((sIx n 0 lo:Nat):Int),((sIx n n hi:Nat):Int)):=by
 have h1:¬ ((1:Int) < 0):=by omega
 unfold Builtin.Slice.sliceAdjust
 simp only [h1,if_false]
 refine Prod.ext ?_ ?_
 ·cases lo with
  | none=>rfl
  | some v=>exact QO v n 0
 ·cases hi with
  | none=>rfl
  | some v=>exact QO v n n
theorem qW (i j:Nat):Builtin.Slice.slicePlaces (i:Int) (j:Int) 1=j - i:=by
 unfold Builtin.Slice.slicePlaces
 have h1:(1:Int) > 0:=by omega
 simp only [h1,if_true,Int.ediv_one]
 split <;> omega
theorem Ub {v:Value} {o:Option Int} {Q:Option Int->Shared->Prop} (p:IsPart v o) (h:Q o s):wpAny (model prog w) A (Builtin.Slice.slicePartIndex v) Q E s:=by
 cases p with
 | none=>exact slicePart_none h
 | int i t=>exact slicePart_int h
theorem sliceApplied_gen {sl:Addr} {vl vu:Value} {lo hi:Option Int} {n:Nat} {Q:Int×Int×Nat->Shared->Prop} (hs:s.heap.IsSliceOf sl vl vu .none) (pl:IsPart vl lo) (pu:IsPart vu hi)
  (h:Q (((sIx n 0 lo:Nat):Int),1,sIx n n hi - sIx n 0 lo) s):wpAny (model prog w) A (Builtin.Slice.sliceApplied (.ref sl) (pure (n:Int))) Q E s:=by
 obtain ⟨os,hos,hcs,hds⟩:=id hs
 unfold Builtin.Slice.sliceApplied Builtin.Slice.sliceFields
 refine wpAny_bind (wpAny_bind (wpAny_field hos hds (x:=vl) rfl (wpAny_bind (wpAny_field hos hds (x:=vu) rfl (wpAny_bind (wpAny_field hos hds (x:= .none) rfl (wpAny_pure ?_)))))))
 refine wpAny_bind (slicePart_none ?_)
 show wpAny _ _ (if ((1:Int) == 0)=true then _ else _) _ _ s
 rw [if_neg (by decide)]
 refine wpAny_bind (Ub pl (wpAny_bind (Ub pu (wpAny_bind (wpAny_pure ?_)))))
 show wpAny _ _ (match Builtin.Slice.sliceAdjust lo hi 1 (n:Int) with | (lo,hi)=>pure (lo,(1:Int),Builtin.Slice.slicePlaces lo hi 1)) _ _ s
 rw [qV lo hi n]
 show wpAny _ _ (pure (((sIx n 0 lo:Nat):Int),(1:Int),Builtin.Slice.slicePlaces ((sIx n 0 lo:Nat):Int) ((sIx n n hi:Nat):Int) 1)) _ _ s
 rw [qW]
 exact wpAny_pure h
theorem x3 (xs:Array Value) (i k:Nat):((List.range k).filterMap fun (m:Nat)=>xs[((i:Int)+(m:Int)*1).toNat]?).toArray=((xs.toList.drop i).take k).toArray:=by
 have e:(fun (m:Nat)=>xs[((i:Int)+(m:Int)*1).toNat]?)=fun m=>xs[i+m]? :=by
  funext m
  have:((i:Int)+(m:Int)*1).toNat=i+m:=by omega
  rw [this]
 rw [e]
 have:=pick_run xs i k
 rw [List.filterMap_map] at this
 have e2:((fun x=>xs[x]?) ∘ fun x=>i+x)=fun m=>xs[i+m]? :=rfl
 rw [e2] at this
 rw [this]
theorem getItem_tuple_cut {t sl:Addr} {items:Array Value} {vl vu:Value} {lo hi:Option Int} {Q:Value->Shared->Prop} (ht:IsTup s.heap t items) (hs:s.heap.IsSliceOf sl vl vu .none) (pl:IsPart vl lo) (pu:IsPart vu hi)
  (hw:¬ (sIx items.size 0 lo=0/\sIx items.size items.size hi=items.size))
  (h:Q (.ref s.heap.objs.size) { s with heap:=s.heap.push { cls:= .type "tuple",data:= .seq ((items.toList.drop (sIx items.size 0 lo)).take (sIx items.size items.size hi - sIx items.size 0 lo)).toArray } })
  (hsz:items.size<=sizeLine):wpAny (model prog w) A (getItem (.ref t) (.ref sl)) Q E s:=by
 have htake:sizeOk (.seq ((items.toList.drop (sIx items.size 0 lo)).take (sIx items.size items.size hi - sIx items.size 0 lo)).toArray):=by
  show ((items.toList.drop (sIx items.size 0 lo)).take (sIx items.size items.size hi - sIx items.size 0 lo)).toArray.size<=sizeLine
  rw [List.size_toArray,List.length_take,List.length_drop,Array.length_toList]
  omega
 have hj:sIx items.size items.size hi<=items.size:=KU _ _ (Nat.le_refl _) hi
 obtain ⟨os,hos,hcs,hds⟩:=id hs
 have hTs:s.TypeIs (.ref sl) "slice":=⟨os,hos,hcs⟩
 unfold getItem
 try with_reducible refine wpAny_holding ?_
 first | refine wpAny_bind (wpAny_pure ?_) | skip
 refine wpAny_bind (wpAny_sequenceKey ht.typeIs (by decide) ?_)
 refine wpAny_bind (wpAny_callSpecial?_slot (name:=Str.ofString "__getitem__") ht.typeIs PyProof.Rows.slot_tuple_getitem
  (wpAny_call_entry PyProof.Rows.slot_tuple_getitem ht.typeIs entry_tuple_getitem ?_ (args_tuple_getitem _ _)))
 show wpAny _ _ (Builtin.Tuple.tupleItemsOf (.ref t) >>= _) _ _ s
 refine wpAny_bind (tupleItemsOf_ ht ?_)
 refine wpAny_bind (wpAny_typeOf hTs ?_)
 rw [if_pos (by decide)]
 refine wpAny_bind (sliceApplied_gen hs pl pu ?_)
 have hno:¬ ((((sIx items.size 0 lo:Nat):Int) == 0 && (1:Int) == 1 && (sIx items.size items.size hi - sIx items.size 0 lo) == items.size)=true):=by
  intro q
  rw [Bool.and_eq_true,Bool.and_eq_true] at q
  have q1:((sIx items.size 0 lo:Nat):Int)=0:=eq_of_beq q.1.1
  have q2:sIx items.size items.size hi - sIx items.size 0 lo=items.size:=eq_of_beq q.2
  exact hw ⟨by omega,by omega⟩
 show wpAny _ _ (if (((sIx items.size 0 lo:Nat):Int) == 0 && (1:Int) == 1 && (sIx items.size items.size hi - sIx items.size 0 lo) == items.size)=true then _ else _) _ _ s
 rw [if_neg hno,x3]
 first
  | exact wpAny_bind (m:=Builtin.Tuple.tupleExact _) (wpAny_newObj_type (wpAny_pure ⟨_,rfl,wpAny_pure h⟩) htake)
  | exact wpAny_bind (m:=Builtin.Tuple.tupleExact _) (wpAny_newObj_type (wpAny_bind (wpAny_pure (wpAny_pure ⟨_,rfl,wpAny_pure h⟩))) htake)
  | exact wpAny_bind (wpAny_bind (m:=Builtin.Tuple.tupleExact _) (wpAny_newObj_type (wpAny_pure (wpAny_pure ⟨_,rfl,wpAny_pure h⟩)) htake))
  | exact wpAny_bind (wpAny_bind (m:=Builtin.Tuple.tupleExact _) (wpAny_newObj_type (wpAny_pure ⟨_,rfl,wpAny_pure h⟩) htake))
end
end HT
namespace L2
open PySem PySem.Spec PyProof.Rows
noncomputable abbrev TO:=St->Hp->(Option Int->Hp->Prop)->Prop
noncomputable def PO (X:Cx) (e:Option Expr) (t:TO):Prop:=
 ∀ (pins:List (Addr×Obj)) (s:Shared) (σ:St) (H:Hp) (Q:Option Int->Hp->Prop),Inv X pins σ H s->t σ H Q->
  wpAny (model X.prog X.w) X.A (evalPart e X.env) (fun u s' =>∃ o H',Inv X pins σ H' s' /\IsPart u o/\Q o H') X.xe s
noncomputable def XU:TO:=fun _ H Q=>Q none H
noncomputable def GW (t:TE):TO:=fun σ H Q=>t σ H fun x H1=>∃ i,x= .int i/\Q (some i) H1
section
variable {X:Cx} {e:Expr} {te:TE} {lo hi:Option Expr} {tl th:TO} {pos p2:Pos}
theorem XV:PO X none XU:=by
 intro pins s σ H Q I h
 rw [evalPart_none]
 exact wpAny_pure ⟨none,H,I, .none,h⟩
theorem XW (h:PE X e te):PO X (some e) (GW te):=by
 intro pins s σ H Q I hw
 rw [evalPart_some]
 refine thn (h pins s σ H _ I hw) fun u s1 ⟨x,H1,I1,r1,q1⟩=> ?_
 obtain ⟨i,rfl,q⟩:=q1
 obtain ⟨t,rfl⟩:=r1
 exact ⟨some i,H1,I1, .int i t,q⟩
noncomputable def SlR (X:Cx) (r:V->Option Int->Option Int->Hp->VK->Prop):Prop:=
 ∀ (pins:List (Addr×Obj)) (s:Shared) (σ:St) (H:Hp) (x:V) (v vl vu:Value) (lo hi:Option Int) (sl:Addr) (Q:VK),Inv X pins σ H s->j9 x v->s.heap.IsSliceOf sl vl vu .none->IsPart vl lo->IsPart vu hi->r x lo hi H Q->
  ∃ T id,typeLookup (.type T) "__getitem__"=pure (some (.builtin id))/\s.TypeIs v T/\wpAny (model X.prog X.w) X.A (getItem v (.ref sl)) (EP X pins σ Q) X.xe s
theorem SlR.or {r r' :V->Option Int->Option Int->Hp->VK->Prop} (h:SlR X r) (h' :SlR X r'):SlR X (fun x lo hi H Q=>r x lo hi H Q\/r' x lo hi H Q):=by
 intro pins s σ H x v vl vu lo hi sl Q I rx hs pl pu q
 rcases q with q | q
 ·exact h pins s σ H x v vl vu lo hi sl Q I rx hs pl pu q
 ·exact h' pins s σ H x v vl vu lo hi sl Q I rx hs pl pu q
noncomputable def tSl (r:V->Option Int->Option Int->Hp->VK->Prop) (te:TE) (tl th:TO):TE:=fun σ H Q=>te σ H fun x H1=>tl σ H1 fun l H2=>th σ H2 fun u H3=>r x l u H3 Q
theorem x6 {r:V->Option Int->Option Int->Hp->VK->Prop} (hr:SlR X r) (he:PE X e te) (hl:PO X lo tl) (hu:PO X hi th):PE X (.Subscript e (.Slice lo hi none p2) pos) (tSl r te tl th):=by
 intro pins s σ H Q I h
 refine Subscript_ (thn (he pins s σ H _ I h) fun v s1 ⟨x,H1,I1,r1,q1⟩=> ?_)
 refine wpAny_Slice (thn (hl pins s1 σ H1 _ I1 q1) fun vl s2 ⟨l,H2,I2,pl,q2⟩=>thn (hu pins s2 σ H2 _ I2 q2) fun vu s3 ⟨u,H3,I3,pu,q3⟩=> ?_)
 rw [evalPart_none]
 refine wpAny_pure ?_
 have I4:Inv X pins σ H3 { s3 with heap:=s3.heap.push { cls:= .type "slice",data:= .fields #[vl,vu, .none] } }:=I3.kept (t' :=s3.toks) fun b ob q=>Heap.get?_push_of_some _ q
 obtain ⟨T,id,hT,ht,hg⟩:=hr pins { s3 with heap:=s3.heap.push { cls:= .type "slice",data:= .fields #[vl,vu, .none] } } σ H3 x v vl vu l u s3.heap.objs.size Q I4 r1 (Heap.IsSliceOf.new ..) pl pu q3
 show wpAny (model X.prog X.w) X.A (subscriptTail e (.Slice lo hi none p2) v (.ref s3.heap.objs.size)) (EP X pins σ Q) X.xe { s3 with heap:=s3.heap.push { cls:= .type "slice",data:= .fields #[vl,vu, .none] } }
 exact tail_any (ops:=[.ref s3.heap.objs.size,v]) ht hT hg (by with_unfolding_all rfl)
noncomputable def X8 (xs:List V) (lo hi:Option Int):List V:=(xs.drop (HT.sIx xs.length 0 lo)).take (HT.sIx xs.length xs.length hi - HT.sIx xs.length 0 lo)
theorem ua (xs:List V) (lo hi:Option Int):(X8 xs lo hi).length<=xs.length:=by
 unfold X8
 rw [List.length_take,List.length_drop]
 omega
noncomputable def rSlT (K:PySem.W.Frag):V->Option Int->Option Int->Hp->VK->Prop:=fun x lo hi H Q=>∃ a xs,x= .ref a/\SqT K H a xs/\
 ¬ (HT.sIx xs.length 0 lo=0/\HT.sIx xs.length xs.length hi=xs.length)/\∀ p,H p=none->Q (.ref p) (upd H p (.tup (X8 xs lo hi)))
theorem KW:SlR X (rSlT X.K):=by
 intro pins s σ H x v vl vu lo hi sl Q I rx hs pl pu h
 obtain ⟨a,xs,rfl,hx,hw,q⟩:=h
 cases rx
 obtain ⟨its,r,ht,hz⟩:=I.tuple hx
 have hlen:its.toArray.size=xs.length:=by rw [List.size_toArray]; exact r.length.symm
 refine ⟨"tuple",_,PyProof.Rows.slot_tuple_getitem.lookup,ht.typeIs, ?_⟩
 refine HT.getItem_tuple_cut ht hs pl pu (by rw [hlen]; exact hw) ?_ (by rw [hlen]; exact hz)
 rw [hlen]
 refine ⟨.ref s.heap.objs.size,_,I.laid (t' :=s.toks) (o:= .tup (X8 xs lo hi)) (fun b ob q=>Heap.get?_push_of_some _ q) (Nat.le_refl _) ?_,rfl,q _ (I.hok.fresh (Nat.le_refl _))⟩
 exact ⟨Nat.le_trans (ua xs lo hi) hz,_,(r.drop (HT.sIx xs.length 0 lo)).take (HT.sIx xs.length xs.length hi - HT.sIx xs.length 0 lo),IsTup.new _ _⟩
noncomputable def GX (K:PySem.W.Frag):R2:=fun x y H Q=>∃ a b xs ys,x= .ref a/\y= .ref b/\SqT K H a xs/\SqT K H b ys/\xs ≠ []/\xs.length+ys.length<=sizeLine/\
 (ys=[]->Q (.ref a) H)/\(ys ≠ []->∀ p,H p=none->Q (.ref p) (upd H p (.tup (xs++ys))))
theorem ZB.nil_iff {xs:List V} {us:List Value} (r:ZB xs us):us=[]↔xs=[]:=by
 cases r with
 | nil=>simp
 | cons _ _=>simp
theorem XX:OpR X (binaryOp .Add) (GX X.K):=by
 intro pins s σ H x y v u Q I rx ry h
 obtain ⟨a,b,xs,ys,rfl,rfl,ha,hb,hx,hz,q1,q2⟩:=h
 cases rx
 cases ry
 obtain ⟨its,r1,p1,_⟩:=I.tuple ha
 obtain ⟨its2,r2,p2,_⟩:=I.tuple hb
 refine HT.cat_tup p1 p2 (fun z=>hx (r1.nil_iff.mp z)) (fun z=>⟨.ref a,H,I,rfl,q1 (r2.nil_iff.mp z)⟩) (fun z=> ?_) (by rw [← r1.length,← r2.length]; exact hz)
 refine ⟨.ref s.heap.objs.size,_,I.laid (t' :=s.toks) (o:= .tup (xs++ys)) (fun b ob q=>Heap.get?_push_of_some _ q) (Nat.le_refl _) ?_,rfl,q2 (fun w=>z (r2.nil_iff.mpr w)) _ (I.hok.fresh (Nat.le_refl _))⟩
 exact ⟨by rw [List.length_append]; exact hz,_,r1.append r2,IsTup.new _ _⟩
end
end L2
namespace L2
open PySem PySem.Spec PyProof.Rows
noncomputable def ixN (n:Nat) (i:Int):Option Nat:=if 0<=i then (if i < n then some i.toNat else none) else if -(n:Int)<=i then some (i+n).toNat else none
noncomputable def atI {α:Type} (xs:List α) (i:Int):Option α:=(ixN xs.length i).bind fun j=>xs[j]?
theorem XY {n:Nat} {i:Int} {j:Nat} (h:ixN n i=some j):seqIndex? i n=some j/\j < n/\ -(n:Int)<=i/\i < n:=by
 unfold ixN at h
 by_cases h0:0<=i
 ·rw [if_pos h0] at h
  by_cases h1:i < n
  ·rw [if_pos h1] at h
   have e:i.toNat=j:=Option.some.inj h
   exact ⟨by rw [seqIndex_of h0 h1,e],by omega,by omega,h1⟩
  ·rw [if_neg h1] at h; cases h
 ·rw [if_neg h0] at h
  by_cases h1: -(n:Int)<=i
  ·rw [if_pos h1] at h
   have e:(i+n).toNat=j:=Option.some.inj h
   exact ⟨by rw [seqIndex_neg (by omega) h1,e],by omega,h1,by omega⟩
  ·rw [if_neg h1] at h; cases h
theorem Yo {α:Type} {xs:List α} {i:Int} {v:α} (h:atI xs i=some v):∃ j,seqIndex? i xs.length=some j/\xs[j]? =some v/\j < xs.length/\ -(xs.length:Int)<=i/\i < xs.length:=by
 unfold atI at h
 cases e:ixN xs.length i with
 | none=>rw [e] at h; cases h
 | some j=>
  rw [e] at h
  obtain ⟨h1,h2,h3,h4⟩:=XY e
  exact ⟨j,h1,h,h2,h3,h4⟩
theorem JX {α:Type} {xs:List α} {j:Nat} {v:α} (h:xs[j]? =some v):atI xs (j:Int)=some v:=by
 have hj:j < xs.length:=(List.getElem?_eq_some_iff.mp h).1
 have e:ixN xs.length (j:Int)=some j:=by
  unfold ixN
  rw [if_pos (by omega),if_pos (by omega)]; simp
 unfold atI; rw [e]; exact h
noncomputable def QP (b:Expr):Prop:=∀ o i,subscripted b false o i=operate [o,i] (getItem o i)
noncomputable def IxR (X:Cx) (r:R2):Prop:=
 ∀ (value slice:Expr) (pins:List (Addr×Obj)) (s:Shared) (σ:St) (H:Hp) (x y:V) (v u:Value) (Q:VK),Inv X pins σ H s->j9 x v->j9 y u->r x y H Q->
  subscripted slice false v u=operate [v,u] (getItem v u)->wpAny (model X.prog X.w) X.A (subscriptTail value slice v u) (EP X pins σ Q) X.xe s
noncomputable def MtR (X:Cx) (id:String) (r:V->List V->Hp->VK->Prop):Prop:=
 ∀ (pins:List (Addr×Obj)) (s:Shared) (σ:St) (H:Hp) (x:V) (xs:List V) (v:Value) (us:List Value) (Q:VK),Inv X pins σ H s->j9 x v->ZB xs us->r x xs H Q->
  wpAny (model X.prog X.w) X.A (call (.builtin id) (v :: us)) (EP X pins σ Q) X.xe s
section
variable {X:Cx} {a b:Expr} {ta tb:TE} {pos:Pos}
theorem IxR.or {r r' :R2} (h:IxR X r) (h' :IxR X r'):IxR X (fun x y H Q=>r x y H Q\/r' x y H Q):=by
 intro value slice pins s σ H x y v u Q I rx ry q hs
 rcases q with q | q
 ·exact h value slice pins s σ H x y v u Q I rx ry q hs
 ·exact h' value slice pins s σ H x y v u Q I rx ry q hs
theorem GY {r:R2} (hr:IxR X r) (ha:PE X a ta) (hb:PE X b tb) (hs:QP b):PE X (.Subscript a b pos) (tOp r ta tb):=by
 intro pins s σ H Q I h
 exact Subscript_ (GM ha hb I h fun v u s2 x y H2 I2 rx ry q=>hr a b pins s2 σ H2 x y v u Q I2 rx ry q (hs _ _))
noncomputable def rIxL (K:PySem.W.Frag):R2:=fun x y H Q=>∃ p xs i v,x= .ref p/\y= .int i/\SqL K H p xs/\atI xs i=some v/\Q v H
noncomputable def rIxT (K:PySem.W.Frag):R2:=fun x y H Q=>∃ p xs i v,x= .ref p/\y= .int i/\SqT K H p xs/\atI xs i=some v/\Q v H
noncomputable def rIxS:R2:=fun x y H Q=>∃ z i c,x= .str z/\y= .int i/\z.length<=sizeLine/\atI z.cps.toList i=some c/\Q (.str ⟨#[c]⟩) H
theorem XZ:IxR X (rIxL X.K):=by
 intro value slice pins s σ H x y v u Q I rx ry h hs
 obtain ⟨p,xs,i,z,rfl,rfl,hq,he,q⟩:=h
 cases rx
 obtain ⟨t,rfl⟩:=ry
 obtain ⟨its,r,pl,hz⟩:=I.list hq
 obtain ⟨j,h1,h2,h3,h4,h5⟩:=Yo he
 obtain ⟨w,ew,rw'⟩:=r.get h2
 have hl:=r.length
 have hn:=Ua
 have fin:EP X pins σ Q w s:=⟨z,H,I,rw',q⟩
 by_cases h0:0<=i
 ·have hj:i.toNat=j:=by
   rw [seqIndex_of h0 h5] at h1
   exact Option.some.inj h1
  exact item_listR pl.isList h0 (by omega) (by rw [hj]; simpa using ew) fin hs
 ·have hj:(i+(its.toArray.size:Int)).toNat=j:=by
   rw [seqIndex_neg (by omega) h4] at h1
   rw [List.size_toArray,← hl]
   exact Option.some.inj h1
  exact subscriptTail_builtinR (x:=w) pl.isList.typeIs slot_list_getitem.lookup
   (wpAny_getItem_list_neg (Q:=fun r s' =>r=w/\EP X pins σ Q r s') pl.isList (by omega) (by rw [List.size_toArray] <;> omega) (by omega) (by rw [hj]; simpa using ew) ⟨rfl,fin⟩) hs
theorem KY:IxR X (rIxT X.K):=by
 intro value slice pins s σ H x y v u Q I rx ry h hs
 obtain ⟨p,xs,i,z,rfl,rfl,hq,he,q⟩:=h
 cases rx
 obtain ⟨t,rfl⟩:=ry
 obtain ⟨its,r,pl,hz⟩:=I.tuple hq
 obtain ⟨j,h1,h2,h3,h4,h5⟩:=Yo he
 obtain ⟨w,ew,rw'⟩:=r.get h2
 have hl:=r.length
 have hn:=Ua
 have fin:EP X pins σ Q w s:=⟨z,H,I,rw',q⟩
 exact subscriptTail_builtinR (x:=w) pl.typeIs slot_tuple_getitem.lookup
  (getItem_tuple (j:=j) (Q:=fun r s' =>r=w/\EP X pins σ Q r s') pl (by omega) (by omega) (by rw [List.size_toArray,← hl]; exact h1) (by simpa using ew) ⟨rfl,fin⟩) hs
theorem KZ:IxR X rIxS:=by
 intro value slice pins s σ H x y v u Q I rx ry h hs
 obtain ⟨z,i,c,rfl,rfl,hz,he,q⟩:=h
 obtain ⟨t,rfl⟩:=rx
 obtain ⟨t',rfl⟩:=ry
 obtain ⟨j,h1,h2,h3,h4,h5⟩:=Yo he
 have hl:z.cps.toList.length=z.length:=by simp [Str.length]
 rw [hl] at h1 h4 h5
 have hn:=Ua
 exact tail_any (typeIs_str s z t) slot_str_getitem.lookup (getItem_str (c:=c) (by
  have e1:decide (i < -(2 ^ 63:Int))=false:=decide_eq_false (by omega)
  have e2:decide (i ≥ 2 ^ 63)=false:=decide_eq_false (by omega)
  rw [e1,e2,Bool.or_false]) (by rw [h1]; simpa using h2) ⟨.str ⟨#[c]⟩,H,I.tok _,⟨_,rfl⟩,q⟩) hs
noncomputable def rIx (K:PySem.W.Frag):R2:=fun x y H Q=>rIxL K x y H Q\/rIxT K x y H Q\/rIxS x y H Q
theorem g6:IxR X (rIx X.K):=XZ.or (KY.or KZ)
theorem yn (lo hi:Option Int) (n:Nat):(sliceBounds lo hi none n).1=((HT.sIx n 0 lo:Nat):Int)/\(sliceBounds lo hi none n).2.1=((HT.sIx n n hi:Nat):Int)/\(sliceBounds lo hi none n).2.2=1:=by
 refine ⟨?_, ?_,rfl⟩
 ·cases lo with
  | none=>simp [sliceBounds,HT.sIx]
  | some i=>
   simp only [sliceBounds,HT.sIx,Option.getD_none,show (1:Int) > 0 by decide,if_true]
   by_cases h:i < 0
   ·simp only [h,if_true] <;> omega
   ·simp only [h,if_false] <;> omega
 ·cases hi with
  | none=>simp [sliceBounds,HT.sIx]
  | some i=>
   simp only [sliceBounds,HT.sIx,Option.getD_none,show (1:Int) > 0 by decide,if_true]
   by_cases h:i < 0
   ·simp only [h,if_true] <;> omega
   ·simp only [h,if_false] <;> omega
theorem Ux (its:List Value) (lo hi:Option Int):slicePick its.toArray lo hi none=((its.drop (HT.sIx its.length 0 lo)).take (HT.sIx its.length its.length hi - HT.sIx its.length 0 lo)).toArray:=by
 obtain ⟨h1,h2,h3⟩:=yn lo hi its.toArray.size
 unfold slicePick
 rw [h1,h2,h3]
 simp only [sliceRange_one,pick_run,List.size_toArray] <;> rfl
noncomputable def rSlL (K:PySem.W.Frag):V->Option Int->Option Int->Hp->VK->Prop:=fun x lo hi H Q=>∃ a xs,x= .ref a/\SqL K H a xs/\∀ p,H p=none->Q (.ref p) (upd H p (.lst (X8 xs lo hi)))
theorem k6:SlR X (rSlL X.K):=by
 intro pins s σ H x v vl vu lo hi sl Q I rx hs pl pu h
 obtain ⟨a,xs,rfl,hx,q⟩:=h
 cases rx
 obtain ⟨its,r,ht,hz⟩:=I.list hx
 have hlen:=r.length
 refine ⟨"list",_,slot_list_getitem.lookup,ht.isList.typeIs, ?_⟩
 refine wpAny_getItem_list_slice ht.isList hs pl pu .none (by simp) ?_ (by rw [List.size_toArray] <;> omega)
 rw [Ux,← hlen]
 refine ⟨.ref s.heap.objs.size,_,I.laid (t' :=s.toks) (o:= .lst (X8 xs lo hi)) (fun b ob q=>Heap.get?_push_of_some _ q) (Nat.le_refl _) ?_,rfl,q _ (I.hok.fresh (Nat.le_refl _))⟩
 exact ⟨Nat.le_trans (ua xs lo hi) hz,_,0,(r.drop (HT.sIx xs.length 0 lo)).take (HT.sIx xs.length xs.length hi - HT.sIx xs.length 0 lo),Heap.get?_push_size _ rfl⟩
theorem yo:Jq X (.builtin "len") (fun xs H Q=>∃ p ys,xs=[.ref p]/\(SqL X.K H p ys\/SqT X.K H p ys)/\Q (.int ys.length) H):=by
 intro pins s σ H xs us Q I r h
 obtain ⟨p,ys,rfl,hq,q⟩:=h
 obtain ⟨u,rfl,rx⟩:=wD r
 cases rx
 have hn:=Ua
 rcases hq with hq | hq
 ·obtain ⟨its,r',pl,hz⟩:=I.list hq
  have hlen:=r'.length
  exact Calls.call_len_list pl.isList (by simp only [List.size_toArray] <;> omega) ⟨.int ys.length,H,I.tok _,⟨s.toks+1,by rw [List.size_toArray,hlen]⟩,q⟩
 ·obtain ⟨its,r',pl,hz⟩:=I.tuple hq
  have hlen:=r'.length
  exact len_tuple pl (by simp only [List.size_toArray] <;> omega) ⟨.int ys.length,H,I.tok _,⟨s.toks+1,by rw [List.size_toArray,hlen]⟩,q⟩
theorem yq:Jq X (.builtin "len") (fun xs H Q=>∃ z,xs=[.str z]/\z.length<=sizeLine/\Q (.int z.length) H):=by
 intro pins s σ H xs us Q I r h
 obtain ⟨z,rfl,hz,q⟩:=h
 obtain ⟨u,rfl,t,rfl⟩:=wD r
 have hn:=Ua
 exact len_str (by omega) ⟨.int z.length,H,I.tok _,⟨_,rfl⟩,q⟩
theorem Jq.or {f:Value} {r r' :List V->Hp->VK->Prop} (h:Jq X f r) (h' :Jq X f r'):Jq X f (fun xs H Q=>r xs H Q\/r' xs H Q):=by
 intro pins s σ H xs us Q I rs q
 rcases q with q | q
 ·exact h pins s σ H xs us Q I rs q
 ·exact h' pins s σ H xs us Q I rs q
theorem Uy:Jq X (.type "tuple") (fun xs H Q=>∃ p ys,xs=[.ref p]/\((SqL X.K H p ys/\∀ l,H l=none->Q (.ref l) (upd H l (.tup ys)))\/(SqT X.K H p ys/\Q (.ref p) H))):=by
 intro pins s σ H xs us Q I r h
 obtain ⟨p,ys,rfl,h⟩:=h
 obtain ⟨u,rfl,rx⟩:=wD r
 cases rx
 rcases h with ⟨hq,q⟩ | ⟨hq,q⟩
 ·obtain ⟨its,r',pl,hz⟩:=I.list hq
  have hlen:=r'.length
  refine call_tuple_list pl.isList (fun h' kp=> ?_) (by simp only [List.size_toArray] <;> omega)
  have I1:Inv X pins σ H { s with heap:=h' }:=I.kept (t' :=s.toks) kp
  have I2:Inv X pins σ (upd H h'.objs.size (.tup ys)) { s with heap:=h'.push { cls:= .type "tuple",data:= .seq its.toArray } }:=
   I1.laid (t' :=s.toks) (fun b o e=>Heap.get?_push_of_some _ e) (Nat.le_refl _) (show jv X.prog X.w _ _ _ (.tup ys) from ⟨hz,its,r',IsTup.new _ _⟩)
  exact ⟨.ref h'.objs.size,_,I2,rfl,q _ (I1.hok.fresh (Nat.le_refl _))⟩
 ·obtain ⟨its,r',pl,hz⟩:=I.tuple hq
  exact call_tuple_same pl ⟨.ref p,H,I,rfl,q⟩
noncomputable def tyV (K:PySem.W.Frag) (T:String) (x:V) (H:Hp):Prop:=match x with
 | .str _=>T="str"
 | .int _=>T="int"
 | .ref p=>(T="list"/\∃ xs,SqL K H p xs)\/(T="tuple"/\∃ o,K.lookup p=some o/\o.cls= .type "tuple"/\o.dict=none)\/
   (T="dict"/\((∃ kvs,H p=some (.dK kvs))\/∃ kvs,H p=some (.dT kvs)))\/(T="set"/\∃ S n,H p=some (.set S n))
 | _=>False
theorem g9 {pins:List (Addr×Obj)} {σ:St} {H:Hp} {s:Shared} {T:String} {x:V} {v:Value} (I:Inv X pins σ H s) (r:j9 x v) (ty:tyV X.K T x H):
  s.TypeIs v T/\∀ a,v= .ref a->∃ ob,s.heap.get? a=some ob/\ob.dict=none:=by
 cases x with
 | str z=>
  obtain ⟨t,rfl⟩:=r
  cases (show T="str" from ty)
  exact ⟨typeIs_str s z t,fun _ e=>nomatch e⟩
 | int i=>
  obtain ⟨t,rfl⟩:=r
  cases (show T="int" from ty)
  exact ⟨typeIs_int s i t,fun _ e=>nomatch e⟩
 | ref p=>
  cases r
  rcases ty with ⟨rfl,xs,hq⟩ | ⟨rfl,o,hk,hc,hd⟩ | ⟨rfl,hk⟩ | ⟨rfl,S,n,hk⟩
  ·obtain ⟨its,_,pl,_⟩:=I.list hq
   refine ⟨pl.isList.typeIs,fun a e=> ?_⟩
   cases e
   obtain ⟨o,n,e,c,hd,_⟩:=pl
   exact ⟨o,e,hd⟩
  ·refine ⟨⟨o,I.kIn p o hk,hc⟩,fun a e=> ?_⟩
   cases e
   exact ⟨o,I.kIn _ o hk,hd⟩
  ·have z:∃ o,s.heap.get? p=some o/\o.ExactDict:=by
    rcases hk with ⟨kvs,hk⟩ | ⟨kvs,hk⟩
    ·obtain ⟨_,_,_,_,o,_,_,e,ex,_⟩:=I.hok p _ hk
     exact ⟨o,e,ex⟩
    ·obtain ⟨_,_,_,_,o,_,_,e,ex,_⟩:=I.hok p _ hk
     exact ⟨o,e,ex⟩
   obtain ⟨o,e,ex⟩:=z
   refine ⟨⟨o,e,ex.1⟩,fun a e2=> ?_⟩
   cases e2
   exact ⟨o,e,ex.2.1⟩
  ·obtain ⟨o,_,_,_,e,ex,_⟩:=I.hok p _ hk
   refine ⟨⟨o,e,ex.1⟩,fun a e2=> ?_⟩
   cases e2
   exact ⟨o,e,ex.2.1⟩
 | _=>exact False.elim ty
noncomputable def tBM (K:PySem.W.Frag) (T:String) (r:V->List V->Hp->VK->Prop) (to:TE) (t:TA):TE:=fun σ H Q=>to σ H fun x H1=>tyV K T x H1/\t σ H1 fun xs H2=>r x xs H2 Q
variable {o e:Expr} {es:List Expr} {to:TE} {t:TA} {name:Str} {apos cpos:Pos} {T id:String} {r:V->List V->Hp->VK->Prop}
theorem x8 (pa:PlainAttrs T) (slot:Slot T name id) (hty:typeOf (.builtin id)=pure (.type "method_descriptor")) (hm:MtR X id r) (ho:PE X o to) (ha:PA X (e :: es) t)
  (hbase:attributeBase o name X.env (eval o X.env)=eval o X.env:=by rfl)
  (hfew:((backTo cpos (starEach (e :: es) X.env)).all (fun x=> !x.1) && (backToKw cpos (keywordEach [] X.env)).all (fun x=>x.1.isSome)
   && decide ((e :: es).length+([]:List Keyword).length+(if ([]:List Keyword).isEmpty then 0 else 1) < 30))=true:=by rfl)
  (hline:(apos.endLine == cpos.line)=true:=by rfl) (hs:starEach (e :: es) X.env=(false,eval e X.env) :: starEach es X.env:=by rfl) (hplain:(backTo cpos (starEach es X.env)).any (·.1)=false:=by rfl):
  PE X (.Call (.Attribute o name apos) (e :: es) [] cpos) (tBM X.K T r to t):=by
 intro pins s σ H Q I h
 refine wpAny_Call_method_late hbase hfew hline rfl (thn (ho pins s σ H _ I h) fun v s1 ⟨x,H1,I1,r1,ty,q1⟩=> ?_)
 obtain ⟨h1,h2⟩:=g9 I1 r1 ty
 refine ⟨T,id,pa,slot,hty,h1,h2, ?_⟩
 have hA:=ha cpos pins s1 σ H1 _ I1 q1
 rw [hs] at hA ⊢
 refine Calls.callWith_builtin (by show (false || (backTo cpos (starEach es X.env)).any (·.1))=false; rw [hplain] <;> rfl) (Calls.evalArgs_plain ?_)
 exact thn hA fun us s2 ⟨vs,H2,I2,r2,q2⟩=>hm pins s2 σ H2 x vs v us Q I2 r1 r2 q2
end
end L2
namespace L2
open PySem PySem.Spec PyProof.Rows
noncomputable def MtM (X:Cx) (id:String) (r:V->List V->Hp->VK->Prop):Prop:=
 ∀ (pins:List (Addr×Obj)) (s:Shared) (σ:St) (H:Hp) (x:V) (xs:List V) (v:Value) (us:List Value) (Q:VK),Inv X pins σ H s->j9 x v->ZB xs us->r x xs H Q->
  wpAny (model X.prog X.w) X.A (call (.builtin id) (v :: us)) (EP X pins σ Q) X.xe s
theorem ZB.one:∀ {x:V} {us:List Value},ZB [x] us->∃ u,us=[u]/\j9 x u
 | _,_, .cons r .nil=>⟨_,rfl,r⟩
theorem ZB.rep {xs:List V} {us:List Value} (h:ZB xs us):∀ k:Nat,ZB (List.replicate k xs).flatten (List.replicate k us).flatten
 | 0=> .nil
 | k+1=>by
  rw [List.replicate_succ,List.replicate_succ,List.flatten_cons,List.flatten_cons]
  exact ZB.append h (ZB.rep h k)
theorem wR (its:List Value):∀ (k:Nat) (acc:List Value),
  List.foldl (fun x1 x2=>x1++x2) acc.toArray (List.replicate k its.toArray)=(acc++(List.replicate k its).flatten).toArray
 | 0,acc=>by simp
 | k+1,acc=>by
  have e:acc.toArray++its.toArray=(acc++its).toArray:=by simp
  have e2:(acc++its)++(List.replicate k its).flatten=acc++(List.replicate (k+1) its).flatten:=by
   rw [List.replicate_succ,List.flatten_cons,List.append_assoc]
  rw [← e2,← wR its k (acc++its),← e,List.replicate_succ,List.foldl_cons]
section
variable {X:Cx} {pins:List (Addr×Obj)} {σ:St} {H:Hp} {s:Shared} {l b:Addr} {xs ys zs:List V}
theorem Inv.lset {its its' :List Value} {n:Nat} {f:Array Value->Array Value} {t' :Nat} (I:Inv X pins σ H s) (hH:H l=some (.lst xs))
  (e:s.heap.get? l=some { cls:= .type "list",data:= .seq its.toArray n }) (hf:f its.toArray=its'.toArray) (hv:ZB ys its') (hz:ys.length<=sizeLine):
  Inv X pins σ (upd H l (.lst ys)) { s with heap:=s.heap.update l (Obj.mapSeq f),toks:=t' }:=by
 have q:=PySem.IsL.update e f
 rw [hf] at q
 refine I.write (x:=l) (e:=l) (by rw [hH]; exact trivial) (.inl rfl) (fun b' u hb hu=>(Heap.get?_update_other s.heap (Obj.mapSeq f) (Ne.symm hb)).trans hu) ⟨_,q⟩ ?_
 exact ⟨hz,its',_,hv,q⟩
theorem Inv.lnew {its:List Value} {t' :Nat} (I:Inv X pins σ H s) (hv:ZB ys its) (hz:ys.length<=sizeLine):
  Inv X pins σ (upd H s.heap.objs.size (.lst ys)) { s with heap:=s.heap.push { cls:= .type "list",data:= .seq its.toArray },toks:=t' }:=
 I.laid (fun _ _ q=>Heap.get?_push_of_some _ q) (Nat.le_refl _) ⟨hz,its,0,hv,Heap.get?_push_size _ rfl⟩
theorem Inv.fresh (I:Inv X pins σ H s):H s.heap.objs.size=none:=I.hok.fresh (Nat.le_refl _)
theorem Inv.lstM (I:Inv X pins σ H s) (hH:H l=some (.lst xs)):xs.length<=sizeLine/\∃ (its:List Value) (n:Nat),ZB xs its/\xs.length=its.length/\s.heap.get? l=some { cls:= .type "list",data:= .seq its.toArray n }:=by
 obtain ⟨z,its,n,r,e⟩:=I.hok l _ hH
 exact ⟨z,its,n,r,r.length,e⟩
theorem qb {n:Nat} (h:n<=sizeLine):Builtin.List.listTooLong n=false:=by
 unfold Builtin.List.listTooLong
 exact decide_eq_false (by omega)
end
section
variable {X:Cx}
noncomputable def k7:V->List V->Hp->VK->Prop:=fun x vs H Q=>∃ l xs y,x= .ref l/\vs=[y]/\H l=some (.lst xs)/\xs.length < sizeLine/\Q .non (upd H l (.lst (xs++[y])))
theorem yr:MtM X "list.append" k7:=by
 intro pins s σ H x vs v us Q I rx rv h
 obtain ⟨l,xs,y,rfl,rfl,hH,hz,q⟩:=h
 cases rx
 obtain ⟨u,rfl,ru⟩:=rv.one
 obtain ⟨z,its,n,r,hl,e⟩:=I.lstM hH
 refine call_meets F.slot_list_append ⟨_,e,rfl⟩ F.entry_list_append (F.args_list_append_2 _ _) (PySem.list_append l its.toArray n u (by rw [List.size_toArray]; omega)) ⟨e, ?_⟩
 refine ⟨.non,_,I.lset (its' :=its++[u]) hH e (by simp) (r.append (.cons ru .nil)) ?_,rfl,q⟩
 rw [List.length_append,List.length_singleton]
 omega
noncomputable def k8:V->List V->Hp->VK->Prop:=fun x vs H Q=>∃ l b xs zs,x= .ref l/\vs=[.ref b]/\H l=some (.lst xs)/\H b=some (.lst zs)/\xs.length+zs.length<=sizeLine/\Q .non (upd H l (.lst (xs++zs)))
theorem QQ:MtM X "list.extend" k8:=by
 intro pins s σ H x vs v us Q I rx rv h
 obtain ⟨l,b,xs,zs,rfl,rfl,hH,hB,hz,q⟩:=h
 cases rx
 obtain ⟨u,rfl,ru⟩:=rv.one
 cases ru
 obtain ⟨z,its,n,r,hl,e⟩:=I.lstM hH
 obtain ⟨z2,its2,n2,r2,hl2,e2⟩:=I.lstM hB
 have hsz:its.toArray.size+its2.toArray.size<=sizeLine:=by rw [List.size_toArray,List.size_toArray]; omega
 have hlong:¬ (!its.toArray.isEmpty && Builtin.List.listTooLong (its.toArray.size+its2.toArray.size))=true:=by
  rw [qb hsz,Bool.and_false]
  exact Bool.false_ne_true
 refine call_meets F.slot_list_extend ⟨_,e,rfl⟩ F.entry_list_extend (F.args_list_extend_2 _ _)
  (AutoSeq1.list_extend_list_list_0 l its.toArray n b its2.toArray n2 hlong (by rw [List.size_toArray]; omega) (by omega)) ⟨e,e2, ?_⟩
 refine ⟨.non,_,I.lset (its' :=its++its2) hH e (by simp) (r.append r2) ?_,rfl,q⟩
 rw [List.length_append]
 omega
noncomputable def rCat:R2:=fun x y H Q=>∃ l b xs zs,x= .ref l/\y= .ref b/\H l=some (.lst xs)/\H b=some (.lst zs)/\xs.length+zs.length<=sizeLine/\∀ p,H p=none->Q (.ref p) (upd H p (.lst (xs++zs)))
theorem gc:OpR X (binaryOp .Add) rCat:=by
 intro pins s σ H x y v u Q I rx ry h
 obtain ⟨l,b,xs,zs,rfl,rfl,hH,hB,hz,q⟩:=h
 cases rx
 cases ry
 obtain ⟨z,its,n,r,hl,e⟩:=I.lstM hH
 obtain ⟨z2,its2,n2,r2,hl2,e2⟩:=I.lstM hB
 refine PySem.P.add_list e e2 ?_ (by rw [List.size_toArray,List.size_toArray]; omega)
 have ea:its.toArray++its2.toArray=(its++its2).toArray:=by simp
 rw [ea]
 exact ⟨.ref _,_,I.lnew (t' :=s.toks) (r.append r2) (by rw [List.length_append]; omega),rfl,q _ I.fresh⟩
noncomputable def rRep:R2:=fun x y H Q=>∃ l k xs,x= .ref l/\y= .int k/\H l=some (.lst xs)/\ -(2 ^ 63)<=k/\k < 2 ^ 63/\xs.length*k.toNat<=sizeLine/\
 ∀ p,H p=none->Q (.ref p) (upd H p (.lst (List.replicate k.toNat xs).flatten))
theorem W8 {α:Type} (xs:List α) (k:Nat):(List.replicate k xs).flatten.length=k*xs.length:=by
 induction k with
 | zero=>simp
 | succ k ih=>rw [List.replicate_succ,List.flatten_cons,List.length_append,ih,Nat.succ_mul,Nat.add_comm]
theorem gd:OpR X (binaryOp .Mult) rRep:=by
 intro pins s σ H x y v u Q I rx ry h
 obtain ⟨l,k,xs,rfl,rfl,hH,h1,h2,hz,q⟩:=h
 cases rx
 obtain ⟨t,rfl⟩:=ry
 obtain ⟨z,its,n,r,hl,e⟩:=I.lstM hH
 have hlen:its.toArray.size*k.toNat<=sizeLine:=by rw [List.size_toArray,← hl]; exact hz
 have hcap:¬ its.toArray.size*k.toNat > (2 ^ 63 - 1) / 8:=by
  have:(sizeLine:Nat)<=(2 ^ 63 - 1) / 8:=by decide
  omega
 have hfit:¬ (!Builtin.List.listFitsIndex k)=true:=by
  rw [fitsIndex_both h1 h2]
  exact Bool.false_ne_true
 have hlong:¬ Builtin.List.listTooLong (its.toArray.size*k.toNat)=true:=by
  rw [qb hlen]
  exact Bool.false_ne_true
 have hnew:List.foldl (fun x1 x2=>x1++x2) #[] (List.replicate (if its.toArray.isEmpty=true then 0 else k.toNat) its.toArray)=(List.replicate k.toNat its).flatten.toArray:=by
  have f0:∀ m:Nat,List.foldl (fun x1 x2=>x1++x2) #[] (List.replicate m its.toArray)=(List.replicate m its).flatten.toArray:=fun m=>by
   have:=wR its m []
   rw [List.nil_append] at this
   exact this
  rw [f0]
  cases its with
  | nil=>simp
  | cons a r' =>rw [if_neg (by simp)]
 refine wpAny_binaryOp_repeat_ref (T:="list") (U:="int") (by decide) ⟨_,e,rfl⟩ (fun s' =>typeIs_int s' k t) noFill_list_mul F.fills_int_mul F.slot_int_rmul repeat_list F.slot_int_index.lookup
  (call_meets F.slot_int_rmul (typeIs_int s k t) F.entry_int_rmul (F.args_int_rmul_2 _ _) (int___rmul___int_list k t l its.toArray n)
   ⟨e,rfl,⟨_,e,rfl⟩,call_meets F.slot_list_mul ⟨_,e,rfl⟩ F.entry_list_mul (F.args_list_mul_2 _ _) (AutoListH.list___mul___list_int_3 l its.toArray n k t hfit hcap hlong) ⟨e, ?_⟩⟩)
 rw [hnew]
 exact ⟨.ref _,_,I.lnew (t' :=s.toks) (r.rep k.toNat) (by rw [W8,Nat.mul_comm]; exact hz),rfl,q _ I.fresh⟩
end
section
variable {prog:Program} {w:World} {A:Around} {E:Value->Shared->Prop} {s:Shared}
end
section
variable {X:Cx}
end
end L2
namespace Att
open PySem PySem.W PySem.Calls PyProof.Rows
theorem ub {P:Params} {h:Heap}:∀ (ns:List Int) (vs:List Value),WellAll P h vs (ns.map WData.int)->IntsAre vs ns:=by
 intro ns
 induction ns with
 | nil=>
  intro vs w
  rw [List.map_nil] at w
  cases w
  exact .nil
 | cons n ns ih=>
  intro vs w
  rw [List.map_cons] at w
  cases w with
  | cons a b=>
   cases a
   exact .cons _ _ (ih _ b)
theorem QR {l:OpenLaw} {n:Nat} (hn:l.most=some n) {P:Params} {h:Heap} {args:List WData} {vals:List Value}
  (hpre:l.row.toRowW.claim.pre args=true) (hwl:WellAll P h vals args):
  ∃ a vs ns,vals=[Value.ref a]/\args=[WData.list (ns.map WData.int)]/\h.get? a=some { cls:= .type "list",data:= .seq vs.toArray }/\IntsAre vs ns/\ns.length<=n:=by
 have hsh:WShape.hasAll [] args [.list .int]=true:=(pre_splitW hpre).1
 have hc:l.pre.holds [] { args:=args }=true:=(pre_splitW hpre).2
 obtain ⟨d,r,rfl,h1,h2⟩:=hasAllW_cons hsh
 obtain rfl:=hasAllW_nil h2
 obtain ⟨xs,rfl,h3⟩:=hasW_list h1
 obtain ⟨ns,rfl⟩:=items_int h3
 have hlen:ns.length<=n:=by
  unfold OpenLaw.pre at hc
  have h4:(WTm.not (.lt (.lit (.int (n:Int))) (.len (.arg 0)))).holds [] { args:=[.list (ns.map .int)] }=true:=by
   have h4:=(holds_andW hc).1
   rw [hn] at h4
   exact h4
  have h5:=condW_of h4 (w_not (w_lt w_lit (w_len_list (w_arg rfl))))
  rw [List.length_map] at h5
  refine Nat.le_of_not_lt fun q=> ?_
  have q' :(n:Int) < ((ns.length:Nat):Int):=by omega
  first
   | (rw [decide_eq_true q'] at h5; exact absurd h5 (by decide))
   | (simp at h5; omega)
 cases hwl with
 | cons w1 w2=>
  cases w2
  cases w1 with
  | list ho hall=>exact ⟨_,_,ns,rfl,rfl,ho,ub ns _ hall,hlen⟩
theorem QS (l:OpenLaw) (args:List WData):l.row.toRowW.claim.post args (.bool true) args=true:=
 postW_of (r:=l.row.toRowW) (X:=(true == true))
  (show WShape.has [] (.bool true) .bool=true by first | rfl | decide | simp [WShape.has,WShape.arms,WShape.armsAll])
  (show (WTm.eq .res (.lit (.bool true))).value [] { args:=args,res:=some (.bool true),after:=args }=some (.bool (true == true)) from w_eq_bool (w_res rfl) w_lit) rfl
theorem attach_call {l:OpenLaw} {n:Nat} {q:Program} {loose:List Str} {XP:(Str->Option Value)->Heap->Prop} {YP:World->Heap->Prop} {d:DefRec}
  (hn:l.most=some n) (hdf:d.params.defaults=[])
  (call:∀ (w:World) (s₀ s₁:Shared) (mg mb:Str->Option Value) (fa:Addr) (o:Obj) (pm cd doc:Value) (a:Addr) (vs:List Value) (ns:List Int),
   Ground q loose [] XP w s₀ mg mb s₁.heap->YP w s₁.heap->
   s₁.heap.get? fa=some o->o.data= .func (docDef d.name d.params d.body d.scope pm cd doc)->s₁.heap.CodeRec cd d.name->mg d.name=some (.ref fa)->
   s₁.heap.get? a=some { cls:= .type "list",data:= .seq vs.toArray }->IntsAre vs ns->ns.length<=n->s₁.gens= #[]->
   codeAny (model l.prog w) callerA (.call (.ref fa) ⟨[.ref a],[]⟩) (fun r s' =>r= .ok (.ret (.bool true))/\OldK s₁.heap s'.heap/\s'.os=s₁.os/\AllBare s'.gens) s₁):
  WalkO q loose XP YP l.row.toRowW d [] (fun f vs=>PySem.call f vs):=by
 intro w s₀ s₁ mg mb G Y fa o pm cd doc dV kV ho hd hcd hD hmg hg args vals as hpre hlay hrd hwl hlo
 obtain rfl:dV= .none:=Dflts.none hD hdf
 obtain rfl:kV= .none:=Dflts.noKw hD
 obtain ⟨a,vs,ns,rfl,rfl,hobj,hints,hlen⟩:=QR hn hpre hwl
 refine enter_call (codeAny_mono (call w s₀ s₁ mg mb fa o pm cd doc a vs ns G Y ho (fd_plain hd) hcd hmg hobj hints hlen hg) fun r s' hq=> ?_)
 obtain ⟨rfl,h2,h3,h4⟩:=hq
 exact ⟨.inl ⟨.bool true, .bool true,[],rfl,fun _=>rfl, .bool true,QS l _,fun _=>⟨List.Pairwise.nil,fun _ hm=>(nomatch hm)⟩⟩,h2,h3,h4⟩
section
variable {prog:Program} {w:World} {A:Around} {E:Value->Shared->Prop} {s:Shared} {K:Frag}
end
end Att
namespace L2
open PySem PySem.Spec PyProof.Rows
theorem yt:∀ {vs:List Value} {ns:List Int},IntsAre vs ns->ZB (ns.map V.int) vs
 | _,_, .nil=> .nil
 | _,_, .cons n t h=> .cons ⟨t,rfl⟩ (yt h)
noncomputable def Gp (H:Hp):Prop:=∀ b,H b=none\/∃ o xs,H b=some (.frz o (.lst xs))
theorem x9 {P:Program} {w:World} {K:PySem.W.Frag} {mg mb:Str->Option Value} {CX:CXT} {k:Nat} {fa a:Addr} {fd:FuncData} {x:Str} {sp:Sp} {s₁:Shared} {vs:List Value} {ns:List Int}
  (KX:K.In s₁.heap) (hns:s₁.heap.Ns mainGlobals mg) (hb:s₁.heap.Ns builtinsNs mb) (hbb:∀ x:Str,x ≠ "__name__"->mb x=bootBuiltins x) (hlim:s₁.heap.NoLimit) (hg:s₁.gens= #[])
  (ha:s₁.heap.get? a=some { cls:= .type "list",data:= .seq vs.toArray }) (hi:IntsAre vs ns) (hl:ns.length<=sizeLine) (hr:WH k callerA)
  (F:∀ base:Heap,K.In base->base.Ns mainGlobals mg->jj P w K mg base CX k fa fd [x] sp) (hbind:∀ (s:Shared) (u:Value),BindsTo s fd ⟨[u],[]⟩ [(x,u)])
  (hsp:∀ H:Hp,Gp H->SqL K H a (ns.map V.int)->sp [.ref a] H (fun v _=>v= .bl true) fun _ _ _=>False)
  (hCX:∀ H e s',CX [] H s₁ (fun _ _ _=>False) e s' ->False):
  codeAny (model P w) callerA (.call (.ref fa) ⟨[.ref a],[]⟩) (fun r s' =>r= .ok (.ret (.bool true))/\OldK s₁.heap s'.heap/\s'.os=s₁.os/\AllBare s'.gens) s₁:=by
 have rv:=yt hi
 have lenV:=hi.length
 have core:∀ H:Hp,Gp H->SqL K H a (ns.map V.int)->HOk P w H s₁.heap->(∀ b,H b ≠ none->b=a)->(H a ≠ none->K.lookup a=none)->
   codeAny (model P w) callerA (.call (.ref fa) ⟨[.ref a],[]⟩) (fun r s' =>r= .ok (.ret (.bool true))/\OldK s₁.heap s'.heap/\s'.os=s₁.os/\AllBare s'.gens) s₁:=by
  intro H hO hS hok hA hK
  have base_of:∀ {b:Addr} {o:Obj},s₁.heap.get? b=some o->H b=none->(VR s₁.heap H).get? b=some o:=fun e n=>VS e n
  have noA:∀ {b:Addr} {o:Obj} {es:Array DictEntry} {ep:Nat},s₁.heap.get? b=some o->o.data= .dict es ep->H b=none:=fun {b o es ep} e d=>by
   cases q:H b with
   | none=>rfl
   | some u=>
    have e' :b=a:=hA b (by rw [q]; simp)
    subst e'
    rw [ha] at e; cases e
    have d' :Data.seq vs.toArray _=Data.dict es ep:=d
    cases d'
  have nsK:∀ {b:Addr} {m:Str->Option Value},s₁.heap.Ns b m->(VR s₁.heap H).Ns b m:=fun {b m} ⟨o,es,ep,e,d,r⟩=>⟨o,es,ep,base_of e (noA e d),d,r⟩
  have hKb:K.In (VR s₁.heap H):=fun b o e=>base_of (KX b o e) (by
   cases q:H b with
   | none=>rfl
   | some u=>
    have e' :b=a:=hA b (by rw [q]; simp)
    subst e'
    rw [hK (by rw [q]; simp)] at e; cases e)
  have hM:Mod K mg (VR s₁.heap H):=⟨hKb,nsK hns,⟨mb,nsK hb,hbb⟩,let ⟨mc,h1,h2⟩:=hlim; ⟨mc,nsK h1,h2⟩⟩
  have e0:Go P w K mg (VR s₁.heap H) callerA [] s₁ H:=⟨rfl,hM,fun b o e=>XH e,Nat.le_of_eq (QA _ _),trivial,fun b hb=>absurd (show b∈([]:List Addr) from hb) (by simp),hok, .of_eq hg⟩
  refine codeAny_mono ((F _ hKb (nsK hns)).run callerA [] s₁ H ⟨[.ref a],[]⟩ [.ref a] [.ref a] _ _ hr e0 (hbind s₁ (.ref a)) (.cons rfl .nil) (hsp H hO hS)) fun r s' h=> ?_
  cases r with
  | error e=>exact (hCX H e s' h).elim
  | ok fl=>
   cases fl with
   | next=>exact False.elim h
   | brk=>exact False.elim h
   | cont=>exact False.elim h
   | ret u=>
    obtain ⟨v,H',os,bare,un,hok',r',q⟩:=h
    have q' :v= .bl true:=q
    subst q'
    obtain rfl:u=Value.bool true:=r'
    refine ⟨rfl,OldK.of_keep fun b o e=> ?_,os,bare⟩
    cases q:H b with
    | none=>exact un.keep b o e q (by intro z; exact absurd (show b∈([]:List Addr) from z) (by simp)) (by simp)
    | some u=>
     rcases hO b with z | ⟨ob,xs,z⟩
     ·rw [q] at z; cases z
     ·have z2:=un.frzs b ob _ z
      obtain ⟨e1,_⟩:=hok b _ z
      obtain ⟨e2,_⟩:=hok' b _ z2
      rw [e] at e1; cases e1
      exact e2
 cases hk:K.lookup a with
 | some o=>
  have e:=KX a o hk
  rw [ha] at e
  cases e
  refine core (fun _=>none) (fun _=> .inl rfl) (.inr ⟨_,vs.toArray,_,hk,rfl,rfl,rfl,by rw [List.size_toArray,lenV]; exact hl,by simpa using rv⟩) (fun b u z=>by have z' :(none:Option HO)=some u:=z; cases z') (fun b z=>absurd rfl z) fun z=>absurd rfl z
 | none=>
  refine core (fun b=>if b=a then some (.frz { cls:= .type "list",data:= .seq vs.toArray } (.lst (ns.map V.int))) else none) (fun b=> ?_) (.inl (.inr ⟨{ cls:= .type "list",data:= .seq vs.toArray },if_pos rfl⟩)) (fun b u z=> ?_) (fun b z=> ?_) fun _=>hk
  ·by_cases hb:b=a
   ·exact .inr ⟨_,_,if_pos hb⟩
   ·exact .inl (if_neg hb)
  ·by_cases hb:b=a
   ·have z' :=(if_pos hb).symm.trans z
    cases z'
    subst hb
    exact ⟨ha,by rw [List.length_map]; exact hl,vs,_,rv,ha⟩
   ·have z' :=(if_neg hb).symm.trans z
    cases z'
  ·by_cases hb:b=a
   ·exact hb
   ·exact absurd (if_neg hb) z
end L2
namespace L2
open PySem PySem.Spec PyProof.Rows
theorem walk_of {l:PySem.W.OpenLaw} {n k:Nat} {q:Program} {loose:List Str} {XP:(Str->Option Value)->Heap->Prop} {YP:World->Heap->Prop} {d:DefRec} {K:Params->PySem.W.Frag} {CX:World->CXT} {sp:World->Sp} {x:Str}
  (hn:l.most=some n) (hn2:n<=sizeLine) (hdf:d.params.defaults=[]) (hr:WH k callerA)
  (hY:∀ (w:World) (h:Heap),YP w h->(K w.params).In h)
  (F:∀ (w:World) (mg:Str->Option Value) (fa:Addr) (h:Heap),(K w.params).In h->h.Ns mainGlobals mg->mg d.name=some (.ref fa)->
   ∃ fd:FuncData,(∀ (s:Shared) (u:Value),BindsTo s fd ⟨[u],[]⟩ [(x,u)])/\
    ∀ base:Heap,(K w.params).In base->base.Ns mainGlobals mg->jj l.prog w (K w.params) mg base (CX w) k fa fd [x] (sp w))
  (hsp:∀ (w:World) (H:Hp) (a:Addr) (ns:List Int),ns.length<=n->Gp H->SqL (K w.params) H a (ns.map V.int)->sp w [.ref a] H (fun v _=>v= .bl true) fun _ _ _=>False)
  (hCX:∀ (w:World) (H:Hp) (s:Shared) (e:Value) (s' :Shared),CX w [] H s (fun _ _ _=>False) e s' ->False):
  PySem.W.WalkO q loose XP YP l.row.toRowW d [] (fun f vs=>PySem.call f vs):=by
 refine Att.attach_call hn hdf fun w s₀ s₁ mg mb fa o pm cd doc a vs ns G Y ho hd hcd hmg hobj hints hlen hg=> ?_
 have KX:=hY w _ Y
 obtain ⟨fd,hb,hF⟩:=F w mg fa _ KX G.T.g hmg
 exact x9 KX G.T.g G.T.b G.T.builtins G.T.nolimit hg hobj hints (Nat.le_trans hlen hn2) hr hF hb (fun H hO hS=>hsp w H a ns hlen hO hS) fun H e s' =>hCX w H s₁ e s'
end L2
namespace L2
open PySem PySem.Spec PyProof.Rows
noncomputable def JY (s:Stmt):Arguments:=match s with
 | .FunctionDef _ a _ _ _ _ _ _ _ _=>a
 | _=>{ posonlyargs:=[],args:=[],vararg:=none,kwonlyargs:=[],kw_defaults:=[],kwarg:=none,defaults:=[] }
noncomputable def jB (s:Stmt):List Stmt:=match s with
 | .FunctionDef _ _ b _ _ _ _ _ _ _=>b
 | _=>[]
noncomputable def ze (s:Stmt):Scope:=match s with
 | .FunctionDef _ _ _ _ _ _ sc _ _ _=>sc
 | _=>{ kind:= .function,names:=[],isGenerator:=false,isCoroutine:=false }
noncomputable abbrev CX0:CXT:=fun _ _ _ _ _ _=>False
structure Fun (K:PySem.W.Frag) (x qual:Str) (st:Stmt) (f:Addr) (fd:FuncData):Prop where
 ex:∃ (oc:Value) (od:Option Addr) (kV doc pm:Value) (an:Option Addr) (cdv ct:Value) (osl:Array (Option Value)),
  fd=PySem.W.fnOf x qual (JY st) (jB st) (ze st) .none kV doc pm an cdv ct/\K.lookup f=some ⟨oc,od, .func fd,osl⟩/\PySem.W.codeIn K cdv qual=true
 kp:PySem.W.keepIn K (.ref f)=true
section
variable {P:Program} {w:World} {K:PySem.W.Frag} {mg:Str->Option Value} {base:Heap}
theorem Fun.ok {x qual:Str} {st:Stmt} {f:Addr} {fd:FuncData} {N ps:List Str} {k:Nat} {sp:Sp} (F:Fun K x qual st f fd) (S:zo N ps (ze st)) (len:∀ vs H Q E,sp vs H Q E->vs.length=ps.length)
  (hbody:∀ (cdv:Value) (A:Around) (outer:List Env) (s:Shared) (H:Hp) (vs:List V) (Q:VK) (E:XK),WH k (A.deeper (envOfC qual (ze st) s.heap.objs.size f cdv))->sp vs H Q E->
   ∃ t,PSs (uS CX0 P w K mg base N qual (ze st) f cdv A outer s H E).nox (jB st) t/\t { nx:=fun _ H' =>Q .non H',rt:=Q } (start N vs) H):jj P w K mg base CX0 (k+1) f fd ps sp:=by
 obtain ⟨oc,od,kV,doc,pm,an,cdv,ct,osl,rfl,lk,hcd⟩:=F.ex
 refine KT lk hcd S len fun A outer s H vs Q E hr hsp=> ?_
 obtain ⟨t,h,q⟩:=hbody cdv A outer s H vs Q E hr hsp
 exact ⟨t,h.nox,q⟩
theorem Fun.binds {x qual:Str} {st:Stmt} {f:Addr} {fd:FuncData} {ps:List Str} (F:Fun K x qual st f fd)
  (h:∀ (kV doc pm:Value) (an:Option Addr) (cdv ct:Value) (us:List Value),us.length=ps.length->bindArgs (PySem.W.fnOf x qual (JY st) (jB st) (ze st) .none kV doc pm an cdv ct) ⟨us,[]⟩=pure (ps.zip us)):Binds K fd ps []:=by
 obtain ⟨oc,od,kV,doc,pm,an,cdv,ct,osl,rfl,lk,hcd⟩:=F.ex
 exact .all (h kV doc pm an cdv ct)
theorem gf {x qual:Str} {st:Stmt} {f:Addr} {oc:Value} {od an:Option Addr} {osl:Array (Option Value)} {kV doc pm cdv ct:Value} (l:K.lookup f=some ⟨oc,od, .func (PySem.W.fnOf x qual (JY st) (jB st) (ze st) .none kV doc pm an cdv ct),osl⟩)
  (c:PySem.W.codeIn K cdv qual=true) (k:PySem.W.keepIn K (.ref f)=true):Fun K x qual st f (PySem.W.fnOf x qual (JY st) (jB st) (ze st) .none kV doc pm an cdv ct):=⟨⟨oc,od,kV,doc,pm,an,cdv,ct,osl,rfl,l,c⟩,k⟩
end
section
variable {X:Cx}
theorem pv (i:Nat) {x:Str} {pos:Pos} (hN:X.N[i]? =some x:=by rfl) (hv:Vis X.env.scope x:=by first | exact Or.inl rfl | exact Or.inr (Or.inl rfl) | exact Or.inr (Or.inr rfl)) (hd:(x == ("__debug__":Str))=false:=by decide)
  (hcd:(x == ("__classdict__":Str))=false:=by decide):PE X (.Name x pos) (XI i):=Kx hN hv hd hcd
end
noncomputable def zJ (H H' :Hp):Prop:=∀ b o,H b=some o->H' b=some o
theorem zJ.refl (H:Hp):zJ H H:=fun _ _ h=>h
theorem zJ.trans {H H1 H2:Hp} (a:zJ H H1) (b:zJ H1 H2):zJ H H2:=fun c o h=>b c o (a c o h)
theorem zJ.free {H H' :Hp} (e:zJ H H') {l:Addr} (h:H' l=Option.none):H l=Option.none:=by
 cases q:H l with
 | none=>rfl
 | some o=>
  rw [e l o q] at h
  cases h
end L2
namespace L2
open PySem PySem.Spec PyProof.Rows PySem.W
theorem qc {env:Env} {outer:List Env} {L:Addr} (h:env.frame=some L):frs (env :: outer)=L :: frs outer:=by
 unfold frs; rw [List.filterMap_cons,h]
structure k9 (P:Program) (w:World) (outer:List Env) (H:Hp) (s s' :Shared) (ea:Addr) (cls a0:Value) (B:Heap) (H' :Hp):Prop where
 os:s'.os=s.os
 bare:AllBare s'.gens
 fly:Heap.FlyingW B outer ea cls a0 s'.heap
 hok:HOk P w H' B
 un:Un (frs outer) [] H H' s.heap s'.heap
 inB:∀ b o,s.heap.get? b=some o->b ∉ frs outer->(H b=none->B.get? b=some o)/\∃ o',B.get? b=some o'
noncomputable def CX1 (P:Program) (w:World):CXT:=fun outer H s E e s' =>∃ ea cls a0 B H',e= .ref ea/\k9 P w outer H s s' ea cls a0 B H' /\E cls none H'
section
variable {X:Cx} {pins:List (Addr×Obj)} {σ:St} {H H' :Hp} {s s' :Shared} {ea:Addr} {cls a0:Value} {B:Heap} {h' h'' :Heap}
theorem Inv.frNf (I:Inv X pins σ H s):∀ b∈frs X.stack,H b=none/\∃ o,s.heap.get? b=some o/\∀ vs,o.data ≠ .fields vs:=fun b hb=>⟨I.stkFree b hb,(I.stack.mem hb).2⟩
theorem Inv.old (I:Inv X pins σ H s) {b:Addr} {o:Obj} (hX:X.stack=X.env :: X.outer) (hf:X.env.frame=some X.env.locals) (e:X.s₀.heap.get? b=some o) (hb:b ∉ frs X.outer):b ∉ frs X.stack:=by
 rw [hX,qc hf]
 intro z
 rcases List.mem_cons.mp z with z | z
 ·exact absurd (Nat.lt_of_lt_of_le (Heap.lt_size e) I.ok.above) (by rw [z]; exact Nat.lt_irrefl _)
 ·exact hb z
theorem Yp {X:Cx} (hX:X.stack=X.env :: X.outer) (hf:X.env.frame=some X.env.locals) {b:Addr} (hb:b∈frs X.outer):b∈frs X.stack:=by
 rw [hX,qc hf]; exact List.mem_cons_of_mem _ hb
theorem k9.out (I:Inv X pins σ H s) (hX:X.stack=X.env :: X.outer) (hf:X.env.frame=some X.env.locals) (hex:X.ex=[]) (L:k9 X.prog X.w X.stack H s s' ea cls a0 B H')
  (fl:Heap.FlyingW B X.outer ea cls a0 h') (sl:s'.heap.UpToSlots h'):k9 X.prog X.w X.outer X.H₀ X.s₀ { s' with heap:=h' } ea cls a0 B H' where
 os:=L.os.trans I.os
 bare:=L.bare
 fly:=fl
 hok:=L.hok
 inB:=fun b o e hb=>by
  have nx:b ∉ X.ex:=by rw [hex]; simp
  obtain ⟨o1,e1⟩:=I.base.there b o e nx
  have hb' :=I.old hX hf e hb
  exact ⟨fun n=>(L.inB b o (I.base.keep b o e n hb nx) hb').1 (I.base.free b o e n nx),(L.inB b o1 e1 hb').2⟩
 un:=by
  have nx:∀ b,b ∉ X.ex:=fun b=>by rw [hex]; simp
  have slot:∀ b o,X.s₀.heap.get? b=some o->X.H₀ b=none->b∈frs X.outer->∃ sl,h'.get? b=some { o with slots:=sl }:=fun b o e n hb=>by
   obtain ⟨sl1,e1⟩:=I.base.slot b o e n hb (nx b)
   have n1:=I.base.free b o e n (nx b)
   obtain ⟨sl2,e2⟩:=L.un.slot b _ e1 n1 (Yp hX hf hb) (by simp)
   obtain ⟨_,o3,e3,nf⟩:=I.frNf b (Yp hX hf hb)
   rw [e1] at e3; cases e3
   obtain ⟨sl4,e4⟩:=sl b _ e2 nf
   exact ⟨sl4,e4⟩
  refine ⟨fun b o e n hb _=> ?_,fun b o e n hb _=>slot b o e n hb,fun b o e n _=> ?_,fun b o e _=> ?_,fun b xs e=>L.un.tups b xs (I.base.tups b xs e),fun b o xs e=>L.un.frzs b o xs (I.base.frzs b o xs e),fun b ps e=> ?_⟩
  ·exact fl.1 b o ((L.inB b o (I.base.keep b o e n hb (nx b)) (I.old hX hf e hb)).1 (I.base.free b o e n (nx b)))
  ·obtain ⟨o1,e1⟩:=I.base.there b o e (nx b)
   exact L.un.free b o1 e1 (I.base.free b o e n (nx b)) (by simp)
  ·by_cases hb:b∈frs X.outer
   ·obtain ⟨sl1,e1⟩:=slot b o e (I.ok.frf b hb) hb
    exact ⟨_,e1⟩
   ·obtain ⟨o1,e1⟩:=I.base.there b o e (nx b)
    obtain ⟨o',e'⟩:=(L.inB b o1 e1 (I.old hX hf e hb)).2
    exact ⟨o',fl.1 b o' e'⟩
  ·obtain ⟨m1,e1⟩:=I.base.tbls b ps e
   obtain ⟨m2,e2⟩:=L.un.tbls b _ e1
   exact ⟨m1++m2,by rw [e2,Array.append_assoc]⟩
theorem k9.made (I:Inv X pins σ H s) (hX:X.stack=X.env :: X.outer) (hf:X.env.frame=some X.env.locals) (hex:X.ex=[]) {vs:List Value} (hx:Heap.MadeExcOf s.heap h' ea cls vs)
  (fl:Heap.FlyingW (hideAll s.heap (frs X.stack)) X.outer ea cls a0 h'') (sl:h'.UpToSlots h''):k9 X.prog X.w X.outer X.H₀ X.s₀ { s with heap:=h'' } ea cls a0 (hideAll s.heap (frs X.stack)) H where
 os:=I.os
 bare:=I.bare
 fly:=fl
 hok:=fun a o e=>(I.hok a o e).stay (fun b u hb q=>hideAll_get _ q fun z=>by
   have:=I.stkFree b z
   rcases hb with rfl | hb
   ·rw [e] at this; cases this
   ·rw [hb] at this; cases this) (fun _ q=>q) fun _ _ q=>q
 inB:=fun b o e hb=>by
  have nx:b ∉ X.ex:=by rw [hex]; simp
  obtain ⟨o1,e1⟩:=I.base.there b o e nx
  have hb' :=I.old hX hf e hb
  exact ⟨fun n=>hideAll_get _ (I.base.keep b o e n hb nx) hb',o1,hideAll_get _ e1 hb'⟩
 un:=by
  have nx:∀ b,b ∉ X.ex:=fun b=>by rw [hex]; simp
  have slot:∀ b o,X.s₀.heap.get? b=some o->X.H₀ b=none->b∈frs X.outer->∃ sl,h''.get? b=some { o with slots:=sl }:=fun b o e n hb=>by
   obtain ⟨sl1,e1⟩:=I.base.slot b o e n hb (nx b)
   obtain ⟨_,o3,e3,nf⟩:=I.frNf b (Yp hX hf hb)
   rw [e1] at e3; cases e3
   obtain ⟨sl4,e4⟩:=sl b _ (hx.keeps b _ e1) nf
   exact ⟨sl4,e4⟩
  refine ⟨fun b o e n hb _=> ?_,fun b o e n hb _=>slot b o e n hb,fun b o e n _=>I.base.free b o e n (nx b),fun b o e _=> ?_,I.base.tups,I.base.frzs,I.base.tbls⟩
  ·exact fl.1 b o (hideAll_get _ (I.base.keep b o e n hb (nx b)) (I.old hX hf e hb))
  ·by_cases hb:b∈frs X.outer
   ·obtain ⟨sl1,e1⟩:=slot b o e (I.ok.frf b hb) hb
    exact ⟨_,e1⟩
   ·obtain ⟨o1,e1⟩:=I.base.there b o e (nx b)
    exact ⟨o1,fl.1 b o1 (hideAll_get _ e1 (I.old hX hf e hb))⟩
end
section
variable {P:Program} {w:World} {K:Frag} {mg:Str->Option Value} {base:Heap} {N:List Str} {qual:Str} {scope:Scope} {f:Addr} {cd:Value} {A:Around} {outer:List Env} {s:Shared} {H:Hp} {E:XK}
theorem JG:u9 (CX1 P w) (uS (CX1 P w) P w K mg base N qual scope f cd A outer s H E) E:=by
 intro pins σ H1 s1 e s' I ⟨ea,cls,a0,B,H',he,L,hE⟩
 subst he
 exact wpAny_leaves_onW (base:=B) I.ok.frames rfl L.fly fun h' fl sl=>⟨ea,cls,a0,B,H',rfl,L.out I rfl rfl rfl fl sl,hE⟩
theorem QT {x:Str} {C:Addr} {bm bmN:List Value} {Bn Bb newId nid initId inN:String} {np cpos pos:Pos} {e:Expr} {t:TA} (O:OwnCls x C bm newId mg base) (Fn:ExcBaseFacts Bn newId inN bmN) (hBn:bm.contains (.type Bn)=true) (FB:ExcBaseFacts Bb nid initId bm)
  (hg:Gl (uS (CX1 P w) P w K mg base N qual scope f cd A outer s H E) x) (ha:PA (uS (CX1 P w) P w K mg base N qual scope f cd A outer s H E) [e] t)
  (he:starEach [e] (envOfC qual scope s.heap.objs.size f cd)=[(false,eval e (envOfC qual scope s.heap.objs.size f cd))]) (hd:(x == ("__debug__":Str))=false:=by decide):
  PS (uS (CX1 P w) P w K mg base N qual scope f cd A outer s H E) (.Raise (some (.Call (.Name x np) [e] [] cpos)) none pos) (fun _ σ H1=>t σ H1 fun vs H2=>vs.length<=sizeLine/\E (.ref C) none H2):=by
 intro pins s1 σ H1 D I hw
 obtain ⟨tl,N',nm,q,bs,hdct,sn,sub,ab,col,dd,k0,k1,k2,k3,k5,mN,hC,hN,hni,T⟩:=O.obj
 have hp:(backTo cpos (starEach [e] (envOfC qual scope s.heap.objs.size f cd))).any (·.1)=false:=by rw [he]; rfl
 refine wpAny_Raise_call_subU (C:=C) (nm:=nm) (q:=q) (N:=N') (bs:=bs) (bm:=tl) (hdct:=hdct) (sn:=sn) (sub:=sub) (ab:=ab) (col:=col) (dd:=dd) (k0:=k0) (k1:=k1) (k2:=k2) (k3:=k3) (k5:=k5)
  Fn hBn FB (mN:=mN) (T.hasType FB.hasBase) (I.ok.hd rfl) hp hni (Ym I hg O.bound ⟨rfl, ?_⟩ hd)
 have h2:=ha cpos pins s1 σ H1 _ I hw
 have he' :starEach [e] (uS (CX1 P w) P w K mg base N qual scope f cd A outer s H E).env=[(false,eval e (uS (CX1 P w) P w K mg base N qual scope f cd A outer s H E).env)]:=he
 rw [he'] at h2 ⊢
 refine Calls.evalArgs_plain (thn h2 fun us s2 ⟨vs,H2,I2,r,hl,hE⟩=>⟨rfl,by rw [← r.length]; exact hl,I2.bk _ _ hC,hN.keeps I2.bk,T.keeps I2.bk,fun h' ea hx=> ?_⟩)
 have hin:∀ env∈(uS (CX1 P w) P w K mg base N qual scope f cd A outer s H E).stack,∀ b,env.frame=some b->b∈frs (uS (CX1 P w) P w K mg base N qual scope f cd A outer s H E).stack:=fun env he b hb=>List.mem_filterMap.mpr ⟨env,he,hb⟩
 exact wpAny_leaves_madeW (base:=hideAll s2.heap (frs (uS (CX1 P w) P w K mg base N qual scope f cd A outer s H E).stack)) (h:=s2.heap) I2.ok.frames rfl (fun b o q=>of_hideAll _ q) (funFrames_hide I2.stack hin) hx fun h'' t' fl _ _ sl=>
  ⟨ea, .ref C, .ref t',_,H2,rfl,k9.made I2 rfl rfl rfl hx fl sl,hE⟩
end
end L2
namespace L2
open PySem PySem.Spec PyProof.Rows PySem.W
noncomputable def ExAt (cls:Value) (a:Addr) (h:Heap):Prop:=∃ o,h.get? a=some o/\o.cls=cls
section
variable {X:Cx} {pins pins' :List (Addr×Obj)} {σ:St} {H H' :Hp} {s s' :Shared} {xe:Value->Shared->Prop}
end
section
variable {prog:Program} {w:World} {A:Around} {E:Value->Shared->Prop} {s:Shared} {env:Env}
end
end L2
namespace L2
open PySem PySem.Spec PyProof.Rows PySem.W
section
variable {X:Cx} {pins:List (Addr×Obj)} {σ:St} {H H' :Hp} {s s' :Shared} {ea:Addr} {cls a0:Value} {B:Heap} {h3:Heap}
end
end L2
namespace L2
open PySem PySem.Spec PyProof.Rows
theorem PE.imp {X:Cx} {e:Expr} {t t' :TE} (h:PE X e t) (i:∀ σ H Q,t' σ H Q->t σ H Q):PE X e t' :=fun pins s σ H Q I q=>h pins s σ H Q I (i σ H Q q)
theorem PT.imp {X:Cx} {e:Expr} {t t' :TT} (h:PT X e t) (i:∀ σ H Q,t' σ H Q->t σ H Q):PT X e t' :=fun pins s σ H Q I q=>h pins s σ H Q I (i σ H Q q)
theorem PA.imp {X:Cx} {e:List Expr} {t t' :TA} (h:PA X e t) (i:∀ σ H Q,t' σ H Q->t σ H Q):PA X e t' :=fun pos pins s σ H Q I q=>h pos pins s σ H Q I (i σ H Q q)
theorem PS.imp {X:Cx} {e:Stmt} {t t' :TS} (h:PS X e t) (i:∀ D σ H,t' D σ H->t D σ H):PS X e t' :=fun pins s σ H D I q=>h pins s σ H D I (i D σ H q)
theorem PSs.imp {X:Cx} {e:List Stmt} {t t' :TS} (h:PSs X e t) (i:∀ D σ H,t' D σ H->t D σ H):PSs X e t' :=fun pins s σ H D I q=>h pins s σ H D I (i D σ H q)
end L2
namespace PV
open PySem
noncomputable def yu:Expr->Bool
 | .Starred _ _=>false
 | _=>true
theorem ZD {e:Expr} {rest:List Expr} {env:Env} (h:yu e=true):starEach (e :: rest) env=(false,eval e env) :: starEach rest env:=by
 cases e <;> first | rfl | cases h
theorem st2 {a b:Expr} {env:Env} (h:yu a=true) (h' :yu b=true):starEach [a,b] env=[(false,eval a env),(false,eval b env)]:=by
 rw [ZD h,ZD h']; rfl
theorem st1 {a:Expr} {env:Env} (h:yu a=true):starEach [a] env=[(false,eval a env)]:=by
 rw [ZD h]; rfl
theorem JH {pos:Pos} {env:Env}:∀ {es:List Expr},es.all yu=true->((backTo pos (starEach es env)).any fun x=>x.fst)=false
 | [],_=>rfl
 | e :: es,h=>by
  rw [List.all_cons,Bool.and_eq_true] at h
  rw [ZD h.1]
  have:=JH (pos:=pos) (env:=env) h.2
  show (false || ((backTo pos (starEach es env)).any fun x=>x.fst))=false
  rw [this]; rfl
open PySem PySem.Spec PyProof.Rows L2
noncomputable abbrev Sg:=L2.St
inductive T where
 | non | bl (b:Bool) | int (i:Int) | str (x:Str) | tup (xs:List T) | lst (xs:List T) | fz (xs:List T)
inductive R (α:Type) where
 | ok (a:α) | ex (c:Nat) | bad
noncomputable def R.bind {α β:Type} (r:R α) (f:α->R β):R β:=match r with
 | .ok a=>f a
 | .ex c=> .ex c
 | .bad=> .bad
mutual
inductive Rep (H:Hp):V->T->Prop where
 | non:Rep H .non .non
 | bl (b:Bool):Rep H (.bl b) (.bl b)
 | int (i:Int):Rep H (.int i) (.int i)
 | str (x:Str):Rep H (.str x) (.str x)
 | tup {a:Addr} {xs:List V} {ts:List T}:H a=some (.tup xs)->zR H xs ts->Rep H (.ref a) (.tup ts)
 | lst {a:Addr} {xs:List V} {ts:List T}:H a=some (.lst xs)->zR H xs ts->Rep H (.ref a) (.lst ts)
 | fz {a:Addr} {o:Obj} {xs:List V} {ts:List T}:H a=some (.frz o (.lst xs))->zR H xs ts->Rep H (.ref a) (.fz ts)
inductive zR (H:Hp):List V->List T->Prop where
 | nil:zR H [] []
 | cons {v:V} {t:T} {vs:List V} {ts:List T}:Rep H v t->zR H vs ts->zR H (v :: vs) (t :: ts)
end
mutual
theorem Rep.mono {H H' :Hp} (s:zJ H H'):∀ {v:V} {t:T},Rep H v t->Rep H' v t
 | _,_, .non=> .non
 | _,_, .bl b=> .bl b
 | _,_, .int i=> .int i
 | _,_, .str x=> .str x
 | _,_, .tup h r=> .tup (s _ _ h) (zR.mono s r)
 | _,_, .lst h r=> .lst (s _ _ h) (zR.mono s r)
 | _,_, .fz h r=> .fz (s _ _ h) (zR.mono s r)
theorem zR.mono {H H' :Hp} (s:zJ H H'):∀ {v:List V} {t:List T},zR H v t->zR H' v t
 | _,_, .nil=> .nil
 | _,_, .cons h r=> .cons (Rep.mono s h) (zR.mono s r)
end
theorem zR.length {H:Hp}:∀ {vs:List V} {ts:List T},zR H vs ts->vs.length=ts.length
 | _,_, .nil=>rfl
 | _,_, .cons _ r=>congrArg (·+1) (zR.length r)
theorem zR.get {H:Hp}:∀ {vs:List V} {ts:List T} {i:Nat} {t:T},zR H vs ts->ts[i]? =some t->∃ v,vs[i]? =some v/\Rep H v t
 | _,_,_,_, .nil,e=>by simp at e
 | _,_,0,_, .cons r _,e=>by simp at e; subst e; exact ⟨_,rfl,r⟩
 | _,_,i+1,t, .cons _ q,e=>by
  obtain ⟨v,h1,h2⟩:=zR.get (i:=i) (t:=t) q (by simpa using e)
  exact ⟨v,by simpa using h1,h2⟩
theorem zR.getV {H:Hp}:∀ {vs:List V} {ts:List T} {i:Nat} {v:V},zR H vs ts->vs[i]? =some v->∃ t,ts[i]? =some t/\Rep H v t
 | _,_,_,_, .nil,e=>by simp at e
 | _,_,0,_, .cons r _,e=>by simp at e; subst e; exact ⟨_,rfl,r⟩
 | _,_,i+1,v, .cons _ q,e=>by
  obtain ⟨t,h1,h2⟩:=zR.getV (i:=i) (v:=v) q (by simpa using e)
  exact ⟨t,by simpa using h1,h2⟩
theorem zR.append {H:Hp}:∀ {vs ws:List V} {ts us:List T},zR H vs ts->zR H ws us->zR H (vs++ws) (ts++us)
 | _,_,_,_, .nil,q=>q
 | _,_,_,_, .cons r t,q=> .cons r (zR.append t q)
theorem zR.take {H:Hp}:∀ {vs:List V} {ts:List T} (n:Nat),zR H vs ts->zR H (vs.take n) (ts.take n)
 | _,_,0,_=> .nil
 | _,_,_+1, .nil=> .nil
 | _,_,n+1, .cons r t=> .cons r (zR.take n t)
theorem zR.drop {H:Hp}:∀ {vs:List V} {ts:List T} (n:Nat),zR H vs ts->zR H (vs.drop n) (ts.drop n)
 | _,_,0,r=>r
 | _,_,_+1, .nil=> .nil
 | _,_,n+1, .cons _ t=>zR.drop n t
theorem zR.rep {H:Hp} {vs:List V} {ts:List T} (h:zR H vs ts):∀ n:Nat,zR H (List.replicate n vs).flatten (List.replicate n ts).flatten
 | 0=> .nil
 | n+1=>by
  rw [List.replicate_succ,List.replicate_succ,List.flatten_cons,List.flatten_cons]
  exact h.append (zR.rep h n)
theorem zR.nil_iff {H:Hp} {vs:List V} {ts:List T} (h:zR H vs ts):vs=[]↔ts=[]:=by
 cases h <;> simp
noncomputable def Zf (B H H' :Hp):Hp:=fun b=>match H b with
 | none=>H' b
 | some _=>B b
theorem jb {B H H' :Hp} {b:Addr} (h:H b=none):Zf B H H' b=H' b:=by unfold Zf; rw [h]
theorem jc {B H H' :Hp} {b:Addr} {o:HO} (h:H b=some o):Zf B H H' b=B b:=by unfold Zf; rw [h]
theorem Zf.ge {B H H' :Hp} (s:zJ B H) (s' :zJ H H'):zJ B (Zf B H H'):=fun b o h=>by
 rw [jc (s b o h)]; exact h
theorem Zf.le {B H H' :Hp} (s:zJ B H) (s' :zJ H H'):zJ (Zf B H H') H' :=fun b o h=>by
 cases q:H b with
 | none=>rw [jb q] at h; exact h
 | some u=>rw [jc q] at h; exact s' b o (s b o h)
theorem Zf.self (B H:Hp) (s:zJ B H):Zf B H H=B:=by
 funext b
 cases q:H b with
 | none=>
  rw [jb q,q]
  cases z:B b with
  | none=>rfl
  | some o=>rw [s b o z] at q; cases q
 | some u=>rw [jc q]
theorem Zf.trans {B H H1 H2:Hp} (s1:zJ H H1) (s2:zJ H1 H2):Zf (Zf B H H1) H1 H2=Zf B H H2:=by
 funext b
 cases q:H b with
 | none=>
  rw [jb q]
  cases z:H1 b with
  | none=>rw [jb z]
  | some o=>rw [jc z,jb q,z,s2 b o z]
 | some u=>rw [jc q,jc (s1 b u q),jc q]
inductive Sl where
 | un | vl (t:T) | ow (ts:List T) | xc (c:Nat)
noncomputable abbrev En:=List Sl
structure Fx where
 B0:Hp
 H0:Hp
 E:XK
 cl:Nat->Value
structure SI (Y:Fx) (B:Hp) (ρ:En) (σ:Sg) (H:Hp):Prop where
 s0:zJ Y.B0 Y.H0
 sH:zJ Y.H0 H
 sB:zJ B H
 old:∀ b o,Y.H0 b=some o->B b=Y.B0 b
 len:ρ.length=σ.length
 vl:∀ (i:Nat) (t:T),ρ[i]? =some (Sl.vl t)->∃ v:V,σ[i]? =some (some v)/\Rep B v t
 ow:∀ (i:Nat) (ts:List T),ρ[i]? =some (Sl.ow ts)->∃ (a:Addr) (xs:List V),σ[i]? =some (some (V.ref a))/\B a=none/\Y.H0 a=none/\H a=some (.lst xs)/\zR B xs ts/\
  ∀ (j:Nat) (us:List T),j ≠ i->ρ[j]? =some (Sl.ow us)->σ[j]? ≠ some (some (V.ref a))
 xc:∀ (i:Nat) (c:Nat),ρ[i]? =some (Sl.xc c)->∃ a:Addr,σ[i]? =some (some (V.ref a))/\B a=some (.ext (ExAt (Y.cl c) a))
theorem SI.grow {Y:Fx} {B:Hp} {ρ:En} {σ:Sg} {H H' :Hp} (I:SI Y B ρ σ H) (s:zJ H H'):SI Y (Zf B H H') ρ σ H' where
 s0:=I.s0
 sH:=I.sH.trans s
 sB:=Zf.le I.sB s
 old:=fun b o h=>by rw [jc (I.sH b o h)]; exact I.old b o h
 len:=I.len
 vl:=fun i t h=>let ⟨v,e,r⟩:=I.vl i t h; ⟨v,e,r.mono (Zf.ge I.sB s)⟩
 ow:=fun i ts h=>let ⟨a,xs,e,b,h0,hh,r,d⟩:=I.ow i ts h; ⟨a,xs,e,by rw [jc hh]; exact b,h0,s _ _ hh,r.mono (Zf.ge I.sB s),d⟩
 xc:=fun i c h=>let ⟨a,e,r⟩:=I.xc i c h; ⟨a,e,Zf.ge I.sB s a _ r⟩
noncomputable def XP (Y:Fx) (B:Hp) (c:Nat):Prop:=∀ (d:Option Addr) (H' :Hp),zJ Y.H0 H' ->zJ B H' ->Y.E (Y.cl c) d H'
noncomputable def Po {α β:Type} (Y:Fx) (rel:Hp->Hp->β->α->Prop) (B H:Hp) (r:R α) (Q:β->Hp->Prop):Prop:=match r with
 | .ok a=>∀ b H',zJ H H' ->rel (Zf B H H') H' b a->Q b H'
 | .ex c=>XP Y B c
 | .bad=>False
noncomputable abbrev rC:Hp->Hp->V->T->Prop:=fun B _ v t=>Rep B v t
noncomputable abbrev rB:Hp->Hp->V->T->Prop:=fun _ H v t=>Rep H v t
noncomputable abbrev rCs:Hp->Hp->List V->List T->Prop:=fun B _ v t=>zR B v t
noncomputable abbrev rE {α:Type}:Hp->Hp->α->α->Prop:=fun _ _ a b=>a=b
noncomputable def tS {α β:Type} (Y:Fx) (rel:Hp->Hp->β->α->Prop) (f:En->R α) (ρ:En):Sg->Hp->(β->Hp->Prop)->Prop:=fun σ H Q=>∃ B,SI Y B ρ σ H/\Po Y rel B H (f ρ) Q
structure Snd (X:Cx) (Y:Fx) (e:Expr) (f:En->R T):Prop where
 mk ::
 go:∀ ρ,PE X e (tS Y rC f ρ)
noncomputable instance {X:Cx} {Y:Fx} {e:Expr} {f:En->R T}:CoeFun (Snd X Y e f) fun _=>∀ ρ,PE X e (tS Y rC f ρ):=⟨Snd.go⟩
structure W7 (X:Cx) (Y:Fx) (e:Expr) (f:En->R T):Prop where
 mk ::
 go:∀ ρ,PE X e (tS Y rB f ρ)
noncomputable instance {X:Cx} {Y:Fx} {e:Expr} {f:En->R T}:CoeFun (W7 X Y e f) fun _=>∀ ρ,PE X e (tS Y rB f ρ):=⟨W7.go⟩
structure qX (X:Cx) (Y:Fx) (e:Expr) (f:En->R Bool):Prop where
 mk ::
 go:∀ ρ,PT X e (tS Y rE f ρ)
noncomputable instance {X:Cx} {Y:Fx} {e:Expr} {f:En->R Bool}:CoeFun (qX X Y e f) fun _=>∀ ρ,PT X e (tS Y rE f ρ):=⟨qX.go⟩
structure Yq (X:Cx) (Y:Fx) (es:List Expr) (f:En->R (List T)):Prop where
 mk ::
 go:∀ ρ,PA X es (tS Y rCs f ρ)
noncomputable instance {X:Cx} {Y:Fx} {es:List Expr} {f:En->R (List T)}:CoeFun (Yq X Y es f) fun _=>∀ ρ,PA X es (tS Y rCs f ρ):=⟨Yq.go⟩
theorem step {α α' β β' :Type} {Y:Fx} {rel:Hp->Hp->β->α->Prop} {rel' :Hp->Hp->β' ->α' ->Prop} {f:En->R α} {k:α->R α'} {ρ:En} {B:Hp} {σ:Sg} {H:Hp} {Q:β' ->Hp->Prop} {K:β->Hp->Prop}
  (I:SI Y B ρ σ H) (h:Po Y rel' B H ((f ρ).bind k) Q)
  (n:∀ a b H1,f ρ= .ok a->zJ H H1->rel (Zf B H H1) H1 b a->SI Y (Zf B H H1) ρ σ H1->Po Y rel' (Zf B H H1) H1 (k a) Q->K b H1):tS Y rel f ρ σ H K:=by
 refine ⟨B,I, ?_⟩
 cases e:f ρ with
 | bad=>rw [e] at h; exact h
 | ex c=>rw [e] at h; exact h
 | ok a=>
  rw [e] at h
  intro b H1 s r
  refine n a b H1 e s r (I.grow s) ?_
  have h' :Po Y rel' B H (k a) Q:=h
  revert h'
  cases k a with
  | bad=>exact fun h' =>h'
  | ex c=>exact fun h' d H' s0 sB' =>h' d H' s0 ((Zf.ge I.sB s).trans sB')
  | ok a' =>exact fun h' b' H2 s2 r2=>h' b' H2 (s.trans s2) (by rw [← Zf.trans s s2]; exact r2)
theorem Jr {α β:Type} {Y:Fx} {rel:Hp->Hp->β->α->Prop} {ρ:En} {B:Hp} {σ:Sg} {H:Hp} {a:α} {b:β} {Q:β->Hp->Prop} (I:SI Y B ρ σ H) (h:Po Y rel B H (.ok a) Q) (r:rel B H b a):Q b H:=h b H (zJ.refl H) (by rw [Zf.self B H I.sB]; exact r)
theorem Snd.b {X:Cx} {Y:Fx} {e:Expr} {f:En->R T} (h:Snd X Y e f):W7 X Y e f:= .mk fun ρ=>PE.imp (h ρ) fun σ H Q ⟨B,I,q⟩=>⟨B,I,by
 revert q
 cases f ρ with
 | bad=>exact fun q=>q
 | ex c=>exact fun q=>q
 | ok a=>exact fun q b H' s r=>q b H' s (r.mono (Zf.le I.sB s))⟩
section
variable {X:Cx} {Y:Fx} {a b c:Expr} {fa fb fc:En->R T} {pos:Pos}
noncomputable def vE (i:Nat):En->R T:=fun ρ=>match ρ[i]? with
 | some (.vl t)=> .ok t
 | _=> .bad
noncomputable def vB (i:Nat):En->R T:=fun ρ=>match ρ[i]? with
 | some (.vl t)=> .ok t
 | some (.ow ts)=> .ok (.lst ts)
 | _=> .bad
noncomputable def cE (t:T):En->R T:=fun _=> .ok t
theorem zb (i:Nat) {x:Str} (h:PE X (.Name x pos) (XI i)):Snd X Y (.Name x pos) (vE i):= .mk fun ρ=>PE.imp h fun σ H Q ⟨B,I,q⟩=>by
 unfold vE at q
 split at q
 ·rename_i t e
  obtain ⟨v,e1,r⟩:=I.vl i t e
  exact ⟨v,e1,Jr I q r⟩
 ·exact q.elim
theorem zy (i:Nat) {x:Str} (h:PE X (.Name x pos) (XI i)):W7 X Y (.Name x pos) (vB i):= .mk fun ρ=>PE.imp h fun σ H Q ⟨B,I,q⟩=>by
 unfold vB at q
 split at q
 ·rename_i t e
  obtain ⟨v,e1,r⟩:=I.vl i t e
  exact ⟨v,e1,Jr I q (r.mono I.sB)⟩
 ·rename_i ts e
  obtain ⟨a,xs,e1,_,_,hh,r,_⟩:=I.ow i ts e
  exact ⟨.ref a,e1,Jr I q (.lst hh (r.mono I.sB))⟩
 ·exact q.elim
theorem zd {i j}:Snd X Y (.Constant (.int i) j pos) (cE (.int i)):= .mk fun ρ=>PE.imp Ky fun σ H Q ⟨B,I,q⟩=>Jr I q (.int i)
theorem xa {i j}:Snd X Y (.Constant (.bool i) j pos) (cE (.bl i)):= .mk fun ρ=>PE.imp GB fun σ H Q ⟨B,I,q⟩=>Jr I q (.bl i)
theorem ka {j}:Snd X Y (.Constant .none j pos) (cE .non):= .mk fun ρ=>PE.imp Kz fun σ H Q ⟨B,I,q⟩=>Jr I q .non
theorem ZA {i j}:Snd X Y (.Constant (.str i) j pos) (cE (.str i)):= .mk fun ρ=>PE.imp X4 fun σ H Q ⟨B,I,q⟩=>Jr I q (.str i)
noncomputable def zh:En->R (List T):=fun _=> .ok []
noncomputable def z9 (f:En->R T) (g:En->R (List T)):En->R (List T):=fun ρ=>(f ρ).bind fun t=>(g ρ).bind fun ts=> .ok (t :: ts)
theorem zj:Yq X Y [] zh:= .mk fun ρ=>PA.imp ja fun σ H Q ⟨B,I,q⟩=>Jr I q .nil
theorem za {es:List Expr} {g:En->R (List T)} (h:Snd X Y a fa) (hs:Yq X Y es g) (hq:starEach (a :: es) X.env=(false,eval a X.env) :: starEach es X.env:=by exact ZD rfl):Yq X Y (a :: es) (z9 fa g):= .mk fun ρ=>
 PA.imp (zS (h ρ) (hs ρ) hq) fun σ H Q ⟨B,I,q⟩=>step I q fun t v H1 _ s1 r1 I1 q1=>step I1 q1 fun ts vs H2 _ s2 r2 I2 q2=>Jr I2 q2 (.cons (r1.mono (Zf.ge I1.sB s2)) r2)
theorem zJ.new {H:Hp} {p:Addr} (h:H p=none) (o:HO):zJ H (upd H p o):=fun b u q=>by rw [zI (Z0 q h)]; exact q
theorem W9 {B H:Hp} {p:Addr} (h:H p=none) (o:HO):Zf B H (upd H p o) p=some o:=by rw [jb h,Zv]
noncomputable def bnd:Nat:=16777216
theorem J9 {n:Nat} (h:n<=bnd):n<=sizeLine:=by rw [sizeLine_eq]; exact h
noncomputable def wk (g:En->R (List T)):En->R T:=fun ρ=>(g ρ).bind fun ts=>if ts.length<=bnd then .ok (.tup ts) else .bad
noncomputable def Wr (g:En->R (List T)):En->R T:=fun ρ=>(g ρ).bind fun ts=>if ts.length<=bnd then .ok (.lst ts) else .bad
theorem kb {ρ:En} {σ:Sg} {B H:Hp} {xs:List V} {ts:List T} (I:SI Y B ρ σ H) (r:zR B xs ts) {p:Addr} (h:H p=none):Rep (Zf B H (upd H p (.tup xs))) (.ref p) (.tup ts):=
 .tup (W9 h _) (r.mono (Zf.ge I.sB (zJ.new h _)))
theorem kd {ρ:En} {σ:Sg} {B H:Hp} {xs:List V} {ts:List T} (I:SI Y B ρ σ H) (r:zR B xs ts) {p:Addr} (h:H p=none):Rep (Zf B H (upd H p (.lst xs))) (.ref p) (.lst ts):=
 .lst (W9 h _) (r.mono (Zf.ge I.sB (zJ.new h _)))
theorem uT {es:List Expr} {g:En->R (List T)} {x1} (h:Yq X Y es g):Snd X Y (.Tuple es x1 pos) (wk g):= .mk fun ρ=>PE.imp (KR (h ρ)) fun σ H Q ⟨B,I,q⟩=>
 step I q fun ts vs H1 _ s1 r1 I1 q1=>by
  split at q1
  ·rename_i hb
   refine ⟨by rw [r1.length]; exact J9 hb,fun p hp=>q1 _ _ (zJ.new hp _) (kb I1 r1 hp)⟩
  ·exact q1.elim
theorem uU {es:List Expr} {g:En->R (List T)} (h:Yq X Y es g):Snd X Y (.List es pos) (Wr g):= .mk fun ρ=>PE.imp (X7 (h ρ)) fun σ H Q ⟨B,I,q⟩=>
 step I q fun ts vs H1 _ s1 r1 I1 q1=>by
  split at q1
  ·rename_i hb
   refine ⟨by rw [r1.length]; exact J9 hb,fun p hp=>q1 _ _ (zJ.new hp _) (kd I1 r1 hp)⟩
  ·exact q1.elim
end
end PV
namespace PV
open PySem PySem.Spec PyProof.Rows L2
noncomputable def eqL (f:T->T->Option Bool):List T->List T->Option Bool
 | [],[]=>some true
 | [],_ :: _=>some false
 | _ :: _,[]=>some false
 | x :: xs,y :: ys=>match f x y with
  | none=>none
  | some b=>match eqL f xs ys with
   | none=>none
   | some c=>some (b && c)
noncomputable def b2 (b:Bool):Int:=if b then 1 else 0
noncomputable def eqF:Nat->T->T->Option Bool
 | _, .non, .non=>some true
 | _, .bl a, .bl b=>some (a == b)
 | _, .bl a, .int j=>some (b2 a == j)
 | _, .int i, .bl b=>some (i == b2 b)
 | _, .int i, .int j=>some (i == j)
 | _, .str x, .str y=>some (x == y)
 | n+1, .tup xs, .tup ys=>eqL (eqF n) xs ys
 | n+1, .lst xs, .lst ys=>eqL (eqF n) xs ys
 | n+1, .fz xs, .lst ys=>eqL (eqF n) xs ys
 | n+1, .lst xs, .fz ys=>eqL (eqF n) xs ys
 | n+1, .fz xs, .fz ys=>eqL (eqF n) xs ys
 | 0, .tup _, .tup _=>none
 | 0, .lst _, .lst _=>none
 | 0, .fz _, .lst _=>none
 | 0, .lst _, .fz _=>none
 | 0, .fz _, .fz _=>none
 | _, .non,_=>some false
 | _, .bl _,_=>some false
 | _, .int _,_=>some false
 | _, .str _,_=>some false
 | _, .tup _,_=>some false
 | _, .lst _,_=>some false
 | _, .fz _,_=>some false
mutual
theorem Rep.fn {H:Hp}:∀ {v:V} {t t' :T},Rep H v t->Rep H v t' ->t=t'
 | _,_,_, .non, .non=>rfl
 | _,_,_, .bl _, .bl _=>rfl
 | _,_,_, .int _, .int _=>rfl
 | _,_,_, .str _, .str _=>rfl
 | _,_,_, .tup h r, .tup h' r' =>by
  rw [h] at h'; cases h'; rw [zR.fn r r']
 | _,_,_, .tup h r, .lst h' r' =>by rw [h] at h'; cases h'
 | _,_,_, .tup h r, .fz h' r' =>by rw [h] at h'; cases h'
 | _,_,_, .lst h r, .tup h' r' =>by rw [h] at h'; cases h'
 | _,_,_, .lst h r, .lst h' r' =>by
  rw [h] at h'; cases h'; rw [zR.fn r r']
 | _,_,_, .lst h r, .fz h' r' =>by rw [h] at h'; cases h'
 | _,_,_, .fz h r, .tup h' r' =>by rw [h] at h'; cases h'
 | _,_,_, .fz h r, .lst h' r' =>by rw [h] at h'; cases h'
 | _,_,_, .fz h r, .fz h' r' =>by
  rw [h] at h'; cases h'; rw [zR.fn r r']
theorem zR.fn {H:Hp}:∀ {v:List V} {t t' :List T},zR H v t->zR H v t' ->t=t'
 | _,_,_, .nil, .nil=>rfl
 | _,_,_, .cons h r, .cons h' r' =>by rw [Rep.fn h h',zR.fn r r']
end
theorem jp {f:T->T->Option Bool} (hf:∀ x b,f x x=some b->b=true):∀ (xs:List T) (b:Bool),eqL f xs xs=some b->b=true
 | [],b,h=>by
  have h' :some true=some b:=h
  cases h'; rfl
 | x :: xs,b,h=>by
  unfold eqL at h
  cases e:f x x with
  | none=>rw [e] at h; cases h
  | some c=>
   rw [e] at h
   cases e' :eqL f xs xs with
   | none=>rw [e'] at h; cases h
   | some d=>
    rw [e'] at h
    cases h
    rw [hf x c e,jp hf xs d e']
    rfl
theorem Zw:∀ (n:Nat) (t:T) (b:Bool),eqF n t t=some b->b=true
 | n, .non,b,h=>by unfold eqF at h; cases h; rfl
 | n, .bl x,b,h=>by unfold eqF at h; cases h; simp
 | n, .int x,b,h=>by unfold eqF at h; cases h; simp
 | n, .str x,b,h=>by unfold eqF at h; cases h; simp
 | 0, .tup x,b,h=>by unfold eqF at h; cases h
 | 0, .lst x,b,h=>by unfold eqF at h; cases h
 | 0, .fz x,b,h=>by unfold eqF at h; cases h
 | n+1, .tup x,b,h=>by unfold eqF at h; exact jp (Zw n) x b h
 | n+1, .lst x,b,h=>by unfold eqF at h; exact jp (Zw n) x b h
 | n+1, .fz x,b,h=>by unfold eqF at h; exact jp (Zw n) x b h
theorem QU {f:T->T->Option Bool}:∀ {xs ys:List T} {b:Bool},eqL f xs ys=some b->
  ∃ e:Nat->Bool,(∀ j x y,xs[j]? =some x->ys[j]? =some y->f x y=some (e j))/\((List.range (min xs.length ys.length)).all e && xs.length == ys.length)=b
 | [],[],b,h=>by
  have h' :some true=some b:=h
  cases h'
  exact ⟨fun _=>true,fun j x y h=>by simp at h,by simp⟩
 | [],y :: ys,b,h=>by
  have h' :some false=some b:=h
  cases h'
  exact ⟨fun _=>true,fun j x y h=>by simp at h,by simp⟩
 | x :: xs,[],b,h=>by
  have h' :some false=some b:=h
  cases h'
  exact ⟨fun _=>true,fun j x y h h' =>by simp at h',by simp⟩
 | x :: xs,y :: ys,b,h=>by
  unfold eqL at h
  cases e:f x y with
  | none=>rw [e] at h; cases h
  | some c=>
   rw [e] at h
   cases e' :eqL f xs ys with
   | none=>rw [e'] at h; cases h
   | some d=>
    rw [e'] at h
    cases h
    obtain ⟨g,h1,h2⟩:=QU e'
    refine ⟨fun j=>match j with | 0=>c | j+1=>g j,fun j u v hu hv=> ?_, ?_⟩
    ·cases j with
     | zero=>simp at hu hv; subst hu hv; exact e
     | succ j=>exact h1 j u v (by simpa using hu) (by simpa using hv)
    ·have z:min (x :: xs).length (y :: ys).length=min xs.length ys.length+1:=by simp only [List.length_cons]; omega
     rw [z,List.range_succ_eq_map,List.all_cons,List.all_map]
     have z2:((x :: xs).length == (y :: ys).length)=(xs.length == ys.length):=by simp
     rw [z2,← h2,Bool.and_assoc]
     rfl
section
variable {X:Cx} {pins:List (Addr×Obj)} {σ:Sg} {H:Hp} {s:Shared}
theorem Jj {a:Addr} {xs:List V} {ts:List T} (I:L2.Inv X pins σ H s) (h:H a=some (.tup xs)) (r:zR H xs ts):∃ its:List Value,ZB xs its/\s.heap.IsTuple a its.toArray/\ts.length=its.length/\xs.length<=sizeLine:=by
 obtain ⟨its,rv,p,z⟩:=I.tuple (SqT.of h)
 exact ⟨its,rv,p,by rw [← r.length]; exact rv.length,z⟩
theorem Zl {a:Addr} {xs:List V} {ts:List T} (I:L2.Inv X pins σ H s) (h:Rd H a (.lst xs)) (r:zR H xs ts):∃ its:List Value,ZB xs its/\s.heap.IsList a its.toArray/\ts.length=its.length/\xs.length<=sizeLine:=by
 obtain ⟨its,rv,p,z⟩:=I.list (.inl h)
 exact ⟨its,rv,p.isList,by rw [← r.length]; exact rv.length,z⟩
end
noncomputable abbrev EqN (A:Around) (s:Shared) (u u' :Value) (b:Bool):Prop:=SeqAt.EqAt A s u u' b/\SeqAt.RcAt A s u u' b/\SeqAt.RcNeAt A s u u' (!b)
section
variable {X:Cx} {pins:List (Addr×Obj)} {σ:Sg} {H:Hp} {s:Shared}
theorem QV {xs ys:List V} {ts us:List T} {its its' :List Value} {A:Around} {f:T->T->Option Bool} {e:Nat->Bool} (r:zR H xs ts) (r' :zR H ys us) (v:ZB xs its) (v' :ZB ys its')
  (he:∀ (j:Nat) (x y:T),ts[j]? =some x->us[j]? =some y->f x y=some (e j))
  (ih:∀ (x y:T) (b:Bool) (p q:V) (u w:Value),f x y=some b->Rep H p x->Rep H q y->j9 p u->j9 q w->EqN A s u w b) (j:Nat) (h1:j < its.toArray.size) (h2:j < its'.toArray.size):
  SeqAt.EqAt A s its.toArray[j] its'.toArray[j] (e j):=by
 have l1:=v.length
 have l2:=v'.length
 have m1:=r.length
 have m2:=r'.length
 have k1:j < xs.length:=by simp at h1; omega
 have k2:j < ys.length:=by simp at h2; omega
 obtain ⟨t,et,rt⟩:=r.getV (List.getElem?_eq_getElem k1)
 obtain ⟨t',et',rt'⟩:=r'.getV (List.getElem?_eq_getElem k2)
 obtain ⟨u,eu,ru⟩:=v.get (List.getElem?_eq_getElem k1)
 obtain ⟨u',eu',ru'⟩:=v'.get (List.getElem?_eq_getElem k2)
 have q1:its.toArray[j]=u:=by
  have:its[j]? =some its.toArray[j]:=by simp at h1 ⊢
  rw [eu] at this; exact (Option.some.inj this).symm
 have q2:its'.toArray[j]=u' :=by
  have:its'[j]? =some its'.toArray[j]:=by simp at h2 ⊢
  rw [eu'] at this; exact (Option.some.inj this).symm
 rw [q1,q2]
 exact (ih t t' (e j) _ _ u u' (he j t t' et et') rt rt' ru ru').1
theorem ke {A:Around} {a c:Addr} {xs ys:List V} {ts us:List T} {b:Bool} {f:T->T->Option Bool} (I:L2.Inv X pins σ H s) (hu:A.units < cLine) (ha:H a=some (.tup xs)) (hc:H c=some (.tup ys)) (r:zR H xs ts) (r' :zR H ys us)
  (hb:eqL f ts us=some b) (hr:∀ x b,f x x=some b->b=true)
  (ih:∀ (x y:T) (b:Bool) (p q:V) (u w:Value),f x y=some b->Rep H p x->Rep H q y->j9 p u->j9 q w->EqN A.in1 s u w b):EqN A s (.ref a) (.ref c) b:=by
 obtain ⟨its,v,p,l,_⟩:=Jj I ha r
 obtain ⟨its',v',p',l',_⟩:=Jj I hc r'
 obtain ⟨e,he,hb'⟩:=QU hb
 have hp:=QV (A:=A.in1) r r' v v' he ih
 have z:((List.range (min its.toArray.size its'.toArray.size)).all e && its.toArray.size == its'.toArray.size)=b:=by
  rw [← hb']; simp [l,l']
 have R:=SeqAt.RcAt.tuples p p' hu hp
 have N:=SeqAt.RcNeAt.tuples p p' hu hp
 rw [z] at R
 have N' :SeqAt.RcNeAt A s (.ref a) (.ref c) (!b):=by
  rw [← z]; exact N
 refine ⟨?_,R,N'⟩
 by_cases hac:a=c
 ·subst hac
  rw [ha] at hc; cases hc
  have:=r.fn r'; subst this
  rw [jp hr ts b hb]
  exact SeqAt.EqAt.same _
 ·exact SeqAt.EqAt.of_refs hac R
theorem Uz {A:Around} {a c:Addr} {xs ys:List V} {ts us:List T} {b:Bool} {f:T->T->Option Bool} (I:L2.Inv X pins σ H s) (hu:A.units < cLine) (ha:Rd H a (.lst xs)) (hc:Rd H c (.lst ys)) (r:zR H xs ts) (r' :zR H ys us)
  (hb:eqL f ts us=some b) (hr:∀ x b,f x x=some b->b=true)
  (ih:∀ (x y:T) (b:Bool) (p q:V) (u w:Value),f x y=some b->Rep H p x->Rep H q y->j9 p u->j9 q w->EqN A.in1 s u w b):EqN A s (.ref a) (.ref c) b:=by
 obtain ⟨its,v,p,l,_⟩:=Zl I ha r
 obtain ⟨its',v',p',l',_⟩:=Zl I hc r'
 obtain ⟨e,he,hb'⟩:=QU hb
 have hp:=QV (A:=A.in1) r r' v v' he ih
 have RN:SeqAt.RcAt A s (.ref a) (.ref c) b/\SeqAt.RcNeAt A s (.ref a) (.ref c) (!b):=by
  by_cases hl:its.toArray.size=its'.toArray.size
  ·have z:(List.range its.toArray.size).all e=b:=by
    rw [← hb']
    have:ts.length=us.length:=by simp at hl; omega
    rw [this]
    have k:its.toArray.size=us.length:=by simp; omega
    rw [k]; simp
   have R:=SeqAt.RcAt.lists p p' hl hu hp
   have N:=SeqAt.RcNeAt.lists p p' hl hu hp
   rw [z] at R
   refine ⟨R, ?_⟩
   rw [← z]; exact N
  ·have hl' :(its.toArray.size != its'.toArray.size)=true:=by simpa using hl
   have z:b=false:=by
    rw [← hb']
    have:¬ ts.length=us.length:=by simp at hl; omega
    simp [this]
   subst z
   exact ⟨SeqAt.RcAt.lists_lengths p p' hl' hu,SeqAt.RcNeAt.lists_lengths p p' hl' hu⟩
 refine ⟨?_,RN.1,RN.2⟩
 by_cases hac:a=c
 ·subst hac
  have hxy:xs=ys:=by
   rcases ha with ha | ⟨o,ha⟩ <;> rcases hc with hc | ⟨o',hc⟩ <;> (rw [ha] at hc; cases hc) <;> rfl
  subst hxy
  have:=r.fn r'; subst this
  rw [jp hr ts b hb]
  exact SeqAt.EqAt.same _
 ·exact SeqAt.EqAt.of_refs hac RN.1
end
end PV
namespace PV
open PySem PySem.Spec PyProof.Rows L2
section
variable {X:Cx} {pins:List (Addr×Obj)} {σ:Sg} {H:Hp} {s:Shared}
theorem uc {A:Around}:A.in1.units=A.units+1:=rfl
set_option maxHeartbeats 2000000 in
theorem QW (I:L2.Inv X pins σ H s):∀ (A:Around),A.units < cLine->∀ (x y:T) (b:Bool) (p q:V) (u w:Value),eqF 0 x y=some b->Rep H p x->Rep H q y->j9 p u->j9 q w->EqN A s u w b:=by
 intro A hu x y b p q u w h rp rq ru rw'
 have hu' :=hu
 cases rp with
 | non=>
  obtain rfl:u=Value.none:=ru
  cases rq with
  | non=>obtain rfl:w=Value.none:=rw'; unfold eqF at h; cases h; exact ⟨.same _, .none_none, .none_none⟩
  | bl c=>obtain rfl:w=Value.bool c:=rw'; unfold eqF at h; cases h; exact ⟨.none_bool _, .none_bool _, .none_bool _⟩
  | int c=>obtain ⟨t,rfl⟩:=rw'; unfold eqF at h; cases h; exact ⟨.none_int _ _, .none_int _ _, .none_int _ _⟩
  | str c=>obtain ⟨t,rfl⟩:=rw'; unfold eqF at h; cases h; exact ⟨.none_str _ _, .none_str _ _, .none_str _ _⟩
  | tup h1 r1=>obtain rfl:w=Value.ref _:=rw'; unfold eqF at h; cases h; obtain ⟨i,_,p,_⟩:=Jj I h1 r1; exact ⟨.none_tuple p hu', .none_tuple p hu', .none_tuple p hu'⟩
  | lst h1 r1=>obtain rfl:w=Value.ref _:=rw'; unfold eqF at h; cases h; obtain ⟨i,_,p,_⟩:=Zl I (.inl h1) r1; exact ⟨.none_list p hu', .none_list p hu', .none_list p hu'⟩
  | fz h1 r1=>obtain rfl:w=Value.ref _:=rw'; unfold eqF at h; cases h; obtain ⟨i,_,p,_⟩:=Zl I (.inr ⟨_,h1⟩) r1; exact ⟨.none_list p hu', .none_list p hu', .none_list p hu'⟩
 | bl d=>
  obtain rfl:u=Value.bool d:=ru
  cases rq with
  | non=>obtain rfl:w=Value.none:=rw'; unfold eqF at h; cases h; exact ⟨.bool_none _, .bool_none _, .bool_none _⟩
  | bl c=>obtain rfl:w=Value.bool c:=rw'; unfold eqF at h; cases h; exact ⟨.bool_bool _ _, .bool_bool _ _, .bool_bool _ _⟩
  | int c=>obtain ⟨t,rfl⟩:=rw'; unfold eqF at h; cases h; exact ⟨.bool_int _ _ _, .bool_int _ _ _, .bool_int _ _ _⟩
  | str c=>obtain ⟨t,rfl⟩:=rw'; unfold eqF at h; cases h; exact ⟨.bool_str _ _ _, .bool_str _ _ _, .bool_str _ _ _⟩
  | tup h1 r1=>obtain rfl:w=Value.ref _:=rw'; unfold eqF at h; cases h; obtain ⟨i,_,p,_⟩:=Jj I h1 r1; exact ⟨.bool_tuple _ p hu', .bool_tuple _ p hu', .bool_tuple _ p hu'⟩
  | lst h1 r1=>obtain rfl:w=Value.ref _:=rw'; unfold eqF at h; cases h; obtain ⟨i,_,p,_⟩:=Zl I (.inl h1) r1; exact ⟨.bool_list _ p hu', .bool_list _ p hu', .bool_list _ p hu'⟩
  | fz h1 r1=>obtain rfl:w=Value.ref _:=rw'; unfold eqF at h; cases h; obtain ⟨i,_,p,_⟩:=Zl I (.inr ⟨_,h1⟩) r1; exact ⟨.bool_list _ p hu', .bool_list _ p hu', .bool_list _ p hu'⟩
 | int d=>
  obtain ⟨t0,rfl⟩:=ru
  cases rq with
  | non=>obtain rfl:w=Value.none:=rw'; unfold eqF at h; cases h; exact ⟨.int_none _ _, .int_none _ _, .int_none _ _⟩
  | bl c=>obtain rfl:w=Value.bool c:=rw'; unfold eqF at h; cases h; exact ⟨.int_bool _ _ _, .int_bool _ _ _, .int_bool _ _ _⟩
  | int c=>obtain ⟨t,rfl⟩:=rw'; unfold eqF at h; cases h; exact ⟨.int_int _ _ _ _, .int_int _ _ _ _, .int_int _ _ _ _⟩
  | str c=>obtain ⟨t,rfl⟩:=rw'; unfold eqF at h; cases h; exact ⟨.int_str _ _ _ _, .int_str _ _ _ _, .int_str _ _ _ _⟩
  | tup h1 r1=>obtain rfl:w=Value.ref _:=rw'; unfold eqF at h; cases h; obtain ⟨i,_,p,_⟩:=Jj I h1 r1; exact ⟨.int_tuple _ _ p hu', .int_tuple _ _ p hu', .int_tuple _ _ p hu'⟩
  | lst h1 r1=>obtain rfl:w=Value.ref _:=rw'; unfold eqF at h; cases h; obtain ⟨i,_,p,_⟩:=Zl I (.inl h1) r1; exact ⟨.int_list _ _ p hu', .int_list _ _ p hu', .int_list _ _ p hu'⟩
  | fz h1 r1=>obtain rfl:w=Value.ref _:=rw'; unfold eqF at h; cases h; obtain ⟨i,_,p,_⟩:=Zl I (.inr ⟨_,h1⟩) r1; exact ⟨.int_list _ _ p hu', .int_list _ _ p hu', .int_list _ _ p hu'⟩
 | str d=>
  obtain ⟨t0,rfl⟩:=ru
  cases rq with
  | non=>obtain rfl:w=Value.none:=rw'; unfold eqF at h; cases h; exact ⟨.str_none _ _, .str_none _ _, .str_none _ _⟩
  | bl c=>obtain rfl:w=Value.bool c:=rw'; unfold eqF at h; cases h; exact ⟨.str_bool _ _ _, .str_bool _ _ _, .str_bool _ _ _⟩
  | int c=>obtain ⟨t,rfl⟩:=rw'; unfold eqF at h; cases h; exact ⟨.str_int _ _ _ _, .str_int _ _ _ _, .str_int _ _ _ _⟩
  | str c=>obtain ⟨t,rfl⟩:=rw'; unfold eqF at h; cases h; exact ⟨.str_str _ _ _ _, .str_str _ _ _ _, .str_str _ _ _ _⟩
  | tup h1 r1=>obtain rfl:w=Value.ref _:=rw'; unfold eqF at h; cases h; obtain ⟨i,_,p,_⟩:=Jj I h1 r1; exact ⟨.str_tuple _ _ p hu', .str_tuple _ _ p hu', .str_tuple _ _ p hu'⟩
  | lst h1 r1=>obtain rfl:w=Value.ref _:=rw'; unfold eqF at h; cases h; obtain ⟨i,_,p,_⟩:=Zl I (.inl h1) r1; exact ⟨.str_list _ _ p hu', .str_list _ _ p hu', .str_list _ _ p hu'⟩
  | fz h1 r1=>obtain rfl:w=Value.ref _:=rw'; unfold eqF at h; cases h; obtain ⟨i,_,p,_⟩:=Zl I (.inr ⟨_,h1⟩) r1; exact ⟨.str_list _ _ p hu', .str_list _ _ p hu', .str_list _ _ p hu'⟩
 | tup h0 r0=>
  obtain rfl:u=Value.ref _:=ru
  obtain ⟨i0,_,p0,_⟩:=Jj I h0 r0
  cases rq with
  | non=>obtain rfl:w=Value.none:=rw'; unfold eqF at h; cases h; exact ⟨.tuple_none p0 hu', .tuple_none p0 hu', .tuple_none p0 hu'⟩
  | bl c=>obtain rfl:w=Value.bool c:=rw'; unfold eqF at h; cases h; exact ⟨.tuple_bool _ p0 hu', .tuple_bool _ p0 hu', .tuple_bool _ p0 hu'⟩
  | int c=>obtain ⟨t,rfl⟩:=rw'; unfold eqF at h; cases h; exact ⟨.tuple_int _ _ p0 hu', .tuple_int _ _ p0 hu', .tuple_int _ _ p0 hu'⟩
  | str c=>obtain ⟨t,rfl⟩:=rw'; unfold eqF at h; cases h; exact ⟨.tuple_str _ _ p0 hu', .tuple_str _ _ p0 hu', .tuple_str _ _ p0 hu'⟩
  | tup h1 r1=>unfold eqF at h; cases h
  | lst h1 r1=>obtain rfl:w=Value.ref _:=rw'; unfold eqF at h; cases h; obtain ⟨i,_,p,_⟩:=Zl I (.inl h1) r1; exact ⟨.tuple_list p0 p hu', .tuple_list p0 p hu', .tuple_list p0 p hu'⟩
  | fz h1 r1=>obtain rfl:w=Value.ref _:=rw'; unfold eqF at h; cases h; obtain ⟨i,_,p,_⟩:=Zl I (.inr ⟨_,h1⟩) r1; exact ⟨.tuple_list p0 p hu', .tuple_list p0 p hu', .tuple_list p0 p hu'⟩
 | lst h0 r0=>
  obtain rfl:u=Value.ref _:=ru
  obtain ⟨i0,_,p0,_⟩:=Zl I (.inl h0) r0
  cases rq with
  | non=>obtain rfl:w=Value.none:=rw'; unfold eqF at h; cases h; exact ⟨.list_none p0 hu', .list_none p0 hu', .list_none p0 hu'⟩
  | bl c=>obtain rfl:w=Value.bool c:=rw'; unfold eqF at h; cases h; exact ⟨.list_bool _ p0 hu', .list_bool _ p0 hu', .list_bool _ p0 hu'⟩
  | int c=>obtain ⟨t,rfl⟩:=rw'; unfold eqF at h; cases h; exact ⟨.list_int _ _ p0 hu', .list_int _ _ p0 hu', .list_int _ _ p0 hu'⟩
  | str c=>obtain ⟨t,rfl⟩:=rw'; unfold eqF at h; cases h; exact ⟨.list_str _ _ p0 hu', .list_str _ _ p0 hu', .list_str _ _ p0 hu'⟩
  | tup h1 r1=>obtain rfl:w=Value.ref _:=rw'; unfold eqF at h; cases h; obtain ⟨i,_,p,_⟩:=Jj I h1 r1; exact ⟨.list_tuple p0 p hu', .list_tuple p0 p hu', .list_tuple p0 p hu'⟩
  | lst h1 r1=>unfold eqF at h; cases h
  | fz h1 r1=>unfold eqF at h; cases h
 | fz h0 r0=>
  obtain rfl:u=Value.ref _:=ru
  obtain ⟨i0,_,p0,_⟩:=Zl I (.inr ⟨_,h0⟩) r0
  cases rq with
  | non=>obtain rfl:w=Value.none:=rw'; unfold eqF at h; cases h; exact ⟨.list_none p0 hu', .list_none p0 hu', .list_none p0 hu'⟩
  | bl c=>obtain rfl:w=Value.bool c:=rw'; unfold eqF at h; cases h; exact ⟨.list_bool _ p0 hu', .list_bool _ p0 hu', .list_bool _ p0 hu'⟩
  | int c=>obtain ⟨t,rfl⟩:=rw'; unfold eqF at h; cases h; exact ⟨.list_int _ _ p0 hu', .list_int _ _ p0 hu', .list_int _ _ p0 hu'⟩
  | str c=>obtain ⟨t,rfl⟩:=rw'; unfold eqF at h; cases h; exact ⟨.list_str _ _ p0 hu', .list_str _ _ p0 hu', .list_str _ _ p0 hu'⟩
  | tup h1 r1=>obtain rfl:w=Value.ref _:=rw'; unfold eqF at h; cases h; obtain ⟨i,_,p,_⟩:=Jj I h1 r1; exact ⟨.list_tuple p0 p hu', .list_tuple p0 p hu', .list_tuple p0 p hu'⟩
  | lst h1 r1=>unfold eqF at h; cases h
  | fz h1 r1=>unfold eqF at h; cases h
set_option maxHeartbeats 2000000 in
theorem xb (I:L2.Inv X pins σ H s):∀ (n:Nat) (A:Around),A.units+n < cLine->∀ (x y:T) (b:Bool) (p q:V) (u w:Value),eqF n x y=some b->Rep H p x->Rep H q y->j9 p u->j9 q w->EqN A s u w b:=by
 intro n
 induction n with
 | zero=>exact fun A hu x y b p q u w h=>QW I A (by omega) x y b p q u w h
 | succ n ih=>
  intro A hu x y b p q u w h rp rq ru rw'
  have low:eqF 0 x y=some b->EqN A s u w b:=fun h=>QW I A (by omega) x y b p q u w h rp rq ru rw'
  have hu' :A.units < cLine:=by omega
  have ih' :=ih A.in1 (by rw [uc]; omega)
  cases rp with
  | tup h0 r0=>
   cases rq with
   | tup h1 r1=>
    obtain rfl:u=Value.ref _:=ru
    obtain rfl:w=Value.ref _:=rw'
    unfold eqF at h
    exact ke I hu' h0 h1 r0 r1 h (Zw n) ih'
   | _=>exact low (by unfold eqF at h ⊢; exact h)
  | lst h0 r0=>
   cases rq with
   | lst h1 r1=>
    obtain rfl:u=Value.ref _:=ru
    obtain rfl:w=Value.ref _:=rw'
    unfold eqF at h
    exact Uz I hu' (.inl h0) (.inl h1) r0 r1 h (Zw n) ih'
   | fz h1 r1=>
    obtain rfl:u=Value.ref _:=ru
    obtain rfl:w=Value.ref _:=rw'
    unfold eqF at h
    exact Uz I hu' (.inl h0) (.inr ⟨_,h1⟩) r0 r1 h (Zw n) ih'
   | _=>exact low (by unfold eqF at h ⊢; exact h)
  | fz h0 r0=>
   cases rq with
   | lst h1 r1=>
    obtain rfl:u=Value.ref _:=ru
    obtain rfl:w=Value.ref _:=rw'
    unfold eqF at h
    exact Uz I hu' (.inr ⟨_,h0⟩) (.inl h1) r0 r1 h (Zw n) ih'
   | fz h1 r1=>
    obtain rfl:u=Value.ref _:=ru
    obtain rfl:w=Value.ref _:=rw'
    unfold eqF at h
    exact Uz I hu' (.inr ⟨_,h0⟩) (.inr ⟨_,h1⟩) r0 r1 h (Zw n) ih'
   | _=>exact low (by unfold eqF at h ⊢; exact h)
  | _=>exact low (by cases rq <;> (unfold eqF at h ⊢; exact h))
end
end PV
namespace PV
open PySem PySem.Spec PyProof.Rows L2
section
variable {X:Cx} {Y:Fx} {a b c d:Expr} {fa fb fc fd:En->R T} {pos:Pos}
noncomputable def rG (Y:Fx) (g:T->T->R T):R2:=fun x y H Q=>∃ B t t',zJ B H/\Rep B x t/\Rep B y t' /\Po Y rC B H (g t t') Q
noncomputable def zg (g:T->T->R T) (fa fb:En->R T):En->R T:=fun ρ=>(fa ρ).bind fun x=>(fb ρ).bind fun y=>g x y
theorem QX {op:Operator} {g:T->T->R T} (ho:OpR X (binaryOp op) (rG Y g)) (ha:Snd X Y a fa) (hb:Snd X Y b fb):Snd X Y (.BinOp a op b pos) (zg g fa fb):= .mk fun ρ=>
 PE.imp (GN ho (ha ρ) (hb ρ)) fun σ H Q ⟨B,I,q⟩=>step I q fun t v H1 _ s1 r1 I1 q1=>step I1 q1 fun t' v' H2 _ s2 r2 I2 q2=>
  ⟨_,t,t',I2.sB,r1.mono (Zf.ge I1.sB s2),r2,q2⟩
theorem po0 {g:R T} {B H:Hp} {Q:VK} {t:T} {v:V} (sB:zJ B H) (q:Po Y rC B H g Q) (e:g= .ok t) (r:Rep B v t):Q v H:=by
 subst e
 exact q v H (zJ.refl H) (by show Rep (Zf B H H) v t; rw [Zf.self B H sB]; exact r)
theorem gh {g:R T} {B H:Hp} {Q:VK} {ts:List T} {xs:List V} {p:Addr} (sB:zJ B H) (q:Po Y rC B H g Q) (e:g= .ok (.tup ts)) (r:zR B xs ts) (h:H p=none):Q (.ref p) (upd H p (.tup xs)):=by
 subst e
 exact q _ _ (zJ.new h _) (.tup (W9 h _) (r.mono (Zf.ge sB (zJ.new h _))))
theorem GZ {g:R T} {B H:Hp} {Q:VK} {ts:List T} {xs:List V} {p:Addr} (sB:zJ B H) (q:Po Y rC B H g Q) (e:g= .ok (.lst ts)) (r:zR B xs ts) (h:H p=none):Q (.ref p) (upd H p (.lst xs)):=by
 subst e
 exact q _ _ (zJ.new h _) (.lst (W9 h _) (r.mono (Zf.ge sB (zJ.new h _))))
noncomputable def zF:T->T->R T
 | .int i, .int j=> .ok (.int (i+j))
 | .bl x, .int j=> .ok (.int (b2 x+j))
 | .int i, .bl y=> .ok (.int (i+b2 y))
 | .str x, .str y=>if x.length+y.length<=bnd then .ok (.str (x++y)) else .bad
 | .tup xs, .tup ys=>if xs.length+ys.length<=bnd then .ok (.tup (xs++ys)) else .bad
 | .lst xs, .lst ys=>if xs.length+ys.length<=bnd then .ok (.lst (xs++ys)) else .bad
 | _,_=> .bad
theorem xf {prog:Program} {w:World} {A:Around} {E:Value->Shared->Prop} {s:Shared} {t b:Addr} {vs ws:List Value} {Q:Value->Shared->Prop} (ht:IsTup s.heap t vs.toArray) (hb:IsTup s.heap b ws.toArray) (hv:vs=[])
  (h1:Q (.ref b) s):wpAny (model prog w) A (binaryOp .Add (.ref t) (.ref b)) Q E s:=by
 obtain ⟨⟨cls,dd,data,sl⟩,ho,hc,n,hd⟩:=id ht
 obtain ⟨⟨cls2,dd2,data2,sl2⟩,ho2,hc2,n2,hd2⟩:=id hb
 simp only at hc hd hc2 hd2
 subst hc hd hc2 hd2
 exact concat_meets ⟨_,ho,rfl⟩ ⟨_,ho2,rfl⟩ noFill_tuple_add seq_tuple_add PySem.F.slot_tuple_add PySem.F.entry_tuple_add (PySem.F.args_tuple_add_2 _ _)
   (tuple_addW0 t b vs.toArray ws.toArray n n2 dd dd2 sl sl2 (by simp [hv])) ⟨ho,ho2,h1⟩
theorem kf:OpR X (binaryOp .Add) (rG Y zF):=by
 intro pins s σ H x y v u Q I rx ry h
 obtain ⟨B,t,t',sB,r,r',q⟩:=h
 cases r with
 | int i=>
  cases r' with
  | int j=>exact KK pins s σ H _ _ v u Q I rx ry ⟨i,j,rfl,rfl,po0 sB q rfl (.int _)⟩
  | bl y=>exact QI pins s σ H _ _ v u Q I rx ry ⟨i,y,rfl,rfl,po0 sB q rfl (.int _)⟩
  | _=>exact q.elim
 | bl x=>
  cases r' with
  | int j=>
   obtain rfl:v=Value.bool x:=rx
   obtain ⟨tk,rfl⟩:=ry
   exact IntBool.add_bool_int (⟨.int _,H,I.tok _,⟨_,rfl⟩,po0 sB q rfl (.int _)⟩)
  | _=>exact q.elim
 | str x=>
  cases r' with
  | str y=>
   by_cases hb:x.length+y.length<=bnd
   ·exact qT pins s σ H _ _ v u Q I rx ry ⟨x,y,rfl,rfl,J9 hb,po0 sB q (if_pos hb) (.str _)⟩
   ·rw [show zF (.str x) (.str y)= .bad from if_neg hb] at q; exact q.elim
  | _=>exact q.elim
 | @tup a xs ts h1 r1=>
  cases r' with
  | @tup a' ys us h2 r2=>
   by_cases hb:ts.length+us.length<=bnd
   ·have eg:zF (.tup ts) (.tup us)= .ok (.tup (ts++us)):=if_pos hb
    have hz:xs.length+ys.length<=sizeLine:=by rw [r1.length,r2.length]; exact J9 hb
    by_cases hx:xs=[]
    ·obtain rfl:v=Value.ref a:=rx
     obtain rfl:u=Value.ref a' :=ry
     obtain ⟨its,rv,p,_⟩:=I.tuple (SqT.of (sB _ _ h1))
     obtain ⟨its',rv',p',_⟩:=I.tuple (SqT.of (sB _ _ h2))
     have et:ts=[]:=r1.nil_iff.mp hx
     refine xf p p' (rv.nil_iff.mpr hx) ⟨.ref a',H,I,rfl,po0 sB q eg ?_⟩
     rw [et]; exact .tup h2 r2
    ·refine XX pins s σ H _ _ v u Q I rx ry ⟨a,a',xs,ys,rfl,rfl,SqT.of (sB _ _ h1),SqT.of (sB _ _ h2),hx,hz,fun hy=> ?_,fun hy p hp=> ?_⟩
     ·refine po0 sB q eg ?_
      rw [r2.nil_iff.mp hy,List.append_nil]
      exact .tup h1 r1
     ·exact gh sB q eg (r1.append r2) hp
   ·rw [show zF (.tup ts) (.tup us)= .bad from if_neg hb] at q; exact q.elim
  | _=>exact q.elim
 | @lst a xs ts h1 r1=>
  cases r' with
  | @lst a' ys us h2 r2=>
   by_cases hb:ts.length+us.length<=bnd
   ·have eg:zF (.lst ts) (.lst us)= .ok (.lst (ts++us)):=if_pos hb
    have hz:xs.length+ys.length<=sizeLine:=by rw [r1.length,r2.length]; exact J9 hb
    exact gc pins s σ H _ _ v u Q I rx ry ⟨a,a',xs,ys,rfl,rfl,sB _ _ h1,sB _ _ h2,hz,fun p hp=>GZ sB q eg (r1.append r2) hp⟩
   ·rw [show zF (.lst ts) (.lst us)= .bad from if_neg hb] at q; exact q.elim
  | _=>exact q.elim
 | _=>cases r' <;> exact q.elim
theorem zQ (ha:Snd X Y a fa) (hb:Snd X Y b fb):Snd X Y (.BinOp a .Add b pos) (zg zF fa fb):=QX kf ha hb
noncomputable def uV:T->T->R T
 | .int i, .int j=> .ok (.int (i - j))
 | _,_=> .bad
noncomputable def uR:T->T->R T
 | .int i, .int j=>if 0 < j then .ok (.int (i % j)) else .bad
 | _,_=> .bad
noncomputable def WI:T->T->R T
 | .int i, .int j=>if 0 < j/\j < 1073741824 then .ok (.int (i / j)) else .bad
 | _,_=> .bad
noncomputable instance (i j:Int):Decidable (yc i j):=by unfold yc; infer_instance
noncomputable def Zq:T->T->R T
 | .int i, .int j=>if yc i j then .ok (.int (i*j)) else .bad
 | .lst xs, .int k=>if 0<=k/\k < 1000000/\xs.length*k.toNat<=bnd then .ok (.lst (List.replicate k.toNat xs).flatten) else .bad
 | .tup xs, .int k=>if 2<=k/\k < 1000000/\xs ≠ []/\xs.length*k.toNat<=bnd then .ok (.tup (List.replicate k.toNat xs).flatten) else .bad
 | _,_=> .bad
theorem kg:OpR X (binaryOp .Sub) (rG Y uV):=by
 intro pins s σ H x y v u Q I rx ry h
 obtain ⟨B,t,t',sB,r,r',q⟩:=h
 cases r with
 | int i=>
  cases r' with
  | int j=>exact KL pins s σ H _ _ v u Q I rx ry ⟨i,j,rfl,rfl,po0 sB q rfl (.int _)⟩
  | _=>exact q.elim
 | _=>cases r' <;> exact q.elim
theorem kh:OpR X (binaryOp .Mod) (rG Y uR):=by
 intro pins s σ H x y v u Q I rx ry h
 obtain ⟨B,t,t',sB,r,r',q⟩:=h
 cases r with
 | int i=>
  cases r' with
  | int j=>
   by_cases hj:0 < j
   ·exact KN pins s σ H _ _ v u Q I rx ry ⟨i,j,rfl,rfl,hj,po0 sB q (if_pos hj) (.int _)⟩
   ·rw [show uR (.int i) (.int j)= .bad from if_neg hj] at q; exact q.elim
  | _=>exact q.elim
 | _=>cases r' <;> exact q.elim
theorem xg:OpR X (binaryOp .FloorDiv) (rG Y WI):=by
 intro pins s σ H x y v u Q I rx ry h
 obtain ⟨B,t,t',sB,r,r',q⟩:=h
 cases r with
 | int i=>
  cases r' with
  | int j=>
   by_cases hj:0 < j/\j < 1073741824
   ·exact XO pins s σ H _ _ v u Q I rx ry ⟨i,j,rfl,rfl,hj,po0 sB q (if_pos hj) (.int _)⟩
   ·rw [show WI (.int i) (.int j)= .bad from if_neg hj] at q; exact q.elim
  | _=>exact q.elim
 | _=>cases r' <;> exact q.elim
theorem qY (l:Addr) (items:Array Value) (n:Nat) (dd:Option Addr) (sl:Array (Option Value)) (x:Int) (u:Tok) (h1:2<=x) (h2:x < 1000000) (hne:items.isEmpty=false) (hsz:items.size*x.toNat<=sizeLine):
  Meets (Builtin.«tuple.__mul__» ⟨[.ref l, .int x u],[]⟩) (fun _ R s=>s.heap.get? l=some { cls:= .type "tuple",dict:=dd,data:= .seq items n,slots:=sl }/\
   R (.ok (.ret (Value.ref s.heap.objs.size))) { s with heap:=s.heap.push { cls:=Value.type "tuple",data:=Data.seq (List.foldl (fun x1 x2=>x1++x2) #[] (List.replicate x.toNat items)) },toks:=s.toks }):=
 .of_wp fun prog w A R s h=>by
  obtain ⟨hp,g,d,tk,os⟩:=s; obtain ⟨hl,h⟩:=h
  have f1:=AutoSeq1.idx_int
  have e0:(items.size:Int)*x=((items.size*x.toNat:Nat):Int):=by
   have:x=((x.toNat:Nat):Int):=by omega
   rw [Int.natCast_mul,← this]
  have sl1:(sizeLine:Nat)=16777216:=sizeLine_eq
  have c1:¬ (decide (x < -(2 ^ 63)) || decide (x ≥ 2 ^ 63))=true:=by simp; omega
  have c2:¬ (items.isEmpty || x == 1)=true:=by simp [hne]; omega
  have c3:¬ (decide (x<=0) || items.isEmpty)=true:=by simp [hne]; omega
  have c4:¬ ((items.size:Int)*x > (2 ^ 63 - 1) / 8):=by rw [e0]; omega
  have c5:¬ Builtin.Tuple.tupleTooMany ((items.size:Int)*x)=true:=by
   unfold Builtin.Tuple.tupleTooMany
   rw [e0]
   intro z
   have:=of_decide_eq_true z
   omega
  unfold Builtin.«tuple.__mul__»
  wp_walk using wpAny_loadPart' hl
  rw [if_neg c1]
  wp_walk using wpAny_loadPart' hl
  rw [if_neg c2]
  try dsimp only
  rw [if_neg c3]
  try dsimp only
  rw [if_neg c4]
  try dsimp only
  rw [if_neg c5]
  try dsimp only
  have hsz' :sizeOk (.seq (List.foldl (fun x1 x2=>x1++x2) #[] (List.replicate x.toNat items))):=by
   show (List.foldl (fun x1 x2=>x1++x2) #[] (List.replicate x.toNat items)).size<=sizeLine
   have:=wR items.toList x.toNat []
   rw [List.nil_append] at this
   have q:List.foldl (fun x1 x2=>x1++x2) #[] (List.replicate x.toNat items)=(List.replicate x.toNat items.toList).flatten.toArray:=by
    simpa using this
   rw [q,List.size_toArray,W8,Array.length_toList,Nat.mul_comm]
   exact hsz
  exact wpAny_bind (m:=Builtin.Tuple.tupleExact _) (wpAny_newObj_type (wpAny_pure ⟨_,rfl,h⟩) hsz')
theorem yv:seqRepeat? (.type "tuple")=pure (some (.builtin "tuple.__mul__")):=by
 unfold seqRepeat?
 rw [PySem.seqSlot_of (T:="tuple") (name:="__mul__") (id:="tuple.__mul__") F.slot_tuple_mul.lookup (by decide+kernel),PySem.seqSlot_of (T:="tuple") (name:="__rmul__") (id:="tuple.__rmul__") F.slot_tuple_rmul.lookup (by decide+kernel)]
 rfl
theorem WJ:fillsNumberSlot (.type "tuple") "mul"=pure false:=
 PySem.fillsNumberSlot_seq (id:="tuple.__mul__") (r:=some (.builtin "tuple.__rmul__")) F.slot_tuple_mul.lookup (by decide+kernel) F.slot_tuple_rmul.lookup (by decide+kernel)
theorem uW (a:Int) (t:Tok) (l:Addr) (items:Array Value) (n:Nat) (dd:Option Addr) (sl:Array (Option Value)):
  Meets (Builtin.«int.__rmul__» ⟨[.int a t, .ref l],[]⟩) (fun _ R s=>s.heap.get? l=some { cls:= .type "tuple",dict:=dd,data:= .seq items n,slots:=sl }/\R (.ok (.ret Value.notImplemented)) s):=
 .of_wp fun prog w A R s h=>by obtain ⟨hp,g,d,tk,os⟩:=s; obtain ⟨hl,h⟩:=h; wp_walk; exact ⟨_,rfl,h⟩
theorem ki {prog:Program} {w:World} {A:Around} {E:Value->Shared->Prop} {s:Shared} {l:Addr} {its:List Value} {k:Int} {t:Tok} {Q:Value->Shared->Prop} (p:IsTup s.heap l its.toArray) (hne:its ≠ []) (h1:2<=k) (h2:k < 1000000)
  (hsz:its.length*k.toNat<=sizeLine) (q:Q (.ref s.heap.objs.size) { s with heap:=s.heap.push { cls:= .type "tuple",data:= .seq (List.replicate k.toNat its).flatten.toArray } }):
  wpAny (model prog w) A (binaryOp .Mult (.ref l) (.int k t)) Q E s:=by
 obtain ⟨⟨cls,dd,data,sl⟩,ho,hc,n,hd⟩:=id p
 simp only at hc hd
 subst hc hd
 refine wpAny_binaryOp_repeat_ref (T:="tuple") (U:="int") (by decide) ⟨_,ho,rfl⟩ (fun s' =>typeIs_int s' k t) WJ F.fills_int_mul F.slot_int_rmul yv F.slot_int_index.lookup
  (call_meets F.slot_int_rmul (typeIs_int s k t) F.entry_int_rmul (F.args_int_rmul_2 _ _) (uW k t l its.toArray n dd sl)
   ⟨ho,rfl,⟨_,ho,rfl⟩,call_meets F.slot_tuple_mul ⟨_,ho,rfl⟩ F.entry_tuple_mul (F.args_tuple_mul_2 _ _) (qY l its.toArray n dd sl k t h1 h2 (by simpa using hne) (by simpa using hsz)) ⟨ho, ?_⟩⟩)
 have:=wR its k.toNat []
 rw [List.nil_append] at this
 rw [this]
 exact q
theorem kj:OpR X (binaryOp .Mult) (rG Y Zq):=by
 intro pins s σ H x y v u Q I rx ry h
 obtain ⟨B,t,t',sB,r,r',q⟩:=h
 cases r with
 | int i=>
  cases r' with
  | int j=>
   by_cases hj:yc i j
   ·exact KM pins s σ H _ _ v u Q I rx ry ⟨i,j,rfl,rfl,hj,po0 sB q (if_pos hj) (.int _)⟩
   ·rw [show Zq (.int i) (.int j)= .bad from if_neg hj] at q; exact q.elim
  | _=>exact q.elim
 | @lst l xs ts h1 r1=>
  cases r' with
  | int k=>
   by_cases hk:0<=k/\k < 1000000/\ts.length*k.toNat<=bnd
   ·have eg:Zq (.lst ts) (.int k)= .ok (.lst (List.replicate k.toNat ts).flatten):=if_pos hk
    exact gd pins s σ H _ _ v u Q I rx ry ⟨l,k,xs,rfl,rfl,sB _ _ h1,by omega,by omega,by rw [r1.length]; exact J9 hk.2.2,fun p hp=>GZ sB q eg (r1.rep _) hp⟩
   ·rw [show Zq (.lst ts) (.int k)= .bad from if_neg hk] at q; exact q.elim
  | _=>exact q.elim
 | @tup l xs ts h1 r1=>
  cases r' with
  | int k=>
   by_cases hk:2<=k/\k < 1000000/\ts ≠ []/\ts.length*k.toNat<=bnd
   ·have eg:Zq (.tup ts) (.int k)= .ok (.tup (List.replicate k.toNat ts).flatten):=if_pos hk
    obtain rfl:v=Value.ref l:=rx
    obtain ⟨tk,rfl⟩:=ry
    obtain ⟨its,rv,p,_⟩:=I.tuple (SqT.of (sB _ _ h1))
    have ln:ts.length=its.length:=r1.length.symm.trans rv.length
    have hne:its ≠ []:=fun z=>hk.2.2.1 (by rw [z] at ln; exact List.length_eq_zero_iff.mp ln)
    refine ki p hne hk.1 hk.2.1 (by rw [← ln]; exact J9 hk.2.2.2) ⟨.ref s.heap.objs.size,upd H s.heap.objs.size (.tup (List.replicate k.toNat xs).flatten),I.laid (t' :=s.toks) (fun b u e=>Heap.get?_push_of_some _ e) (Nat.le_refl _) ?_,rfl, ?_⟩
    ·exact ⟨by rw [W8,r1.length,Nat.mul_comm]; exact J9 hk.2.2.2,(List.replicate k.toNat its).flatten,rv.rep _,⟨_,Heap.get?_push_size _ rfl,rfl,_,rfl⟩⟩
    ·exact gh sB q eg (r1.rep _) (I.hok.fresh (Nat.le_refl _))
   ·rw [show Zq (.tup ts) (.int k)= .bad from if_neg hk] at q; exact q.elim
  | _=>exact q.elim
 | _=>cases r' <;> exact q.elim
theorem Wa (ha:Snd X Y a fa) (hb:Snd X Y b fb):Snd X Y (.BinOp a .Sub b pos) (zg uV fa fb):=QX kg ha hb
theorem QY (ha:Snd X Y a fa) (hb:Snd X Y b fb):Snd X Y (.BinOp a .Mod b pos) (zg uR fa fb):=QX kh ha hb
theorem QZ (ha:Snd X Y a fa) (hb:Snd X Y b fb):Snd X Y (.BinOp a .FloorDiv b pos) (zg WI fa fb):=QX xg ha hb
theorem jK (ha:Snd X Y a fa) (hb:Snd X Y b fb):Snd X Y (.BinOp a .Mult b pos) (zg Zq fa fb):=QX kj ha hb
noncomputable def qZ (fa:En->R T):En->R T:=fun ρ=>(fa ρ).bind fun x=>match x with
 | .int i=> .ok (.int (-i))
 | _=> .bad
theorem v6 (ha:Snd X Y a fa):Snd X Y (.UnaryOp .USub a pos) (qZ fa):= .mk fun ρ=>PE.imp (GO KO (ha ρ)) fun σ H Q ⟨B,I,q⟩=>step I q fun t v H1 _ s1 r1 I1 q1=>by
 cases r1 with
 | int i=>exact ⟨i,rfl,po0 I1.sB q1 rfl (.int _)⟩
 | _=>exact q1.elim
noncomputable def UA (g:T->T->R Bool):R2:=fun x y H Q=>∃ t t' b,Rep H x t/\Rep H y t' /\g t t' = .ok b/\Q (.bl b) H
noncomputable def yd (g:T->T->R Bool) (fa fb:En->R T):En->R T:=fun ρ=>(fa ρ).bind fun x=>(fb ρ).bind fun y=>(g x y).bind fun b=> .ok (.bl b)
noncomputable def Zp (g:T->T->R Bool) (fa fb:En->R T):En->R Bool:=fun ρ=>(fa ρ).bind fun x=>(fb ρ).bind fun y=>g x y
noncomputable def Nx (g:T->T->R Bool):Prop:=∀ t t' c,g t t' ≠ .ex c
theorem UB {op:CmpOp} {g:T->T->R Bool} (nx:Nx g) (ho:OpR X (compareOp op) (UA g)) (ha:W7 X Y a fa) (hb:W7 X Y b fb) (hm:behindInMarks op b=false):Snd X Y (.Compare a [op] [b] pos) (yd g fa fb):= .mk fun ρ=>
 PE.imp (XQ ho (ha ρ) (hb ρ) hm) fun σ H Q ⟨B,I,q⟩=>step I q fun t v H1 _ s1 r1 I1 q1=>step I1 q1 fun t' v' H2 _ s2 r2 I2 q2=>by
  cases e:g t t' with
  | bad=>rw [e] at q2; exact q2.elim
  | ex c=>exact absurd e (nx _ _ _)
  | ok b=>rw [e] at q2; exact ⟨t,t',b,r1.mono s2,r2,e,Jr I2 q2 (.bl b)⟩
theorem zY {op:CmpOp} {g:T->T->R Bool} (nx:Nx g) (ho:OpR X (compareOp op) (UA g)) (ha:W7 X Y a fa) (hb:W7 X Y b fb) (hm:behindInMarks op b=false):qX X Y (.Compare a [op] [b] pos) (Zp g fa fb):= .mk fun ρ=>
 PT.imp (XR ho (ha ρ) (hb ρ) hm) fun σ H Q ⟨B,I,q⟩=>step I q fun t v H1 _ s1 r1 I1 q1=>step I1 q1 fun t' v' H2 _ s2 r2 I2 q2=>by
  cases e:g t t' with
  | bad=>rw [e] at q2; exact q2.elim
  | ex c=>exact absurd e (nx _ _ _)
  | ok b=>rw [e] at q2; exact ⟨t,t',b,r1.mono s2,r2,e,b,rfl,Jr I2 q2 rfl⟩
noncomputable def eqC (t t' :T):R Bool:=match eqF 30 t t' with
 | some b=> .ok b
 | none=> .bad
noncomputable def neC (t t' :T):R Bool:=match eqF 30 t t' with
 | some b=> .ok (!b)
 | none=> .bad
theorem ZK:Nx eqC:=fun t t' c h=>by unfold eqC at h; split at h <;> cases h
theorem v7:Nx neC:=fun t t' c h=>by unfold neC at h; split at h <;> cases h
theorem zM (hu:X.A.units+64 < cLine):OpR X (compareOp .Eq) (UA eqC):=by
 intro pins s σ H x y v u Q I rx ry h
 obtain ⟨t,t',b,r,r',e,q⟩:=h
 unfold eqC at e
 split at e
 ·rename_i k ek
  have e' :k=b:=by injection e
  subst e'
  exact (xb I 30 X.A (by omega) t t' k x y v u ek r r' rx ry).2.1 _ _ _ _ ⟨.bl k,H,I,rfl,q⟩
 ·cases e
theorem yw (hu:X.A.units+64 < cLine):OpR X (compareOp .NotEq) (UA neC):=by
 intro pins s σ H x y v u Q I rx ry h
 obtain ⟨t,t',b,r,r',e,q⟩:=h
 unfold neC at e
 split at e
 ·rename_i k ek
  cases e
  exact (xb I 30 X.A (by omega) t t' k x y v u ek r r' rx ry).2.2 _ _ _ _ ⟨.bl (!k),H,I,rfl,q⟩
 ·cases e
noncomputable def ltC:T->T->R Bool
 | .int i, .int j=> .ok (decide (i < j))
 | _,_=> .bad
noncomputable def leC:T->T->R Bool
 | .int i, .int j=> .ok (decide (i<=j))
 | .str x, .str y=> .ok (!decide (y.cps.toList < x.cps.toList))
 | _,_=> .bad
noncomputable def gtC:T->T->R Bool
 | .int i, .int j=> .ok (decide (j < i))
 | _,_=> .bad
theorem xh:Nx ltC:=fun t t' c h=>by unfold ltC at h; split at h <;> cases h
theorem Jk:Nx leC:=fun t t' c h=>by unfold leC at h; split at h <;> cases h
theorem xi:Nx gtC:=fun t t' c h=>by unfold gtC at h; split at h <;> cases h
theorem qd:OpR X (compareOp .Lt) (UA ltC):=by
 intro pins s σ H x y v u Q I rx ry h
 obtain ⟨t,t',b,r,r',e,q⟩:=h
 unfold ltC at e
 split at e
 ·rename_i i j; cases e; cases r; cases r'; exact GQ pins s σ H _ _ v u Q I rx ry ⟨i,j,rfl,rfl,q⟩
 ·cases e
theorem qe:OpR X (compareOp .Gt) (UA gtC):=by
 intro pins s σ H x y v u Q I rx ry h
 obtain ⟨t,t',b,r,r',e,q⟩:=h
 unfold gtC at e
 split at e
 ·rename_i i j; cases e; cases r; cases r'; exact GS pins s σ H _ _ v u Q I rx ry ⟨i,j,rfl,rfl,q⟩
 ·cases e
theorem ZU:OpR X (compareOp .LtE) (UA leC):=by
 intro pins s σ H x y v u Q I rx ry h
 obtain ⟨t,t',b,r,r',e,q⟩:=h
 unfold leC at e
 split at e
 ·rename_i i j; cases e; cases r; cases r'; exact GR pins s σ H _ _ v u Q I rx ry ⟨i,j,rfl,rfl,q⟩
 ·rename_i i j; cases e; cases r; cases r'
  obtain ⟨t1,rfl⟩:=rx
  obtain ⟨t2,rfl⟩:=ry
  exact PySem.P.le_str ⟨.bl _,H,I,rfl,q⟩
 ·cases e
end
end PV
namespace PV
open PySem PySem.Spec PyProof.Rows L2
section
variable {X:Cx} {Y:Fx} {a b c d:Expr} {fa fb fc fd:En->R T} {pos:Pos}
noncomputable def Q0 (f:T->Option Bool):List T->Option Bool
 | []=>some false
 | t :: r=>match f t with
  | none=>none
  | some b=>match Q0 f r with
   | none=>none
   | some c=>some (b || c)
noncomputable def inC (t t' :T):R Bool:=match t' with
 | .tup ys=>match Q0 (fun y=>eqF 30 y t) ys with | some b=> .ok b | none=> .bad
 | .lst ys=>match Q0 (fun y=>eqF 30 y t) ys with | some b=> .ok b | none=> .bad
 | _=> .bad
noncomputable def v8 (t t' :T):R Bool:=(inC t t').bind fun b=> .ok (!b)
theorem xj:Nx inC:=fun t t' c h=>by
 unfold inC at h
 split at h
 ·split at h <;> cases h
 ·split at h <;> cases h
 ·cases h
theorem X9:Nx v8:=fun t t' c h=>by
 unfold v8 at h
 cases e:inC t t' with
 | bad=>rw [e] at h; cases h
 | ex k=>exact absurd e (xj _ _ _)
 | ok k=>rw [e] at h; cases h
open Classical in
theorem v9 {H:Hp} (f:T->Option Bool):∃ e:Value->Bool,∀ (v:V) (t:T) (u:Value) (b:Bool),j9 v u->Rep H v t->f t=some b->e u=b:=by
 refine ⟨fun u=>decide (∃ v t,j9 v u/\Rep H v t/\f t=some true),fun v t u b rv r e=> ?_⟩
 cases b with
 | true=>exact decide_eq_true ⟨v,t,rv,r,e⟩
 | false=>
  refine decide_eq_false ?_
  rintro ⟨v',t',rv',r',e'⟩
  have:=rv.inj rv'; subst this
  have:=r.fn r'; subst this
  rw [e] at e'; cases e'
theorem va {H:Hp} {f:T->Option Bool} {e:Value->Bool} (he:∀ (v:V) (t:T) (u:Value) (b:Bool),j9 v u->Rep H v t->f t=some b->e u=b):∀ {xs:List V} {ts:List T} {its:List Value} {b:Bool},
  ZB xs its->zR H xs ts->Q0 f ts=some b->its.any e=b/\∀ u∈its,∃ v t k,j9 v u/\Rep H v t/\f t=some k
 | _,_,_,b, .nil, .nil,h=>by
  have h' :some false=some b:=h
  cases h'
  exact ⟨rfl,fun u hu=>by simp at hu⟩
 | _,_,_,b, .cons rv vs, .cons r rs,h=>by
  rename_i v u vals us t ts
  unfold Q0 at h
  cases q:f t with
  | none=>rw [q] at h; cases h
  | some k=>
   rw [q] at h
   cases q' :Q0 f ts with
   | none=>rw [q'] at h; cases h
   | some k' =>
    rw [q'] at h
    cases h
    obtain ⟨h1,h2⟩:=va he vs rs q'
    refine ⟨by rw [List.any_cons,h1,he v t u k rv r q],fun w hw=> ?_⟩
    rcases List.mem_cons.mp hw with rfl | hw
    ·exact ⟨v,t,k,rv,r,q⟩
    ·exact h2 w hw
theorem vb (hu:X.A.units+64 < cLine) (neg:Bool):OpR X (compareOp (if neg then .NotIn else .In)) (UA (if neg then v8 else inC)):=by
 intro pins s σ H x y v u Q I rx ry h
 obtain ⟨t,t',b,r,r',e,q⟩:=h
 have hs:∃ k,inC t t' = .ok k/\b=(if neg then !k else k):=by
  cases neg with
  | false=>exact ⟨b,e,rfl⟩
  | true=>
   have e' :v8 t t' = .ok b:=e
   unfold v8 at e'
   cases z:inC t t' with
   | bad=>rw [z] at e'; cases e'
   | ex k=>exact absurd z (xj _ _ _)
   | ok k=>rw [z] at e'; cases e'; exact ⟨k,rfl,rfl⟩
 obtain ⟨k,ek,rfl⟩:=hs
 unfold inC at ek
 obtain ⟨f,hf⟩:=v9 (H:=H) fun y=>eqF 30 y t
 have eqa:∀ w,(∃ v t' k,j9 v w/\Rep H v t' /\eqF 30 t' t=some k)->SeqAt.EqAt X.A.in1 s w v (f w):=fun w ⟨v',t',k,rv,rr,ee⟩=>by
  rw [hf v' t' w k rv rr ee]
  exact (xb I 30 X.A.in1 (by rw [uc]; omega) t' t k v' x w v ee rr r rv rx).1
 split at ek
 ·rename_i ys
  split at ek
  ·rename_i k' hk
   cases ek
   cases r' with
   | @tup l xs _ h1 r1=>
    obtain rfl:u=Value.ref l:=ry
    obtain ⟨its,rv,p,_⟩:=Jj I h1 r1
    obtain ⟨h2,h3⟩:=va hf rv r1 hk
    have h4:its.toArray.any f=k:=by simpa using h2
    cases neg with
    | false=>exact SeqAt.in_tupleAt f p (fun w hw=>eqa w (h3 w (by simpa using hw))) (by rw [h4]; exact ⟨.bl k,H,I,rfl,q⟩)
    | true=>exact SeqAt.notIn_tupleAt f p (fun w hw=>eqa w (h3 w (by simpa using hw))) (by rw [h4]; exact ⟨.bl (!k),H,I,rfl,q⟩)
  ·cases ek
 ·rename_i ys
  split at ek
  ·rename_i k' hk
   cases ek
   cases r' with
   | @lst l xs _ h1 r1=>
    obtain rfl:u=Value.ref l:=ry
    obtain ⟨its,rv,p,_⟩:=Zl I (.inl h1) r1
    obtain ⟨h2,h3⟩:=va hf rv r1 hk
    have h4:its.toArray.any f=k:=by simpa using h2
    cases neg with
    | false=>exact SeqAt.in_listAt f p (fun w hw=>eqa w (h3 w (by simpa using hw))) (by rw [h4]; exact ⟨.bl k,H,I,rfl,q⟩)
    | true=>exact SeqAt.notIn_listAt f p (fun w hw=>eqa w (h3 w (by simpa using hw))) (by rw [h4]; exact ⟨.bl (!k),H,I,rfl,q⟩)
  ·cases ek
 ·cases ek
theorem Xa (hu:X.A.units+64 < cLine):OpR X (compareOp .In) (UA inC):=vb hu false
theorem vc (hu:X.A.units+64 < cLine):OpR X (compareOp .NotIn) (UA v8):=vb hu true
noncomputable def kl (t t' :T):R Bool:=match t' with
 | .non=>match t with | .non=> .ok true | _=> .ok false
 | .bl k=>match t with | .bl j=> .ok (j == k) | _=> .ok false
 | _=> .bad
noncomputable def uX (t t' :T):R Bool:=(kl t t').bind fun b=> .ok (!b)
theorem gi:Nx kl:=fun t t' c h=>by
 unfold kl at h
 split at h
 ·split at h <;> cases h
 ·split at h <;> cases h
 ·cases h
theorem Xb:Nx uX:=fun t t' c h=>by
 unfold uX at h
 cases e:kl t t' with
 | bad=>rw [e] at h; cases h
 | ex k=>exact absurd e (gi _ _ _)
 | ok k=>rw [e] at h; cases h
theorem km (neg:Bool):OpR X (compareOp (if neg then .IsNot else .Is)) (UA (if neg then uX else kl)):=by
 intro pins s σ H x y v u Q I rx ry h
 obtain ⟨t,t',b,r,r',e,q⟩:=h
 have hs:∃ k,kl t t' = .ok k/\b=(if neg then !k else k):=by
  cases neg with
  | false=>exact ⟨b,e,rfl⟩
  | true=>
   have e' :uX t t' = .ok b:=e
   unfold uX at e'
   cases z:kl t t' with
   | bad=>rw [z] at e'; cases e'
   | ex k=>exact absurd z (gi _ _ _)
   | ok k=>rw [z] at e'; cases e'; exact ⟨k,rfl,rfl⟩
 obtain ⟨k,ek,rfl⟩:=hs
 have go:plainIs v u=true/\(v == u)=k:=by
  cases r' with
  | non=>
   obtain rfl:u=Value.none:=ry
   cases r with
   | non=>obtain rfl:v=Value.none:=rx; cases ek; exact ⟨rfl,rfl⟩
   | bl j=>obtain rfl:v=Value.bool j:=rx; cases ek; exact ⟨rfl,rfl⟩
   | int j=>obtain ⟨t,rfl⟩:=rx; cases ek; exact ⟨rfl,rfl⟩
   | str j=>obtain ⟨t,rfl⟩:=rx; cases ek; exact ⟨rfl,rfl⟩
   | tup _ _=>obtain rfl:v=Value.ref _:=rx; cases ek; exact ⟨rfl,rfl⟩
   | lst _ _=>obtain rfl:v=Value.ref _:=rx; cases ek; exact ⟨rfl,rfl⟩
   | fz _ _=>obtain rfl:v=Value.ref _:=rx; cases ek; exact ⟨rfl,rfl⟩
  | bl k' =>
   obtain rfl:u=Value.bool k' :=ry
   cases r with
   | non=>obtain rfl:v=Value.none:=rx; cases ek; exact ⟨rfl,rfl⟩
   | bl j=>obtain rfl:v=Value.bool j:=rx; cases ek; exact ⟨rfl,by cases j <;> cases k' <;> rfl⟩
   | int j=>obtain ⟨t,rfl⟩:=rx; cases ek; exact ⟨rfl,rfl⟩
   | str j=>obtain ⟨t,rfl⟩:=rx; cases ek; exact ⟨rfl,rfl⟩
   | tup _ _=>obtain rfl:v=Value.ref _:=rx; cases ek; exact ⟨rfl,rfl⟩
   | lst _ _=>obtain rfl:v=Value.ref _:=rx; cases ek; exact ⟨rfl,rfl⟩
   | fz _ _=>obtain rfl:v=Value.ref _:=rx; cases ek; exact ⟨rfl,rfl⟩
  | _=>cases ek
 cases neg with
 | false=>exact wpAny_is_plain go.1 (by rw [go.2]; exact ⟨.bl k,H,I,rfl,q⟩)
 | true=>exact wpAny_isNot_plain go.1 (by rw [go.2]; exact ⟨.bl (!k),H,I,rfl,q⟩)
theorem vd:OpR X (compareOp .IsNot) (UA uX):=km true
noncomputable def chE (g g' :T->T->R Bool) (fa fb fc:En->R T):En->R T:=fun ρ=>(fa ρ).bind fun x=>(fb ρ).bind fun y=>(g x y).bind fun k=>if k=true then (fc ρ).bind fun z=>(g' y z).bind fun k' => .ok (.bl k') else .ok (.bl false)
noncomputable def chT (g g' :T->T->R Bool) (fa fb fc:En->R T):En->R Bool:=fun ρ=>(fa ρ).bind fun x=>(fb ρ).bind fun y=>(g x y).bind fun k=>if k=true then (fc ρ).bind fun z=>g' y z else .ok false
theorem Wb {op op' :CmpOp} {g g' :T->T->R Bool} (nx:Nx g) (nx' :Nx g') (ho:OpR X (compareOp op) (UA g)) (ho' :OpR X (compareOp op') (UA g')) (ha:W7 X Y a fa) (hb:W7 X Y b fb) (hc:W7 X Y c fc)
  (hm:lastMarks [op,op'] [b,c]=false:=by with_unfolding_all rfl):Snd X Y (.Compare a [op,op'] [b,c] pos) (chE g g' fa fb fc):= .mk fun ρ=>
 PE.imp (VW ho ho' (ha ρ) (hb ρ) (hc ρ) hm) fun σ H Q ⟨B,I,q⟩=>step I q fun t v H1 _ s1 r1 I1 q1=>step I1 q1 fun t' v' H2 _ s2 r2 I2 q2=>by
  cases e:g t t' with
  | bad=>rw [e] at q2; exact q2.elim
  | ex c=>exact absurd e (nx _ _ _)
  | ok k=>
   rw [e] at q2
   refine ⟨t,t',k,r1.mono s2,r2,e,k,rfl, ?_⟩
   cases k with
   | false=>exact Jr I2 q2 (.bl false)
   | true=>
    refine step I2 q2 fun t3 v3 H3 _ s3 r3 I3 q3=> ?_
    ·cases e:g' t' t3 with
     | bad=>rw [e] at q3; exact q3.elim
     | ex c=>exact absurd e (nx' _ _ _)
     | ok k=>rw [e] at q3; exact ⟨t',t3,k,r2.mono s3,r3,e,Jr I3 q3 (.bl k)⟩
theorem ve {op op' :CmpOp} {g g' :T->T->R Bool} (nx:Nx g) (nx' :Nx g') (ho:OpR X (compareOp op) (UA g)) (ho' :OpR X (compareOp op') (UA g')) (ha:W7 X Y a fa) (hb:W7 X Y b fb) (hc:W7 X Y c fc)
  (hm:lastMarks [op,op'] [b,c]=false:=by with_unfolding_all rfl):qX X Y (.Compare a [op,op'] [b,c] pos) (chT g g' fa fb fc):= .mk fun ρ=>
 PT.imp (VX ho ho' (ha ρ) (hb ρ) (hc ρ) hm) fun σ H Q ⟨B,I,q⟩=>step I q fun t v H1 _ s1 r1 I1 q1=>step I1 q1 fun t' v' H2 _ s2 r2 I2 q2=>by
  cases e:g t t' with
  | bad=>rw [e] at q2; exact q2.elim
  | ex c=>exact absurd e (nx _ _ _)
  | ok k=>
   rw [e] at q2
   refine ⟨t,t',k,r1.mono s2,r2,e,k,rfl, ?_⟩
   cases k with
   | false=>exact ⟨false,rfl,Jr I2 q2 rfl⟩
   | true=>
    refine step I2 q2 fun t3 v3 H3 _ s3 r3 I3 q3=> ?_
    ·cases e:g' t' t3 with
     | bad=>rw [e] at q3; exact q3.elim
     | ex c=>exact absurd e (nx' _ _ _)
     | ok k=>rw [e] at q3; exact ⟨t',t3,k,r2.mono s3,r3,e,k,rfl,Jr I3 q3 rfl⟩
noncomputable def kn (r r' r'' :R2) (ta tb tc td:TE):TE:=fun σ H Q=>ta σ H fun x H1=>tb σ H1 fun y H2=>r x y H2 fun z H3=>∃ k,z= .bl k/\
 (if k=true then tc σ H3 fun w' H4=>r' y w' H4 fun z' H5=>∃ k',z' = .bl k' /\(if k' =true then td σ H5 fun w2 H6=>r'' w' w2 H6 Q else Q (.bl false) H5) else Q (.bl false) H3)
theorem vf {op op' op'' :CmpOp} {r r' r'' :R2} {ta tb tc td:TE} (ho:OpR X (compareOp op) r) (ho' :OpR X (compareOp op') r') (ho'' :OpR X (compareOp op'') r'') (ha:PE X a ta) (hb:PE X b tb) (hc:PE X c tc) (hd:PE X d td)
  (hm:lastMarks [op,op',op''] [b,c,d]=false:=by with_unfolding_all rfl):PE X (.Compare a [op,op',op''] [b,c,d] pos) (kn r r' r'' ta tb tc td):=by
 intro pins s σ H Q I h
 refine Compare_chain (thn (ha pins s σ H _ I h) fun v s1 ⟨x,H1,I1,r1,q1⟩=>chain_link (thn (hb pins s1 σ H1 _ I1 q1) fun u s2 ⟨y,H2,I2,r2,q2⟩=>
  thn (ho pins s2 σ H2 x y v u _ I2 r1 r2 q2) fun d' s3 ⟨z,H3,I3,r3,k,e,q3⟩=> ?_)) hm
 subst e
 cases r3
 refine wpAny_truthy_bool ?_
 cases k with
 | false=>exact ite_ff ⟨.bl false,H3,I3,rfl,q3⟩
 | true=>
  refine ite_tt (chain_link (thn (hc pins s3 σ H3 _ I3 q3) fun w' s4 ⟨z',H4,I4,r4,q4⟩=>thn (ho' pins s4 σ H4 y z' u w' _ I4 r2 r4 q4) fun d2 s5 ⟨z5,H5,I5,r5,k5,e5,q5⟩=> ?_))
  subst e5
  cases r5
  refine wpAny_truthy_bool ?_
  cases k5 with
  | false=>exact ite_ff ⟨.bl false,H5,I5,rfl,q5⟩
  | true=>exact ite_tt (chain_last (thn (hd pins s5 σ H5 _ I5 q5) fun w6 s6 ⟨z6,H6,I6,r6,q6⟩=>ho'' pins s6 σ H6 z' z6 w' w6 Q I6 r4 r6 q6))
noncomputable def ch3E (g g' g'' :T->T->R Bool) (fa fb fc fd:En->R T):En->R T:=fun ρ=>(fa ρ).bind fun x=>(fb ρ).bind fun y=>(g x y).bind fun k=>if k=true then (fc ρ).bind fun z=>(g' y z).bind fun k' =>
 if k' =true then (fd ρ).bind fun w=>(g'' z w).bind fun k'' => .ok (.bl k'') else .ok (.bl false) else .ok (.bl false)
theorem xk {op op' op'' :CmpOp} {g g' g'' :T->T->R Bool} (nx:Nx g) (nx' :Nx g') (nx'' :Nx g'') (ho:OpR X (compareOp op) (UA g)) (ho' :OpR X (compareOp op') (UA g')) (ho'' :OpR X (compareOp op'') (UA g''))
  (ha:W7 X Y a fa) (hb:W7 X Y b fb) (hc:W7 X Y c fc) (hd:W7 X Y d fd)
  (hm:lastMarks [op,op',op''] [b,c,d]=false:=by with_unfolding_all rfl):Snd X Y (.Compare a [op,op',op''] [b,c,d] pos) (ch3E g g' g'' fa fb fc fd):= .mk fun ρ=>
 PE.imp (vf ho ho' ho'' (ha ρ) (hb ρ) (hc ρ) (hd ρ) hm) fun σ H Q ⟨B,I,q⟩=>step I q fun t v H1 _ s1 r1 I1 q1=>step I1 q1 fun t' v' H2 _ s2 r2 I2 q2=>by
  cases e:g t t' with
  | bad=>rw [e] at q2; exact q2.elim
  | ex c=>exact absurd e (nx _ _ _)
  | ok k=>
   rw [e] at q2
   refine ⟨t,t',k,r1.mono s2,r2,e,k,rfl, ?_⟩
   cases k with
   | false=>exact Jr I2 q2 (.bl false)
   | true=>
    refine step I2 q2 fun t3 v3 H3 _ s3 r3 I3 q3=> ?_
    ·cases e:g' t' t3 with
     | bad=>rw [e] at q3; exact q3.elim
     | ex c=>exact absurd e (nx' _ _ _)
     | ok k=>
      rw [e] at q3
      refine ⟨t',t3,k,r2.mono s3,r3,e,k,rfl, ?_⟩
      cases k with
      | false=>exact Jr I3 q3 (.bl false)
      | true=>
       refine step I3 q3 fun t4 v4 H4 _ s4 r4 I4 q4=> ?_
       ·cases e:g'' t3 t4 with
        | bad=>rw [e] at q4; exact q4.elim
        | ex c=>exact absurd e (nx'' _ _ _)
        | ok k=>rw [e] at q4; exact ⟨t3,t4,k,r3.mono s4,r4,e,Jr I4 q4 (.bl k)⟩
variable {rest:List Expr} {ga gb:En->R Bool}
noncomputable def uY (fa fb:En->R T):En->R T:=fun ρ=>(fa ρ).bind fun x=>match x with
 | .bl true=>fb ρ
 | .bl false=> .ok (.bl false)
 | _=> .bad
noncomputable def notE (fa:En->R T):En->R T:=fun ρ=>(fa ρ).bind fun x=>match x with
 | .bl k=> .ok (.bl (!k))
 | _=> .bad
theorem WK {op} (h:Snd X Y a fa):Snd X Y (.BoolOp op [a] pos) fa:= .mk fun ρ=>KD (h ρ)
theorem wu (ha:Snd X Y a fa) (hb:Snd X Y (.BoolOp .And (b :: rest) pos) fb):Snd X Y (.BoolOp .And (a :: b :: rest) pos) (uY fa fb):= .mk fun ρ=>
 PE.imp (KF (ha ρ) (hb ρ)) fun σ H Q ⟨B,I,q⟩=>step I q fun t v H1 _ s1 r1 I1 q1=>by
  cases r1 with
  | bl k=>
   refine ⟨k,rfl, ?_⟩
   cases k with
   | true=>exact ⟨_,I1,q1⟩
   | false=>exact Jr I1 q1 (.bl false)
  | _=>exact q1.elim
theorem z00 (ha:Snd X Y a fa):Snd X Y (.UnaryOp .Not a pos) (notE fa):= .mk fun ρ=>
 PE.imp (KG (ha ρ)) fun σ H Q ⟨B,I,q⟩=>step I q fun t v H1 _ s1 r1 I1 q1=>by
  cases r1 with
  | bl k=>exact ⟨k,rfl,Jr I1 q1 (.bl (!k))⟩
  | _=>exact q1.elim
structure qf (X:Cx) (Y:Fx) (e:Expr) (f:En->R Bool):Prop where
 mk ::
 go:∀ ρ,PW X e (tS Y rE f ρ)
noncomputable instance {X:Cx} {Y:Fx} {e:Expr} {f:En->R Bool}:CoeFun (qf X Y e f) fun _=>∀ ρ,PW X e (tS Y rE f ρ):=⟨qf.go⟩
theorem qf.t {e:Expr} {f:En->R Bool} (h:qf X Y e f):qX X Y e f:= .mk fun ρ=>(h ρ).pt
theorem PW.imp {e:Expr} {t t' :TT} (h:PW X e t) (i:∀ σ H Q,t' σ H Q->t σ H Q):PW X e t' :=fun wh pins s σ H Q I q=>h wh pins s σ H Q I (i σ H Q q)
noncomputable def orT (fa fb:En->R Bool):En->R Bool:=fun ρ=>(fa ρ).bind fun x=>if x=true then .ok true else fb ρ
noncomputable def Qw (fa:En->R Bool):En->R Bool:=fun ρ=>(fa ρ).bind fun x=> .ok (!x)
theorem Yr (h:qX X Y a ga):qf X Y (.BoolOp .Or [a] pos) ga:= .mk fun ρ=>KA (h ρ)
theorem Xc (ha:qX X Y a ga) (hb:qf X Y (.BoolOp .Or (b :: rest) pos) gb):qf X Y (.BoolOp .Or (a :: b :: rest) pos) (orT ga gb):= .mk fun ρ=>
 PW.imp (GC (ha ρ) (hb ρ)) fun σ H Q ⟨B,I,q⟩=>step I q fun t v H1 _ s1 r1 I1 q1=>by
  have r1' :v=t:=r1
  subst r1'
  cases v with
  | false=>exact ⟨_,I1,q1⟩
  | true=>exact Jr I1 q1 rfl
theorem yx (ha:qX X Y a ga):qX X Y (.UnaryOp .Not a pos) (Qw ga):= .mk fun ρ=>
 PT.imp (KC (ha ρ)) fun σ H Q ⟨B,I,q⟩=>step I q fun t v H1 _ s1 r1 I1 q1=>by
  have r1' :v=t:=r1
  subst r1'
  exact Jr I1 q1 rfl
noncomputable def tru:T->R Bool
 | .bl k=> .ok k
 | .non=> .ok false
 | .int i=> .ok (i != 0)
 | .tup xs=> .ok (!xs.isEmpty)
 | .lst xs=> .ok (!xs.isEmpty)
 | _=> .bad
noncomputable def VM (fa:En->R T):En->R Bool:=fun ρ=>(fa ρ).bind tru
theorem isE {H:Hp} {xs:List V} {ts:List T} (r:zR H xs ts):(!xs.isEmpty)= !ts.isEmpty:=by cases r <;> rfl
theorem Q1 (ha:W7 X Y a fa) (he:∀ whole,isTrue a X.env whole=(do let v ← whole; standAt a.pos; holding [v] (truthy v)):=by intro _; rfl):qX X Y a (VM fa):= .mk fun ρ=>
 PT.imp (VY (ha ρ) he) fun σ H Q ⟨B,I,q⟩=>step I q fun t v H1 _ s1 r1 I1 q1=>by
  cases r1 with
  | bl k=>exact ⟨k,rfl,Jr I1 q1 rfl⟩
  | non=>exact ⟨false,rfl,Jr I1 q1 rfl⟩
  | int i=>exact ⟨_,rfl,Jr I1 q1 rfl⟩
  | tup h r=>exact ⟨_, .inr (.inl ⟨_,SqT.of h,rfl⟩),Jr I1 q1 (isE r)⟩
  | lst h r=>exact ⟨_, .inl ⟨_,SqL.of h,rfl⟩,Jr I1 q1 (isE r)⟩
  | _=>exact q1.elim
noncomputable def ifE (g:En->R Bool) (fa fb:En->R T):En->R T:=fun ρ=>(g ρ).bind fun k=>if k=true then fa ρ else fb ρ
theorem s_if (hc:qX X Y c ga) (ha:Snd X Y a fa) (hb:Snd X Y b fb):Snd X Y (.IfExp c a b pos) (ifE ga fa fb):= .mk fun ρ=>
 PE.imp (VT (hc ρ) (ha ρ) (hb ρ)) fun σ H Q ⟨B,I,q⟩=>step I q fun t v H1 _ s1 r1 I1 q1=>by
  have r1' :v=t:=r1
  subst r1'
  cases v with
  | true=>exact ⟨_,I1,q1⟩
  | false=>exact ⟨_,I1,q1⟩
end
end PV
namespace PV
open PySem PySem.Spec PyProof.Rows L2
section
variable {X:Cx} {Y:Fx} {a b c d:Expr} {fa fb fc fd:En->R T} {pos p:Pos}
noncomputable def ap1 (g:T->R T) (fa:En->R T):En->R T:=fun ρ=>(fa ρ).bind g
noncomputable abbrev St1 (X:Cx) (a:Expr):Prop:=starEach [a] X.env=[(false,eval a X.env)]
theorem vg {id:String} {x:Str} {r:List V->Hp->VK->Prop} {g:T->R T} (hc:Jq X (.builtin id) r) (hr:∀ v t B H Q,Rep H v t->zJ B H->Po Y rC B H (g t) Q->r [v] H Q)
  (gl:Gl X x) (mg:X.mg x=none) (bt:bootBuiltins x=some (.builtin id)) (ha:W7 X Y a fa) (hs:St1 X a:=by exact st1 rfl) (hn:x ≠ "__name__":=by decide) (hd:(x == ("__debug__":Str))=false:=by decide):Snd X Y (.Call (.Name x p) [a] [] pos) (ap1 g fa):= .mk fun ρ=>
 PE.imp (WZ hc gl mg bt (zS (ha ρ) ja hs) hn hd hs rfl) fun σ H Q ⟨B,I,q⟩=>step I q fun t v H1 _ s1 r1 I1 q1=>hr v t _ H1 Q r1 I1.sB q1
theorem Xd {id:String} {x:Str} {r:List V->Hp->VK->Prop} {g:T->R T} (hc:Jq X (.type id) r) (hr:∀ v t B H Q,Rep B v t->zJ B H->Po Y rC B H (g t) Q->r [v] H Q)
  (gl:Gl X x) (mg:X.mg x=none) (bt:bootBuiltins x=some (.type id)) (ha:Snd X Y a fa) (hs:St1 X a:=by exact st1 rfl) (hn:x ≠ "__name__":=by decide) (hd:(x == ("__debug__":Str))=false:=by decide):Snd X Y (.Call (.Name x p) [a] [] pos) (ap1 g fa):= .mk fun ρ=>
 PE.imp (wQ hc gl mg bt (zS (ha ρ) ja hs) hn hd hs rfl) fun σ H Q ⟨B,I,q⟩=>step I q fun t v H1 _ s1 r1 I1 q1=>hr v t _ H1 Q r1 I1.sB q1
noncomputable def JF:T->R T
 | .tup xs=> .ok (.int xs.length)
 | .lst xs=> .ok (.int xs.length)
 | .fz xs=> .ok (.int xs.length)
 | .str x=>if x.length<=bnd then .ok (.int x.length) else .bad
 | _=> .bad
theorem z01 (v:V) (t:T) (B H:Hp) (Q:VK) (r:Rep H v t) (sB:zJ B H) (q:Po Y rC B H (JF t) Q):
  (∃ p ys,[v]=[V.ref p]/\(SqL X.K H p ys\/SqT X.K H p ys)/\Q (V.int ys.length) H)\/(∃ z,[v]=[V.str z]/\z.length<=sizeLine/\Q (V.int z.length) H):=by
 cases r with
 | tup h r=>exact .inl ⟨_,_,rfl, .inr (SqT.of h),po0 sB q rfl (by rw [r.length]; exact .int _)⟩
 | lst h r=>exact .inl ⟨_,_,rfl, .inl (SqL.of h),po0 sB q rfl (by rw [r.length]; exact .int _)⟩
 | fz h r=>exact .inl ⟨_,_,rfl, .inl (.inl (.inr ⟨_,h⟩)),po0 sB q rfl (by rw [r.length]; exact .int _)⟩
 | str x=>
  by_cases hb:x.length<=bnd
  ·exact .inr ⟨x,rfl,J9 hb,po0 sB q (if_pos hb) (.int _)⟩
  ·rw [show JF (.str x)= .bad from if_neg hb] at q; exact q.elim
 | _=>exact q.elim
theorem JI (gl:Gl X "len") (mg:X.mg "len"=none) (ha:W7 X Y a fa) (hs:St1 X a:=by exact st1 rfl):Snd X Y (.Call (.Name "len" p) [a] [] pos) (ap1 JF fa):=
 vg (yo.or yq) z01 gl mg PySem.boot_len ha hs
noncomputable def Gq:T->R T
 | .tup xs=> .ok (.tup xs)
 | .lst xs=> .ok (.tup xs)
 | _=> .bad
theorem z02 (v:V) (t:T) (B H:Hp) (Q:VK) (r:Rep B v t) (sB:zJ B H) (q:Po Y rC B H (Gq t) Q):
  ∃ p ys,[v]=[V.ref p]/\((SqL X.K H p ys/\∀ l,H l=none->Q (.ref l) (upd H l (.tup ys)))\/(SqT X.K H p ys/\Q (.ref p) H)):=by
 cases r with
 | tup h r=>exact ⟨_,_,rfl, .inr ⟨SqT.of (sB _ _ h),po0 sB q rfl (.tup h r)⟩⟩
 | lst h r=>exact ⟨_,_,rfl, .inl ⟨SqL.of (sB _ _ h),fun l hl=>gh sB q rfl r hl⟩⟩
 | _=>exact q.elim
theorem vh (gl:Gl X "tuple") (mg:X.mg "tuple"=none) (ha:Snd X Y a fa) (hs:St1 X a:=by exact st1 rfl):Snd X Y (.Call (.Name "tuple" p) [a] [] pos) (ap1 Gq fa):=
 Xd Uy z02 gl mg (PyProof.Rows.Boot.«tuple») ha hs
noncomputable def tyN:T->String
 | .non=>"NoneType"
 | .bl _=>"bool"
 | .int _=>"int"
 | .str _=>"str"
 | .tup _=>"tuple"
 | .lst _=>"list"
 | .fz _=>"list"
noncomputable def isT (n:String) (t:T):Bool:=tyN t == n || (n == "int" && tyN t == "bool")
theorem z03 {H:Hp} {v:V} {t:T} (K:PySem.W.Frag) (r:Rep H v t):qU K H v (.type (tyN t)):=by
 cases r with
 | non=>exact .non
 | bl b=>exact .bl b
 | int b=>exact .int b
 | str b=>exact .str b
 | tup h _=>exact .tup h
 | lst h _=>exact .lst h
 | fz h _=>exact .frz h
theorem xn:Jq X (.builtin "isinstance") (fun xs H Q=>∃ v n t,xs=[v, .ty n]/\Rep H v t/\PySem.W.kitOne X.K (.type (tyN t)) (.type n)=some (isT n t)/\Q (.bl (isT n t)) H):=by
 intro pins s σ H xs us Q I rv h
 obtain ⟨v,n,t,rfl,r,hk,q⟩:=h
 obtain ⟨u,w,rfl,ru,rw'⟩:=VZ rv
 obtain rfl:w=Value.type n:=rw'
 exact QM I ru (z03 X.K r) hk fun tk=>⟨.bl _,H,I.tok tk,rfl,q⟩
noncomputable def ko (n:String) (t:T):R T:= .ok (.bl (isT n t))
theorem kq (K:PySem.W.Frag) (t:T):PySem.W.kitOne K (.type (tyN t)) (.type "int")=some (isT "int" t):=by cases t <;> rfl
theorem xo (K:PySem.W.Frag) (t:T):PySem.W.kitOne K (.type (tyN t)) (.type "bool")=some (isT "bool" t):=by cases t <;> rfl
theorem kr (K:PySem.W.Frag) (t:T):PySem.W.kitOne K (.type (tyN t)) (.type "str")=some (isT "str" t):=by cases t <;> rfl
theorem yy (K:PySem.W.Frag) (t:T):PySem.W.kitOne K (.type (tyN t)) (.type "tuple")=some (isT "tuple" t):=by cases t <;> rfl
theorem vi {n:String} {p' :Pos} (hk:∀ t,PySem.W.kitOne X.K (.type (tyN t)) (.type n)=some (isT n t)) (gl:Gl X "isinstance") (mg:X.mg "isinstance"=none) (gl' :Gl X (Str.ofString n)) (mg' :X.mg (Str.ofString n)=none) (bt:bootBuiltins (Str.ofString n)=some (.type n)) (ha:W7 X Y a fa)
  (hs:starEach [a, .Name (Str.ofString n) p'] X.env=[(false,eval a X.env),(false,eval (.Name (Str.ofString n) p') X.env)]:=by exact st2 rfl rfl) (hs2:starEach [.Name (Str.ofString n) p'] X.env=[(false,eval (.Name (Str.ofString n) p') X.env)]:=by exact st1 rfl)
  (hn:Str.ofString n ≠ "__name__":=by decide) (hd:(Str.ofString n == ("__debug__":Str))=false:=by decide) (hz:((backTo pos (starEach [.Name (Str.ofString n) p'] X.env)).any fun x=>x.fst)=false:=by exact JH rfl):
  Snd X Y (.Call (.Name "isinstance" p) [a, .Name (Str.ofString n) p'] [] pos) (ap1 (ko n) fa):= .mk fun ρ=>
 PE.imp (WZ xn gl mg PyProof.Rows.Boot.«isinstance» (zS (ha ρ) (zS (XL (v:= .ty n) gl' mg' bt rfl hn hd) ja hs2) (by rw [hs,hs2])) (by decide) (by decide) (by rw [hs,hs2]) hz) fun σ H Q ⟨B,I,q⟩=>
  step I q fun t v H1 _ s1 r1 I1 q1=>⟨v,n,t,rfl,r1,hk t,po0 I1.sB q1 rfl (.bl _)⟩
noncomputable def atT (xs:List T) (i:Int):R T:=match atI xs i with
 | some t=> .ok t
 | none=> .bad
noncomputable def ixT:T->T->R T
 | .tup xs, .int i=>atT xs i
 | .lst xs, .int i=>atT xs i
 | .fz xs, .int i=>atT xs i
 | .str z, .int i=>if z.length<=bnd then match atI z.cps.toList i with | some c=> .ok (.str ⟨#[c]⟩) | none=> .bad else .bad
 | _,_=> .bad
theorem vj {H:Hp} {xs:List V} {ts:List T} {i:Int} {t:T} (r:zR H xs ts) (h:atI ts i=some t):∃ v,atI xs i=some v/\Rep H v t:=by
 unfold atI at h ⊢
 rw [r.length]
 cases e:ixN ts.length i with
 | none=>rw [e] at h; cases h
 | some j=>
  rw [e] at h
  obtain ⟨v,h1,h2⟩:=r.get (show ts[j]? =some t from h)
  exact ⟨v,h1,h2⟩
theorem Ze (ha:Snd X Y a fa) (hb:Snd X Y b fb) (hs:QP b:=by exact fun _ _=>rfl):Snd X Y (.Subscript a b pos) (zg ixT fa fb):= .mk fun ρ=>
 PE.imp (GY g6 (ha ρ) (hb ρ) hs) fun σ H Q ⟨B,I,q⟩=>step I q fun t v H1 _ s1 r1 I1 q1=>step I1 q1 fun t' v' H2 _ s2 r2 I2 q2=>by
  have r1:=r1.mono (Zf.ge I1.sB s2)
  cases r2 with
  | int i=>
   cases r1 with
   | @tup _ xs ts h r=>
    have q2:Po Y rC _ H2 (atT ts i) Q:=q2
    unfold atT at q2
    split at q2
    ·rename_i t' e
     obtain ⟨w,e1,e2⟩:=vj r e
     exact .inr (.inl ⟨_,xs,i,w,rfl,rfl,SqT.of (I2.sB _ _ h),e1,po0 I2.sB q2 rfl e2⟩)
    ·exact q2.elim
   | @lst _ xs ts h r=>
    have q2:Po Y rC _ H2 (atT ts i) Q:=q2
    unfold atT at q2
    split at q2
    ·rename_i t' e
     obtain ⟨w,e1,e2⟩:=vj r e
     exact .inl ⟨_,xs,i,w,rfl,rfl,SqL.of (I2.sB _ _ h),e1,po0 I2.sB q2 rfl e2⟩
    ·exact q2.elim
   | @fz _ _ xs ts h r=>
    have q2:Po Y rC _ H2 (atT ts i) Q:=q2
    unfold atT at q2
    split at q2
    ·rename_i t' e
     obtain ⟨w,e1,e2⟩:=vj r e
     exact .inl ⟨_,xs,i,w,rfl,rfl, .inl (.inr ⟨_,I2.sB _ _ h⟩),e1,po0 I2.sB q2 rfl e2⟩
    ·exact q2.elim
   | str z=>
    have q2:Po Y rC _ H2 (if z.length<=bnd then match atI z.cps.toList i with | some c=> .ok (.str ⟨#[c]⟩) | none=> .bad else .bad) Q:=q2
    split at q2
    ·rename_i hb
     split at q2
     ·rename_i c e
      exact .inr (.inr ⟨z,i,c,rfl,rfl,J9 hb,e,po0 I2.sB q2 rfl (.str _)⟩)
     ·exact q2.elim
    ·exact q2.elim
   | _=>exact q2.elim
  | _=>cases r1 <;> exact q2.elim
structure Kl (X:Cx) (Y:Fx) (e:Option Expr) (f:En->R (Option Int)):Prop where
 mk ::
 go:∀ ρ,PO X e (tS Y rE f ρ)
noncomputable instance {X:Cx} {Y:Fx} {e:Option Expr} {f:En->R (Option Int)}:CoeFun (Kl X Y e f) fun _=>∀ ρ,PO X e (tS Y rE f ρ):=⟨Kl.go⟩
noncomputable def noO:En->R (Option Int):=fun _=> .ok none
noncomputable def WL (fa:En->R T):En->R (Option Int):=fun ρ=>(fa ρ).bind fun t=>match t with
 | .int i=> .ok (some i)
 | _=> .bad
theorem PO.imp {e:Option Expr} {t t' :TO} (h:PO X e t) (i:∀ σ H Q,t' σ H Q->t σ H Q):PO X e t' :=fun pins s σ H Q I q=>h pins s σ H Q I (i σ H Q q)
theorem gj:Kl X Y none noO:= .mk fun ρ=>PO.imp XV fun σ H Q ⟨B,I,q⟩=>Jr I q rfl
theorem vk (ha:Snd X Y a fa):Kl X Y (some a) (WL fa):= .mk fun ρ=>PO.imp (XW (ha ρ)) fun σ H Q ⟨B,I,q⟩=>step I q fun t v H1 _ s1 r1 I1 q1=>by
 cases r1 with
 | int i=>exact ⟨i,rfl,Jr I1 q1 rfl⟩
 | _=>exact q1.elim
noncomputable def cut (xs:List T) (lo hi:Option Int):List T:=(xs.drop (HT.sIx xs.length 0 lo)).take (HT.sIx xs.length xs.length hi - HT.sIx xs.length 0 lo)
noncomputable def slT (t:T) (lo hi:Option Int):R T:=match t with
 | .tup xs=> .ok (.tup (cut xs lo hi))
 | .lst xs=> .ok (.lst (cut xs lo hi))
 | _=> .bad
noncomputable def slE (fa:En->R T) (fl fh:En->R (Option Int)):En->R T:=fun ρ=>(fa ρ).bind fun t=>(fl ρ).bind fun lo=>(fh ρ).bind fun hi=>slT t lo hi
theorem vm {H:Hp} {xs:List V} {ts:List T} {lo hi:Option Int} (r:zR H xs ts):zR H (X8 xs lo hi) (cut ts lo hi):=by
 unfold X8 cut
 rw [r.length]
 exact (r.drop _).take _
theorem Wc {prog:Program} {w:World} {A:Around} {E:Value->Shared->Prop} {s:Shared} {t sl:Addr} {items:Array Value} {vl vu:Value} {lo hi:Option Int} {Q:Value->Shared->Prop} (ht:IsTup s.heap t items) (hs:s.heap.IsSliceOf sl vl vu .none) (pl:IsPart vl lo) (pu:IsPart vu hi)
  (hw:HT.sIx items.size 0 lo=0/\HT.sIx items.size items.size hi=items.size) (h:Q (.ref t) s):wpAny (model prog w) A (getItem (.ref t) (.ref sl)) Q E s:=by
 obtain ⟨os,hos,hcs,hds⟩:=id hs
 have hTs:s.TypeIs (.ref sl) "slice":=⟨os,hos,hcs⟩
 unfold getItem
 try with_reducible refine wpAny_holding ?_
 first | refine wpAny_bind (wpAny_pure ?_) | skip
 refine wpAny_bind (wpAny_sequenceKey ht.typeIs (by decide) ?_)
 refine wpAny_bind (wpAny_callSpecial?_slot (name:=Str.ofString "__getitem__") ht.typeIs PyProof.Rows.slot_tuple_getitem
  (wpAny_call_entry PyProof.Rows.slot_tuple_getitem ht.typeIs entry_tuple_getitem ?_ (args_tuple_getitem _ _)))
 show wpAny _ _ (Builtin.Tuple.tupleItemsOf (.ref t) >>= _) _ _ s
 refine wpAny_bind (tupleItemsOf_ ht ?_)
 refine wpAny_bind (wpAny_typeOf hTs ?_)
 rw [if_pos (by decide)]
 refine wpAny_bind (HT.sliceApplied_gen hs pl pu ?_)
 have hyes:(((HT.sIx items.size 0 lo:Nat):Int) == 0 && (1:Int) == 1 && (HT.sIx items.size items.size hi - HT.sIx items.size 0 lo) == items.size)=true:=by
  rw [hw.1,hw.2]; simp
 show wpAny _ _ (if (((HT.sIx items.size 0 lo:Nat):Int) == 0 && (1:Int) == 1 && (HT.sIx items.size items.size hi - HT.sIx items.size 0 lo) == items.size)=true then _ else _) _ _ s
 rw [if_pos hyes]
 unfold Builtin.Tuple.tupleIsExact
 refine wpAny_bind (wpAny_bind (wpAny_typeOf ht.typeIs (wpAny_pure ?_)))
 rw [if_pos (by decide)]
 exact wpAny_bind (wpAny_rule (wpAny_pure ⟨_,rfl,wpAny_pure h⟩))
theorem Q2:SlR X (fun x lo hi H Q=>∃ a xs,x= .ref a/\SqT X.K H a xs/\(HT.sIx xs.length 0 lo=0/\HT.sIx xs.length xs.length hi=xs.length)/\Q (.ref a) H):=by
 intro pins s σ H x v vl vu lo hi sl Q I rx hs pl pu h
 obtain ⟨a,xs,rfl,hx,hw,q⟩:=h
 obtain rfl:v=Value.ref a:=rx
 obtain ⟨its,r,ht,hz⟩:=I.tuple hx
 have hlen:its.toArray.size=xs.length:=by rw [List.size_toArray]; exact r.length.symm
 refine ⟨"tuple",_,PyProof.Rows.slot_tuple_getitem.lookup,ht.typeIs, ?_⟩
 exact Wc ht hs pl pu (by rw [hlen]; exact hw) ⟨.ref a,H,I,rfl,q⟩
theorem ku {xs:List T} {lo hi:Option Int} (h1:HT.sIx xs.length 0 lo=0) (h2:HT.sIx xs.length xs.length hi=xs.length):cut xs lo hi=xs:=by
 unfold cut
 rw [h1,h2]; simp
theorem vn {lo hi:Option Expr} {fl fh:En->R (Option Int)} {p2:Pos} (ha:Snd X Y a fa) (hl:Kl X Y lo fl) (hh:Kl X Y hi fh):Snd X Y (.Subscript a (.Slice lo hi none p2) pos) (slE fa fl fh):= .mk fun ρ=>
 PE.imp (x6 (KW.or (Q2.or k6)) (ha ρ) (hl ρ) (hh ρ)) fun σ H Q ⟨B,I,q⟩=>step I q fun t v H1 _ s1 r1 I1 q1=>step I1 q1 fun l l' H2 _ s2 el I2 q2=>step I2 q2 fun h h' H3 _ s3 eh I3 q3=>by
  have el' :l' =l:=el
  have eh' :h' =h:=eh
  subst el' eh'
  have r1:=r1.mono ((Zf.ge I1.sB s2).trans (Zf.ge I2.sB s3))
  cases r1 with
  | @tup _ xs ts hx r=>
   have q3:Po Y rC _ H3 (.ok (.tup (cut ts l' h'))) Q:=q3
   by_cases hw:HT.sIx xs.length 0 l' =0/\HT.sIx xs.length xs.length h' =xs.length
   ·refine .inr (.inl ⟨_,xs,rfl,SqT.of (I3.sB _ _ hx),hw,po0 I3.sB q3 rfl ?_⟩)
    rw [r.length] at hw
    rw [ku hw.1 hw.2]
    exact .tup hx r
   ·exact .inl ⟨_,xs,rfl,SqT.of (I3.sB _ _ hx),hw,fun p hp=>gh I3.sB q3 rfl (vm r) hp⟩
  | @lst _ xs ts hx r=>
   have q3:Po Y rC _ H3 (.ok (.lst (cut ts l' h'))) Q:=q3
   exact .inr (.inr ⟨_,xs,rfl,SqL.of (I3.sB _ _ hx),fun p hp=>GZ I3.sB q3 rfl (vm r) hp⟩)
  | _=>exact q3.elim
noncomputable def vo (t t' :T):R T:=match t,t' with
 | .int i, .int j=> .ok (.int (if j < i then j else i))
 | _,_=> .bad
theorem Xe (hc:X.calm=true) (gl:Gl X "min") (mg:X.mg "min"=none) (ha:Snd X Y a fa) (hb:Snd X Y b fb)
  (hs:starEach [a,b] X.env=[(false,eval a X.env),(false,eval b X.env)]:=by exact st2 rfl rfl) (hs2:starEach [b] X.env=[(false,eval b X.env)]:=by exact st1 rfl):
  Snd X Y (.Call (.Name "min" p) [a,b] [] pos) (zg vo fa fb):= .mk fun ρ=>
 PE.imp (WZ (QJ hc) gl mg PyProof.Rows.Boot.«min» (zS (ha ρ) (zS (hb ρ) ja hs2) (by rw [hs,hs2])) (by decide) (by decide) (by rw [hs,hs2]) (by rw [hs2]; rfl)) fun σ H Q ⟨B,I,q⟩=>
  step I q fun t v H1 _ s1 r1 I1 q1=>step I1 q1 fun t' v' H2 _ s2 r2 I2 q2=>by
   cases r1 with
   | int i=>
    cases r2 with
    | int j=>exact ⟨i,j,rfl,po0 I2.sB q2 rfl (.int _)⟩
    | _=>exact q2.elim
   | _=>cases r2 <;> exact q2.elim
noncomputable def Yi:List T->Option Bool
 | []=>some true
 | .bl k :: r=>match Yi r with | some j=>some (k && j) | none=>none
 | _ :: _=>none
noncomputable def Xf:T->R T
 | .lst ts=>match Yi ts with | some k=> .ok (.bl k) | none=> .bad
 | _=> .bad
theorem vp:∀ {H:Hp} {xs:List V} {ts:List T} {its:List Value} {k:Bool},zR H xs ts->ZB xs its->Yi ts=some k->∃ tr:Nat->Bool,(∀ i v,its[i]? =some v->v=Value.bool (tr i))/\(List.range its.length).all tr=k
 | _,_,_,_,k, .nil, .nil,h=>by
  have h' :some true=some k:=h
  cases h'
  exact ⟨fun _=>true,fun i v e=>by simp at e,rfl⟩
 | H,_,_,_,k, .cons (v:=x) (t:=t) r rs, .cons (b:=u) rv vs,h=>by
  cases r with
  | bl b=>
   unfold Yi at h
   split at h
   ·rename_i j e
    cases h
    obtain ⟨tr,h1,h2⟩:=vp rs vs e
    obtain rfl:u=Value.bool b:=rv
    refine ⟨fun i=>match i with | 0=>b | i+1=>tr i,fun i v e=> ?_, ?_⟩
    ·cases i with
     | zero=>simp at e; exact e.symm
     | succ i=>exact h1 i v (by simpa using e)
    ·rw [List.length_cons,List.range_succ_eq_map,List.all_cons,List.all_map,← h2]
     rfl
   ·cases h
  | _=>cases h
theorem vq (hh:X.A.handled=none):Jq X (.builtin "all") (fun vs H Q=>∃ l xs ts k,vs=[.ref l]/\H l=some (.lst xs)/\zR H xs ts/\Yi ts=some k/\Q (.bl k) H):=by
 intro pins s σ H vs us Q I rv h
 obtain ⟨l,xs,ts,k,rfl,hl,r,hk,q⟩:=h
 obtain ⟨u,rfl,ru⟩:=wD rv
 obtain rfl:u=Value.ref l:=ru
 obtain ⟨its,rv,p,_⟩:=Zl I (.inl hl) r
 obtain ⟨tr,h1,h2⟩:=vp r rv hk
 refine call_all_walk (wpAny_pyIter_list p ?_)
 have hlt:l < s.heap.objs.size:=I.hok.lt hl
 have old:∀ b o,s.heap.get? b=some o->(s.heap.push { cls:= .type "list_iterator",data:= .fields #[.ref l, .int 0 0] }).get? b=some o:=fun b o e=>Heap.get?_push_of_some _ e
 refine ⟨s.heap.objs.size,_,_,_,_,_,tr,rfl,Walks.list (A:=X.A.in1) hh s.heap.objs.size l (Nat.ne_of_lt hlt) its.toArray, ?_, ?_,fun h' tk hk' => ?_⟩
 ·refine ⟨?_,p.at fun o e=>old _ o e⟩
  exact ⟨_,Heap.get?_push_size _ rfl,rfl,rfl⟩
 ·intro i v s' Q' E' hi hq
  rw [h1 i v (by simpa using hi)]
  exact wpAny_truthy_bool hq
 ·rw [List.size_toArray,h2]
  refine ⟨.bl k,H,I.kept (t' :=tk) (fun b o e=>hk' b o ?_ (old b o e)),rfl,q⟩
  simp
  exact Nat.ne_of_lt (Heap.lt_size e)
theorem xp (hh:X.A.handled=none) (gl:Gl X "all") (mg:X.mg "all"=none) (ha:W7 X Y a fa) (hs:St1 X a:=by exact st1 rfl):Snd X Y (.Call (.Name "all" p) [a] [] pos) (ap1 Xf fa):=
 vg (vq hh) (fun v t B H Q r sB q=>by
  cases r with
  | @lst l xs ts h r=>
   have q:Po Y rC B H (match Yi ts with | some k=> .ok (.bl k) | none=> .bad) Q:=q
   split at q
   ·rename_i k e
    exact ⟨l,xs,ts,k,rfl,h,r,e,po0 sB q rfl (.bl k)⟩
   ·exact q.elim
  | _=>exact q.elim) gl mg PyProof.Rows.Boot.«all» ha hs
end
end PV
namespace PV
open PySem PySem.Spec PyProof.Rows L2
inductive RS where
 | nx (ρ:En) | rt (t:T) | bk (ρ:En) | ct (ρ:En) | ex (c:Nat) | bad | rf (ts:List T)
noncomputable def R.s {α:Type} (r:R α) (k:α->RS):RS:=match r with
 | .ok a=>k a
 | .ex c=> .ex c
 | .bad=> .bad
noncomputable def PoS (Y:Fx) (B:Hp) (r:RS) (D:X3):Prop:=match r with
 | .nx ρ' =>∀ σ' H' B',zJ B B' ->SI Y B' ρ' σ' H' ->D.nx σ' H'
 | .rt t=>∀ v H',zJ Y.H0 H' ->Rep (Zf Y.B0 Y.H0 H') v t->D.rt v H'
 | .bk ρ' =>∀ σ' H' B',zJ B B' ->SI Y B' ρ' σ' H' ->D.bk σ' H'
 | .ct ρ' =>∀ σ' H' B',zJ B B' ->SI Y B' ρ' σ' H' ->D.ct σ' H'
 | .ex c=>XP Y B c
 | .bad=>False
 | .rf ts=>∀ a xs H' B',zJ Y.H0 H' ->Y.H0 a=none->H' a=some (.lst xs)->zR B' xs ts->B' a=none->zJ B' (Zf Y.B0 Y.H0 H')->D.rt (.ref a) H'
theorem PoS.up {Y:Fx} {B B' :Hp} {r:RS} {D:X3} (s:zJ B B') (h:PoS Y B r D):PoS Y B' r D:=by
 cases r with
 | nx ρ=>exact fun σ' H' B2 s2 I=>h σ' H' B2 (s.trans s2) I
 | bk ρ=>exact fun σ' H' B2 s2 I=>h σ' H' B2 (s.trans s2) I
 | ct ρ=>exact fun σ' H' B2 s2 I=>h σ' H' B2 (s.trans s2) I
 | rt t=>exact h
 | rf t=>exact h
 | ex c=>exact fun d H' s0 sB=>h d H' s0 (s.trans sB)
 | bad=>exact h
noncomputable def tSS (Y:Fx) (f:En->RS) (ρ:En):TS:=fun D σ H=>∃ B,SI Y B ρ σ H/\PoS Y B (f ρ) D
structure ye (X:Cx) (Y:Fx) (e:Stmt) (f:En->RS):Prop where
 mk ::
 go:∀ ρ,PS X e (tSS Y f ρ)
noncomputable instance {X:Cx} {Y:Fx} {e:Stmt} {f:En->RS}:CoeFun (ye X Y e f) fun _=>∀ ρ,PS X e (tSS Y f ρ):=⟨ye.go⟩
structure Qx (X:Cx) (Y:Fx) (e:List Stmt) (f:En->RS):Prop where
 mk ::
 go:∀ ρ,PSs X e (tSS Y f ρ)
noncomputable instance {X:Cx} {Y:Fx} {e:List Stmt} {f:En->RS}:CoeFun (Qx X Y e f) fun _=>∀ ρ,PSs X e (tSS Y f ρ):=⟨Qx.go⟩
theorem ud {α β:Type} {Y:Fx} {rel:Hp->Hp->β->α->Prop} {f:En->R α} {k:α->RS} {ρ:En} {B:Hp} {σ:Sg} {H:Hp} {D:X3} {K:β->Hp->Prop}
  (I:SI Y B ρ σ H) (h:PoS Y B ((f ρ).s k) D)
  (n:∀ a b H1,f ρ= .ok a->zJ H H1->rel (Zf B H H1) H1 b a->SI Y (Zf B H H1) ρ σ H1->PoS Y (Zf B H H1) (k a) D->K b H1):tS Y rel f ρ σ H K:=by
 refine ⟨B,I, ?_⟩
 cases e:f ρ with
 | bad=>rw [e] at h; exact h
 | ex c=>rw [e] at h; exact h
 | ok a=>
  rw [e] at h
  exact fun b H1 s r=>n a b H1 e s r (I.grow s) (PoS.up (Zf.ge I.sB s) h)
theorem Zm {α:Type} {xs:List α} {i j:Nat} {x y:α} (h:(xs.set i x)[j]? =some y):(j=i/\y=x)\/(j ≠ i/\xs[j]? =some y):=by
 by_cases e:j=i
 ·subst e
  by_cases hl:j < xs.length
  ·rw [List.getElem?_set_self hl] at h; exact .inl ⟨rfl,(Option.some.inj h).symm⟩
  ·rw [List.getElem?_eq_none (by rw [List.length_set]; omega)] at h; cases h
 ·rw [List.getElem?_set_ne (Ne.symm e)] at h; exact .inr ⟨e,h⟩
theorem vt {α:Type} {xs:List α} {i:Nat} {x y:α} (h:(xs.set i x)[i]? =some y):i < xs.length:=by
 by_cases hl:i < xs.length
 ·exact hl
 ·rw [List.getElem?_eq_none (by rw [List.length_set]; omega)] at h; cases h
theorem SI.setV {Y:Fx} {B:Hp} {ρ:En} {σ:Sg} {H:Hp} (I:SI Y B ρ σ H) (i:Nat) {v:V} {t:T} (r:Rep B v t):SI Y B (ρ.set i (.vl t)) (σ.set i (some v)) H where
 s0:=I.s0
 sH:=I.sH
 sB:=I.sB
 old:=I.old
 len:=by rw [List.length_set,List.length_set]; exact I.len
 vl:=fun j u h=>by
  rcases Zm h with ⟨rfl,e⟩ | ⟨hj,h'⟩
  ·cases e
   exact ⟨v,List.getElem?_set_self (by rw [← I.len]; exact vt h),r⟩
  ·obtain ⟨w,e,rr⟩:=I.vl j u h'
   exact ⟨w,by rw [List.getElem?_set_ne (Ne.symm hj)]; exact e,rr⟩
 ow:=fun j us h=>by
  rcases Zm h with ⟨rfl,e⟩ | ⟨hj,h'⟩
  ·cases e
  ·obtain ⟨a,xs,e,b0,h0,hh,rr,d⟩:=I.ow j us h'
   refine ⟨a,xs,by rw [List.getElem?_set_ne (Ne.symm hj)]; exact e,b0,h0,hh,rr,fun k ws hk hw=> ?_⟩
   rcases Zm hw with ⟨rfl,e'⟩ | ⟨hk',hw'⟩
   ·cases e'
   ·rw [List.getElem?_set_ne (Ne.symm hk')]; exact d k ws hk hw'
 xc:=fun j c h=>by
  rcases Zm h with ⟨rfl,e⟩ | ⟨hj,h'⟩
  ·cases e
  ·obtain ⟨a,e,r⟩:=I.xc j c h'
   exact ⟨a,by rw [List.getElem?_set_ne (Ne.symm hj)]; exact e,r⟩
theorem SI.newO {Y:Fx} {B:Hp} {ρ:En} {σ:Sg} {H:Hp} (I:SI Y B ρ σ H) (i:Nat) {p:Addr} {xs:List V} {ts:List T} (hp:H p=none) (r:zR B xs ts):SI Y B (ρ.set i (.ow ts)) (σ.set i (some (.ref p))) (upd H p (.lst xs)) where
 s0:=I.s0
 sH:=I.sH.trans (zJ.new hp _)
 sB:=I.sB.trans (zJ.new hp _)
 old:=I.old
 len:=by rw [List.length_set,List.length_set]; exact I.len
 vl:=fun j u h=>by
  rcases Zm h with ⟨rfl,e⟩ | ⟨hj,h'⟩
  ·cases e
  ·obtain ⟨w,e,rr⟩:=I.vl j u h'
   exact ⟨w,by rw [List.getElem?_set_ne (Ne.symm hj)]; exact e,rr⟩
 ow:=fun j us h=>by
  have op:∀ k ws a,ρ[k]? =some (Sl.ow ws)->σ[k]? =some (some (V.ref a))->a ≠ p:=fun k ws a h1 h2=>by
   obtain ⟨a',xs',e,_,_,hh,_⟩:=I.ow k ws h1
   rw [e] at h2; cases h2
   exact Z0 hh hp
  rcases Zm h with ⟨rfl,e⟩ | ⟨hj,h'⟩
  ·cases e
   refine ⟨p,xs,List.getElem?_set_self (by rw [← I.len]; exact vt h),I.sB.free hp,I.sH.free hp,Zv,r,fun k ws hk hw=> ?_⟩
   rcases Zm hw with ⟨rfl,e'⟩ | ⟨hk',hw'⟩
   ·exact absurd rfl hk
   ·rw [List.getElem?_set_ne (Ne.symm hk')]
    exact fun z=>op k ws p hw' z rfl
  ·obtain ⟨a,xs',e,b0,h0,hh,rr,d⟩:=I.ow j us h'
   refine ⟨a,xs',by rw [List.getElem?_set_ne (Ne.symm hj)]; exact e,b0,h0,by rw [zI (op j us a h' e)]; exact hh,rr,fun k ws hk hw=> ?_⟩
   rcases Zm hw with ⟨rfl,e'⟩ | ⟨hk',hw'⟩
   ·rw [List.getElem?_set_self (by rw [← I.len]; exact vt hw)]
    intro z
    exact op j us a h' e (by injection z with z; injection z with z; injection z with z; exact z.symm)
   ·rw [List.getElem?_set_ne (Ne.symm hk')]; exact d k ws hk hw'
 xc:=fun j c h=>by
  rcases Zm h with ⟨rfl,e⟩ | ⟨hj,h'⟩
  ·cases e
  ·obtain ⟨a,e,r⟩:=I.xc j c h'
   exact ⟨a,by rw [List.getElem?_set_ne (Ne.symm hj)]; exact e,r⟩
theorem SI.chg {Y:Fx} {B:Hp} {ρ:En} {σ:Sg} {H:Hp} (I:SI Y B ρ σ H) (i:Nat) {p:Addr} {ts us:List T} {ys:List V} (hi:ρ[i]? =some (.ow ts)) (he:σ[i]? =some (some (.ref p))) (r:zR B ys us):SI Y B (ρ.set i (.ow us)) σ (upd H p (.lst ys)):=by
 obtain ⟨p',xs,e,b0,h0,hh,rr,d⟩:=I.ow i ts hi
 rw [he] at e
 cases e
 have nb:∀ b o,B b=some o->b ≠ p:=fun b o h z=>by subst z; rw [b0] at h; cases h
 have n0:∀ b o,Y.H0 b=some o->b ≠ p:=fun b o h z=>by subst z; rw [h0] at h; cases h
 refine ⟨I.s0,fun b o h=>by rw [zI (n0 b o h)]; exact I.sH b o h,fun b o h=>by rw [zI (nb b o h)]; exact I.sB b o h,I.old,by rw [List.length_set]; exact I.len,fun j u h=> ?_,fun j ws h=> ?_,fun j c h=> ?_⟩
 rotate_right
 ·rcases Zm h with ⟨rfl,z⟩ | ⟨hj,h'⟩
  ·cases z
  ·exact I.xc j c h'
 ·rcases Zm h with ⟨rfl,z⟩ | ⟨hj,h'⟩
  ·cases z
  ·exact I.vl j u h'
 ·rcases Zm h with ⟨rfl,z⟩ | ⟨hj,h'⟩
  ·cases z
   refine ⟨p,ys,he,b0,h0,Zv,r,fun k vs hk hw=> ?_⟩
   rcases Zm hw with ⟨rfl,e'⟩ | ⟨hk',hw'⟩
   ·exact absurd rfl hk
   ·exact d k vs hk hw'
  ·obtain ⟨a,xs',e,c0,g0,gg,ss,d'⟩:=I.ow j ws h'
   have hne:a ≠ p:=fun z=>by subst z; exact d j ws hj h' e
   refine ⟨a,xs',e,c0,g0,by rw [zI hne]; exact gg,ss,fun k vs hk hw=> ?_⟩
   rcases Zm hw with ⟨rfl,e'⟩ | ⟨hk',hw'⟩
   ·rw [he]; intro z; injection z with z; injection z with z; injection z with z; exact hne z.symm
   ·exact d' k vs hk hw'
noncomputable def Xg:Sl->Sl
 | .ow ts=> .vl (.lst ts)
 | x=>x
noncomputable def frz (ρ:En):En:=ρ.map Xg
theorem SI.up {Y:Fx} {B:Hp} {ρ:En} {σ:Sg} {H:Hp} (I:SI Y B ρ σ H):zJ B (Zf B Y.H0 H):=fun b o h=>by
 cases q:Y.H0 b with
 | none=>rw [jb q]; exact I.sB b o h
 | some u=>rw [jc q]; exact h
theorem SI.frz {Y:Fx} {B:Hp} {ρ:En} {σ:Sg} {H:Hp} (I:SI Y B ρ σ H):SI Y (Zf B Y.H0 H) (PV.frz ρ) σ H:=by
 have up:zJ B (Zf B Y.H0 H):=fun b o h=>by
  cases q:Y.H0 b with
  | none=>rw [jb q]; exact I.sB b o h
  | some u=>rw [jc q]; exact h
 refine ⟨I.s0,I.sH,fun b o h=> ?_,fun b o h=>by rw [jc h]; exact I.old b o h,by unfold PV.frz; rw [List.length_map]; exact I.len,fun j t h=> ?_,fun j ts h=> ?_,fun j c h=> ?_⟩
 rotate_right
 ·unfold PV.frz at h
  rw [List.getElem?_map] at h
  cases e:ρ[j]? with
  | none=>rw [e] at h; cases h
  | some x=>
   rw [e] at h
   cases x with
   | xc d=>
    cases h
    obtain ⟨a,e1,r⟩:=I.xc j _ e
    exact ⟨a,e1,up a _ r⟩
   | un=>cases h
   | vl _=>cases h
   | ow _=>cases h
 ·cases q:Y.H0 b with
  | none=>rw [jb q] at h; exact h
  | some u=>rw [jc q] at h; exact I.sB b o h
 ·unfold PV.frz at h
  rw [List.getElem?_map] at h
  cases e:ρ[j]? with
  | none=>rw [e] at h; cases h
  | some x=>
   rw [e] at h
   cases x with
   | un=>cases h
   | vl u=>
    cases h
    obtain ⟨v,e1,r⟩:=I.vl j _ e
    exact ⟨v,e1,r.mono up⟩
   | ow us=>
    cases h
    obtain ⟨a,xs,e1,b0,h0,hh,rr,_⟩:=I.ow j us e
    exact ⟨.ref a,e1, .lst (by rw [jb h0]; exact hh) (rr.mono up)⟩
   | xc _=>cases h
 ·unfold PV.frz at h
  rw [List.getElem?_map] at h
  cases e:ρ[j]? with
  | none=>rw [e] at h; cases h
  | some x=>
   rw [e] at h
   cases x with
   | un=>cases h
   | vl u=>cases h
   | ow us=>cases h
   | xc _=>cases h
theorem Xh {Y:Fx} {B H H' :Hp} (s0:zJ Y.H0 H) (old:∀ b o,Y.H0 b=some o->B b=Y.B0 b) (s:zJ H H') (sB:zJ B H):zJ (Zf B H H') (Zf Y.B0 Y.H0 H'):=fun b o h=>by
 cases q:H b with
 | none=>
  rw [jb q] at h
  rw [jb (s0.free q)]; exact h
 | some u=>
  rw [jc q] at h
  cases z:Y.H0 b with
  | none=>rw [jb z]; exact s b o (sB b o h)
  | some w=>rw [jc z,← old b w z]; exact h
section
variable {X:Cx} {Y:Fx} {a b c d:Expr} {fa fb fc fd:En->R T} {pos p:Pos} {st:Stmt} {sts sts' :List Stmt} {f g:En->RS}
noncomputable def nxS:En->RS:=fun ρ=> .nx ρ
noncomputable def zL (f g:En->RS):En->RS:=fun ρ=>match f ρ with
 | .nx ρ' =>g ρ'
 | r=>r
theorem Z9:Qx X Y [] nxS:= .mk fun ρ=>PSs.imp XM fun D σ H ⟨B,I,q⟩=>q σ H B (zJ.refl B) I
theorem zn (h:ye X Y st f):Qx X Y [st] f:= .mk fun ρ=>XN (h ρ)
theorem zi (h1:ye X Y st f) (h2:Qx X Y sts g):Qx X Y (st :: sts) (zL f g):= .mk fun ρ=>by
 refine PSs.imp (VU (u:=fun D σ H=>∃ ρ',tSS Y g ρ' D σ H) (h1 ρ) ?_) ?_
 ·intro pins s σ H D I ⟨ρ',q⟩
  exact h2 ρ' pins s σ H D I q
 ·intro D σ H ⟨B,I,q⟩
  refine ⟨B,I, ?_⟩
  unfold zL at q
  cases e:f ρ with
  | nx ρ' =>
   rw [e] at q
   intro σ' H' B' s' I'
   exact ⟨ρ',B',I',PoS.up s' q⟩
  | rt t=>rw [e] at q; exact q
  | rf t=>rw [e] at q; exact q
  | bk ρ' =>rw [e] at q; exact q
  | ct ρ' =>rw [e] at q; exact q
  | ex c=>rw [e] at q; exact q
  | bad=>rw [e] at q; exact q
noncomputable def ZC (i:Nat) (fa:En->R T):En->RS:=fun ρ=>(fa ρ).s fun t=> .nx (ρ.set i (.vl t))
theorem ZT {i:Nat} {x:Str} {p' :Pos} (hN:X.N.Nodup) (hi:X.N[i]? =some x) (hx:L2.Loc X.env.scope x) (ha:Snd X Y a fa) (hs:swapsWith a (some (.Name x p')) pos.line X.env=pure false:=by rfl)
  (hf:X.fn x=true\/X.env.scope.names.lookup x=some .local:=by first | exact .inl rfl | exact .inr rfl | assumption):ye X Y (.Assign [.Name x p'] a pos) (ZC i fa):= .mk fun ρ=>
 PS.imp (QC hN hi hx (ha ρ) hs hf) fun D σ H ⟨B,I,q⟩=>ud I q fun t v H1 _ s1 r1 I1 q1=>q1 _ _ _ (zJ.refl _) (I1.setV i r1)
noncomputable def VN (i:Nat) (ga:En->R (List T)):En->RS:=fun ρ=>(ga ρ).s fun ts=>if ts.length<=bnd then .nx (ρ.set i (.ow ts)) else .bad
theorem qg {i:Nat} {x:Str} {p' :Pos} {es:List Expr} {ga:En->R (List T)} (hN:X.N.Nodup) (hi:X.N[i]? =some x) (hx:L2.Loc X.env.scope x) (ha:Yq X Y es ga) (hs:swapsWith (.List es p) (some (.Name x p')) pos.line X.env=pure false:=by rfl)
  (hf:X.fn x=true\/X.env.scope.names.lookup x=some .local:=by first | exact .inl rfl | exact .inr rfl | assumption):ye X Y (.Assign [.Name x p'] (.List es p) pos) (VN i ga):= .mk fun ρ=>
 PS.imp (QC hN hi hx (X7 (ha ρ)) hs hf) fun D σ H ⟨B,I,q⟩=>ud I q fun ts vs H1 _ s1 r1 I1 q1=>by
  split at q1
  ·rename_i hb
   exact ⟨by rw [r1.length]; exact J9 hb,fun p hp=>q1 _ _ _ (zJ.refl _) (I1.newO i hp r1)⟩
  ·exact q1.elim
noncomputable def Zb (fa:En->R T):En->RS:=fun ρ=>(fa (frz ρ)).s fun t=> .rt t
theorem zz (ha:Snd X Y a fa):ye X Y (.Return (some a) pos) (Zb fa):= .mk fun ρ=>
 PS.imp (X5 (ha (frz ρ))) fun D σ H ⟨B,I,q⟩=>by
  refine ⟨_,I.frz, ?_⟩
  unfold Zb at q
  cases e:fa (frz ρ) with
  | bad=>rw [e] at q; exact q
  | ex c=>
   rw [e] at q
   exact fun d H' s0 sG=>q d H' s0 (I.up.trans sG)
  | ok t=>
   rw [e] at q
   intro v H' s r
   have J:=I.frz
   exact q v H' (I.sH.trans s) (r.mono (Xh J.sH J.old s J.sB))
noncomputable def ifS (g:En->R Bool) (f1 f2:En->RS):En->RS:=fun ρ=>(g ρ).s fun k=>if k=true then f1 ρ else f2 ρ
theorem Za {ga:En->R Bool} (hc:qX X Y c ga) (h1:Qx X Y sts f) (h2:Qx X Y sts' g):ye X Y (.If c sts sts' pos) (ifS ga f g):= .mk fun ρ=>
 PS.imp (GH (hc ρ) (h1 ρ) (h2 ρ)) fun D σ H ⟨B,I,q⟩=>ud I q fun t v H1 _ s1 r1 I1 q1=>by
  have r1' :v=t:=r1
  subst r1'
  cases v with
  | true=>exact ⟨_,I1,q1⟩
  | false=>exact ⟨_,I1,q1⟩
noncomputable def WM (fa:En->R T):En->RS:=fun ρ=>(fa ρ).s fun _=> .nx ρ
theorem Ws (ha:Snd X Y a fa) (hs:swapsWith a none pos.line X.env=pure false:=by rfl):ye X Y (.Expr a pos) (WM fa):= .mk fun ρ=>
 PS.imp (Yn (ha ρ) hs) fun D σ H ⟨B,I,q⟩=>ud I q fun t v H1 _ s1 r1 I1 q1=>q1 _ _ _ (zJ.refl _) I1
noncomputable def xr (i:Nat) (fa:En->R T):En->RS:=fun ρ=>match ρ[i]? with
 | some (.ow ts)=>(fa ρ).s fun t=>if ts.length < bnd then .nx (ρ.set i (.ow (ts++[t]))) else .bad
 | _=> .bad
noncomputable def Km (i:Nat) (fa:En->R T):En->RS:=fun ρ=>match ρ[i]? with
 | some (.ow ts)=>(fa ρ).s fun t=>match t with
  | .lst us=>if ts.length+us.length<=bnd then .nx (ρ.set i (.ow (ts++us))) else .bad
  | _=> .bad
 | _=> .bad
theorem gm {n:Nat} (h:n < bnd):n < sizeLine:=by rw [sizeLine_eq]; exact h
theorem gp {i:Nat} {x:Str} {px pa:Pos} (hv:PE X (.Name x px) (XI i)) (ha:Snd X Y a fa) (hb:attributeBase (.Name x px) "append" X.env (eval (.Name x px) X.env)=eval (.Name x px) X.env:=by rfl) (hs:St1 X a:=by exact st1 rfl)
  (hz:(pa.endLine == p.line)=true:=by rfl) (hw:swapsWith (.Call (.Attribute (.Name x px) "append" pa) [a] [] p) none pos.line X.env=pure false:=by rfl):ye X Y (.Expr (.Call (.Attribute (.Name x px) "append" pa) [a] [] p) pos) (xr i fa):= .mk fun ρ=>by
 have e1:(((((backTo p (starEach [a] X.env)).all fun x=> !x.fst) && (backToKw p (keywordEach [] X.env)).all fun x=>x.fst.isSome) && decide (([a].length+([]:List Keyword).length+if ([]:List Keyword).isEmpty=true then 0 else 1) < 30))=true):=by rw [hs]; rfl
 refine PS.imp (Yn (x8 PySem.F.plainAttrs_list PySem.F.slot_list_append PySem.F.type_list_append yr hv (zS (ha ρ) ja hs) hb e1 hz hs rfl) hw) fun D σ H ⟨B,I,q⟩=> ?_
 unfold xr at q
 split at q
 ·rename_i ts e
  obtain ⟨l,xs,e1,b0,h0,hh,rr,d⟩:=I.ow i ts e
  refine ⟨.ref l,e1, .inl ⟨rfl,_,SqL.of hh⟩, ?_⟩
  refine ud I q fun t v H1 _ s1 r1 I1 q1=> ?_
  split at q1
  ·rename_i hb
   refine ⟨l,xs,v,rfl,rfl,s1 _ _ hh,by rw [rr.length]; exact gm hb, ?_⟩
   exact q1 _ _ _ (zJ.refl _) (I1.chg i e e1 ((rr.mono (Zf.ge I.sB s1)).append (.cons r1 .nil)))
  ·exact q1.elim
 ·exact q.elim
theorem gq {i:Nat} {x:Str} {px pa:Pos} (hv:PE X (.Name x px) (XI i)) (ha:Snd X Y a fa) (hb:attributeBase (.Name x px) "extend" X.env (eval (.Name x px) X.env)=eval (.Name x px) X.env:=by rfl) (hs:St1 X a:=by exact st1 rfl)
  (hz:(pa.endLine == p.line)=true:=by rfl) (hw:swapsWith (.Call (.Attribute (.Name x px) "extend" pa) [a] [] p) none pos.line X.env=pure false:=by rfl):ye X Y (.Expr (.Call (.Attribute (.Name x px) "extend" pa) [a] [] p) pos) (Km i fa):= .mk fun ρ=>by
 have e1:(((((backTo p (starEach [a] X.env)).all fun x=> !x.fst) && (backToKw p (keywordEach [] X.env)).all fun x=>x.fst.isSome) && decide (([a].length+([]:List Keyword).length+if ([]:List Keyword).isEmpty=true then 0 else 1) < 30))=true):=by rw [hs]; rfl
 refine PS.imp (Yn (x8 PySem.F.plainAttrs_list PySem.F.slot_list_extend PySem.F.type_list_extend QQ hv (zS (ha ρ) ja hs) hb e1 hz hs rfl) hw) fun D σ H ⟨B,I,q⟩=> ?_
 unfold Km at q
 split at q
 ·rename_i ts e
  obtain ⟨l,xs,e1,b0,h0,hh,rr,d⟩:=I.ow i ts e
  refine ⟨.ref l,e1, .inl ⟨rfl,_,SqL.of hh⟩, ?_⟩
  refine ud I q fun t v H1 _ s1 r1 I1 q1=> ?_
  cases r1 with
  | @lst b zs us hb r=>
   have q1:PoS Y _ (if ts.length+us.length<=bnd then .nx (ρ.set i (.ow (ts++us))) else .bad) D:=q1
   split at q1
   ·rename_i hl
    refine ⟨l,b,xs,zs,rfl,rfl,s1 _ _ hh,I1.sB _ _ hb,by rw [rr.length,r.length]; exact J9 hl, ?_⟩
    exact q1 _ _ _ (zJ.refl _) (I1.chg i e e1 ((rr.mono (Zf.ge I.sB s1)).append r))
   ·exact q1.elim
  | _=>exact q1.elim
 ·exact q.elim
end
end PV
namespace PV
open PySem PySem.Spec PyProof.Rows L2
noncomputable def spP (cl:Nat->Value) (n:Nat) (g:List T->R T):Sp:=fun vs H Q E=>∃ B ts,ts.length=n/\zJ B H/\zR B vs ts/\Po ⟨B,H,E,cl⟩ rC B H (g ts) Q
theorem spP.len {cl:Nat->Value} {n:Nat} {g:List T->R T} (vs:List V) (H:Hp) (Q:VK) (E:XK) (h:spP cl n g vs H Q E):vs.length=n:=by
 obtain ⟨B,ts,hl,_,r,_⟩:=h
 rw [r.length,hl]
noncomputable def zc (n:Nat) (g:List T->R T) (ga:En->R (List T)):En->R T:=fun ρ=>(ga ρ).bind fun ts=>if ts.length=n then g ts else .bad
section
variable {X:Cx} {Y:Fx} {a b c d:Expr} {fa fb fc fd:En->R T} {pos p:Pos}
theorem Xi {CX:CXT} {k n:Nat} {f:Addr} {fd:FuncData} {ps:List Str} {g:List T->R T} {x:Str} {es:List Expr} {ga:En->R (List T)} (F:jj X.prog X.w X.K X.mg X.base CX k f fd ps (spP Y.cl n g)) (hr:WH k X.A) (gl:Gl X x) (mg:X.mg x=some (.ref f))
  (kp:PySem.W.keepIn X.K (.ref f)=true) (bd:L2.Binds X.K fd ps []) (hx:u9 CX X Y.E) (ha:Yq X Y (a :: es) ga) (hd:(x == ("__debug__":Str))=false:=by decide)
  (hs:starEach (a :: es) X.env=(false,eval a X.env) :: starEach es X.env:=by exact ZD rfl) (hz:((backTo pos (starEach es X.env)).any fun x=>x.fst)=false:=by exact JH rfl):Snd X Y (.Call (.Name x p) (a :: es) [] pos) (zc n g ga):= .mk fun ρ=>
 PE.imp (XT F hr gl mg kp bd .nil hx (ha ρ) hd hs hz) fun σ H Q ⟨B,I,q⟩=>step I q fun ts vs H1 _ s1 r1 I1 q1=>by
  split at q1
  ·rename_i hn
   rw [List.append_nil]
   refine ⟨_,ts,hn,I1.sB,r1, ?_⟩
   revert q1
   cases g ts with
   | bad=>exact fun q1=>q1
   | ex c=>exact fun q1 d H' s sB=>q1 d H' (I1.sH.trans s) sB
   | ok t=>exact fun q1=>q1
  ·exact q1.elim
end
noncomputable def zp:RS->R T
 | .rt t=> .ok t
 | .rf ts=> .ok (.lst ts)
 | .nx _=> .ok .non
 | .ex c=> .ex c
 | _=> .bad
noncomputable def en0 (n:Nat) (ts:List T):En:=ts.map Sl.vl++List.replicate (n - ts.length) Sl.un
theorem zR.vl {H:Hp}:∀ {vs:List V} {ts:List T} {i:Nat} {t:T} {n m:Nat},zR H vs ts->(ts.map Sl.vl++List.replicate n Sl.un)[i]? =some (Sl.vl t)->∃ v:V,(vs.map some++List.replicate m none)[i]? =some (some v)/\Rep H v t
 | _,_,i,t,n,m, .nil,h=>by
  exfalso
  simp only [List.map_nil,List.nil_append] at h
  rw [List.getElem?_replicate] at h
  split at h
  ·cases h
  ·cases h
 | _,_,0,t,n,m, .cons r _,h=>by
  simp at h; subst h; exact ⟨_,rfl,r⟩
 | _,_,i+1,t,n,m, .cons _ q,h=>by
  obtain ⟨v,h1,h2⟩:=zR.vl (i:=i) (t:=t) (n:=n) (m:=m) q (by simpa using h)
  exact ⟨v,by simpa using h1,h2⟩
theorem Xj {n:Nat}:∀ {ts:List T} {i:Nat} {us:List T},(ts.map Sl.vl++List.replicate n Sl.un)[i]? =some (Sl.ow us)->False
 | [],i,us,h=>by
  simp only [List.map_nil,List.nil_append] at h
  rw [List.getElem?_replicate] at h
  split at h
  ·cases h
  ·cases h
 | t :: ts,0,us,h=>by simp at h
 | t :: ts,i+1,us,h=>Xj (ts:=ts) (i:=i) (us:=us) (n:=n) (by simpa using h)
theorem Xk {n:Nat}:∀ {ts:List T} {i:Nat} {c:Nat},(ts.map Sl.vl++List.replicate n Sl.un)[i]? =some (Sl.xc c)->False
 | [],i,us,h=>by
  simp only [List.map_nil,List.nil_append] at h
  rw [List.getElem?_replicate] at h
  split at h
  ·cases h
  ·cases h
 | t :: ts,0,us,h=>by simp at h
 | t :: ts,i+1,us,h=>Xk (ts:=ts) (i:=i) (c:=us) (n:=n) (by simpa using h)
theorem SI.start {Y:Fx} {N:List Str} {vs:List V} {ts:List T} (s:zJ Y.B0 Y.H0) (r:zR Y.B0 vs ts):SI Y Y.B0 (en0 N.length ts) (L2.start N vs) Y.H0 where
 s0:=s
 sH:=zJ.refl _
 sB:=s
 old:=fun _ _ _=>rfl
 len:=by unfold en0 L2.start; simp [r.length]
 vl:=fun i t h=>r.vl h
 ow:=fun i ts h=>(Xj h).elim
 xc:=fun i c h=>(Xk h).elim
section
variable {P:Program} {w:World} {K:PySem.W.Frag} {mg:Str->Option Value} {base:Heap}
theorem j7 {cl:Nat->Value} {x qual:Str} {st:Stmt} {f:Addr} {fd:FuncData} {N ps:List Str} {k n:Nat} {fb:En->RS} {g:List T->R T} (F:Fun K x qual st f fd) (S:zo N ps (ze st)) (hn:n=ps.length)
  (hb:∀ (cdv:Value) (A:Around) (outer:List Env) (s:Shared) (H:Hp) (E:XK) (Y:Fx),Y.cl=cl->WH k (A.deeper (envOfC qual (ze st) s.heap.objs.size f cdv))->
   Qx (uS CX0 P w K mg base N qual (ze st) f cdv A outer s H E).nox Y (jB st) fb)
  (hg:∀ ts,ts.length=n->g ts=zp (fb (en0 N.length ts))):jj P w K mg base CX0 (k+1) f fd ps (spP cl n g):=by
 subst hn
 refine F.ok S spP.len fun cdv A outer s H vs Q E hr ⟨B,ts,hl,sB,r,q⟩=> ?_
 refine ⟨_,hb cdv A outer s H E ⟨B,H,E,cl⟩ rfl hr (en0 N.length ts),B,SI.start (Y:=⟨B,H,E,cl⟩) sB r, ?_⟩
 rw [hg ts hl] at q
 revert q
 cases fb (en0 N.length ts) with
 | rt t=>exact fun q v H' s r=>q v H' s r
 | rf t=>exact fun q a xs H' B' s0 n e r _ l=>q (.ref a) H' s0 (.lst (by rw [jb n]; exact e) (r.mono l))
 | nx ρ=>exact fun q σ' H' B' _ I=>q .non H' I.sH .non
 | ex c=>exact fun q=>q
 | bk ρ=>exact fun q=>q.elim
 | ct ρ=>exact fun q=>q.elim
 | bad=>exact fun q=>q
end
noncomputable abbrev rI:Hp->Hp->It->List T->Prop:=fun B1 _ J ts=>∀ B2 H2,zJ B1 B2->zJ B2 H2->(∀ i,i < ts.length->J.go i H2)/\(∀ (i:Nat) t x H3,ts[i]? =some t->J.yld i H2 x H3->zJ H2 H3/\Rep (Zf B2 H2 H3) x t)/\(∀ i,ts.length<=i->J.stop i H2)
structure vv (X:Cx) (Y:Fx) (tg iter:Expr) (f:En->R (List T)):Prop where
 mk ::
 go:∀ ρ,PI X tg iter (tS Y rI f ρ)
noncomputable instance {X:Cx} {Y:Fx} {tg iter:Expr} {f:En->R (List T)}:CoeFun (vv X Y tg iter f) fun _=>∀ ρ,PI X tg iter (tS Y rI f ρ):=⟨vv.go⟩
section
variable {X:Cx} {Y:Fx} {a b c d tg:Expr} {fa fb fc fd:En->R T} {pos p:Pos}
theorem PI.imp {e:Expr} {t t' :TI} (h:PI X tg e t) (i:∀ σ H Q,t' σ H Q->t σ H Q):PI X tg e t' :=fun pins s σ H Q I q=>h pins s σ H Q I (i σ H Q q)
theorem gr {K:PySem.W.Frag} {B1 H1:Hp} {a:Addr} {xs:List V} {ts:List T} (h:B1 a=some (.tup xs)) (r:zR B1 xs ts):rI B1 H1 (Itt K a) ts:=fun B2 H2 s1 s2=>by
 have h2:=s2 _ _ (s1 _ _ h)
 refine ⟨fun i hi=> ?_,fun i t x H3 e y=> ?_,fun i hi=>⟨xs,SqT.of h2,by rw [r.length]; exact hi⟩⟩
 ·obtain ⟨v,e,_⟩:=r.get (List.getElem?_eq_getElem hi)
  exact ⟨xs,v,SqT.of h2,e⟩
 ·obtain ⟨rfl,y⟩:=y
  obtain ⟨v,e1,r1⟩:=r.get e
  have:=y xs (SqT.of h2)
  rw [e1] at this; cases this
  refine ⟨zJ.refl _, ?_⟩
  rw [Zf.self B2 _ s2]
  exact r1.mono s1
theorem gs {K:PySem.W.Frag} {B1 H1:Hp} {a:Addr} {xs:List V} {ts:List T} (h:B1 a=some (.lst xs)) (r:zR B1 xs ts):rI B1 H1 (Itl K a) ts:=fun B2 H2 s1 s2=>by
 have h2:=s2 _ _ (s1 _ _ h)
 refine ⟨fun i hi=> ?_,fun i t x H3 e y=> ?_,fun i hi=>⟨xs,SqL.of h2,by rw [r.length]; exact hi⟩⟩
 ·obtain ⟨v,e,_⟩:=r.get (List.getElem?_eq_getElem hi)
  exact ⟨xs,v,SqL.of h2,e⟩
 ·obtain ⟨rfl,y⟩:=y
  obtain ⟨v,e1,r1⟩:=r.get e
  have:=y xs (SqL.of h2)
  rw [e1] at this; cases this
  refine ⟨zJ.refl _, ?_⟩
  rw [Zf.self B2 _ s2]
  exact r1.mono s1
noncomputable def rng (lo:Int) (n:Nat):List T:=(List.range n).map fun (i:Nat)=>T.int (lo+(i:Int))
theorem Xl {B1 H1:Hp} {lo:Int} {n:Nat}:rI B1 H1 (Itr lo n) (rng lo n):=fun B2 H2 s1 s2=>by
 have hl:(rng lo n).length=n:=by unfold rng; simp
 refine ⟨fun i hi=>by rw [hl] at hi; exact hi,fun i t x H3 e y=> ?_,fun i hi=>by rw [hl] at hi; exact hi⟩
 obtain ⟨rfl,rfl⟩:=y
 refine ⟨zJ.refl _, ?_⟩
 unfold rng at e
 rw [List.getElem?_map] at e
 by_cases hi:i < n
 ·rw [List.getElem?_range hi] at e
  cases e
  exact .int _
 ·rw [List.getElem?_eq_none (by simp; omega)] at e; cases e
noncomputable def J7 (fa:En->R T):En->R (List T):=fun ρ=>(fa ρ).bind fun t=>match t with
 | .int j=>if -1000000 < j/\j < 1000000 then .ok (rng 0 j.toNat) else .bad
 | _=> .bad
noncomputable def wS (fa fb:En->R T):En->R (List T):=fun ρ=>(fa ρ).bind fun t=>(fb ρ).bind fun t' =>match t,t' with
 | .int i, .int j=>if -1000000 < i/\i < 1000000/\ -1000000 < j/\j < 1000000 then .ok (rng i (j - i).toNat) else .bad
 | _,_=> .bad
theorem Uc (gl:Gl X "range") (mg:X.mg "range"=none) (ha:Snd X Y a fa) (hs:St1 X a:=by exact st1 rfl):vv X Y tg (.Call (.Name "range" p) [a] [] pos) (J7 fa):= .mk fun ρ=>PI.imp (QF gl mg (zS (ha ρ) ja hs) hs) fun σ H R ⟨B,I,q⟩=>step I q fun t v H1 _ s1 r1 I1 q1=>by
 cases r1 with
 | int j=>
  have q1:Po Y rI _ H1 (if -1000000 < j/\j < 1000000 then .ok (rng 0 j.toNat) else .bad) R:=q1
  split at q1
  ·rename_i hj
   exact ⟨j,rfl,by omega,by omega,Jr I1 q1 Xl⟩
  ·exact q1.elim
 | _=>exact q1.elim
theorem vw (gl:Gl X "range") (mg:X.mg "range"=none) (ha:Snd X Y a fa) (hb:Snd X Y b fb) (hs:starEach [a,b] X.env=[(false,eval a X.env),(false,eval b X.env)]:=by exact st2 rfl rfl) (hs2:St1 X b:=by exact st1 rfl):vv X Y tg (.Call (.Name "range" p) [a,b] [] pos) (wS fa fb):= .mk fun ρ=>
 PI.imp (QG gl mg (zS (ha ρ) (zS (hb ρ) ja hs2) (by rw [hs,hs2])) hs hs2) fun σ H R ⟨B,I,q⟩=>step I q fun t v H1 _ s1 r1 I1 q1=>step I1 q1 fun t' v' H2 _ s2 r2 I2 q2=>by
  cases r1 with
  | int i=>
   cases r2 with
   | int j=>
    have q2:Po Y rI _ H2 (if -1000000 < i/\i < 1000000/\ -1000000 < j/\j < 1000000 then .ok (rng i (j - i).toNat) else .bad) R:=q2
    split at q2
    ·rename_i hj
     exact ⟨i,j,rfl,⟨by omega,by omega,by omega,by omega⟩,Jr I2 q2 Xl⟩
    ·exact q2.elim
   | _=>exact q2.elim
  | _=>cases r2 <;> exact q2.elim
noncomputable def z04 (X:Cx) (Y:Fx) (tg:Expr) (g:T->En->R En):Prop:=∃ t:TG,PG X tg t/\∀ B ρ σ H v x Q,SI Y B ρ σ H->Rep B v x->(match g x ρ with | .ok ρ' =>∀ σ',SI Y B ρ' σ' H->Q σ' H | _=>False)->t v σ H Q
noncomputable def zP (i:Nat):T->En->R En:=fun t ρ=> .ok (ρ.set i (.vl t))
theorem wT {i:Nat} {x:Str} (hN:X.N.Nodup) (hi:X.N[i]? =some x) (hx:L2.Loc X.env.scope x) (hf:X.fn x=true\/X.env.scope.names.lookup x=some .local:=by first | exact .inl rfl | exact .inr rfl | assumption):z04 X Y (.Name x pos) (zP i):=
 ⟨yh i,zZ hN hi hx hf,fun B ρ σ H v x Q I r q=>q _ (I.setV i r)⟩
noncomputable def jk (i j:Nat):T->En->R En:=fun t ρ=>match t with
 | .tup [x,y]=> .ok ((ρ.set i (.vl x)).set j (.vl y))
 | _=> .bad
theorem Xm {i j:Nat} {x y:Str} {p' p2:Pos} {k:Nat} (hc:X.calm=true) (hN:X.N.Nodup) (hi:X.N[i]? =some x) (hj:X.N[j]? =some y) (hx:L2.Loc X.env.scope x) (hy:L2.Loc X.env.scope y)
  (hf:X.fn x=true\/X.env.scope.names.lookup x=some .local:=by first | exact .inl rfl | exact .inr rfl | assumption) (hf' :X.fn y=true\/X.env.scope.names.lookup y=some .local:=by first | exact .inl rfl | exact .inr rfl | assumption):
  z04 X Y (.Tuple [.Name x pos, .Name y p'] k p2) (jk i j):=by
 refine ⟨GJ X.K 2 (QB (yh i) (QB (yh j) GI)),YY hc (J8 (zZ hN hi hx hf) (J8 (zZ hN hj hy hf') Uw)),fun B ρ σ H v t Q I r q=> ?_⟩
 cases r with
 | @tup l xs ts h r=>
  cases r with
  | nil=>exact q.elim
  | cons r1 rr=>
   cases rr with
   | nil=>exact q.elim
   | cons r2 rr=>
    cases rr with
    | cons _ _=>exact q.elim
    | nil=>
     exact ⟨l,_,rfl,SqT.of (I.sB _ _ h),rfl,_,_,rfl,_,_,rfl,rfl,q _ ((I.setV i r1).setV j r2)⟩
 | _=>exact q.elim
noncomputable def jq (g:T->En->R En) (fb:En->RS):List T->En->RS
 | [],ρ=> .nx ρ
 | t :: ts,ρ=>match g t ρ with
  | .ok ρ1=>match fb ρ1 with
   | .nx ρ2=>jq g fb ts ρ2
   | .ct ρ2=>jq g fb ts ρ2
   | .bk ρ2=> .nx ρ2
   | r=>r
  | .ex c=> .bad
  | .bad=> .bad
noncomputable def wP (fi:En->R (List T)) (g:T->En->R En) (fb:En->RS):En->RS:=fun ρ=>(fi ρ).s fun ts=>jq g fb ts ρ
theorem ue {iter:Expr} {sts:List Stmt} {fi:En->R (List T)} {g:T->En->R En} {fb:En->RS} (hp:PassesOwn (model X.prog X.w) X.A X.env X.xe) (hc:X.calm=true) (hi:vv X Y tg iter fi) (hg:z04 X Y tg g) (hb:Qx X Y sts fb)
  (hs:∀ x,foldedSetIterable iter X.env x=pure x:=by intro _; rfl):ye X Y (.For tg iter sts [] pos) (wP fi g fb):= .mk fun ρ=>by
 obtain ⟨tG,hG,hG'⟩:=hg
 refine PS.imp (KJ (tb:=fun D σ H=>∃ ρ',tSS Y fb ρ' D σ H) hp hc (hi ρ) hG (fun pins s σ H D I ⟨ρ',q⟩=>hb ρ' pins s σ H D I q) hs) fun D σ H ⟨B,I,q⟩=> ?_
 refine ud I q fun ts J H1 _ s1 r1 I1 q1=> ?_
 refine ⟨fun i m σ' H' =>m=ts.length - i/\i<=ts.length/\∃ ρ' B',SI Y B' ρ' σ' H' /\zJ (Zf B H H1) B' /\PoS Y B' (jq g fb (ts.drop i) ρ') D,⟨ts.length,by simp,Nat.zero_le _,ρ,_,I1,zJ.refl _,q1⟩, ?_⟩
 rintro i m σ' H' ⟨rfl,hi,ρ',B',I',sB',q'⟩
 obtain ⟨hgo,hyld,hstop⟩:=r1 B' H' sB' I'.sB
 by_cases hlt:i < ts.length
 ·refine .inr ⟨hgo i hlt,fun σ2 H2=>∃ ρ2 B2,SI Y B2 ρ2 σ2 H2/\zJ (Zf B H H1) B2/\PoS Y B2 (jq g fb (ts.drop (i+1)) ρ2) D,fun σ2 H2 ⟨ρ2,B2,I2,s2,q2⟩=>⟨ts.length - (i+1),by omega,rfl,hlt,ρ2,B2,I2,s2,q2⟩,fun x H2 y=> ?_⟩
  obtain ⟨s2,r2⟩:=hyld i _ x H2 (List.getElem?_eq_getElem hlt) y
  rw [List.drop_eq_getElem_cons hlt] at q'
  unfold jq at q'
  refine hG' _ ρ' σ' H2 x _ _ (I'.grow s2) r2 ?_
  cases eg:g ts[i] ρ' with
  | bad=>rw [eg] at q'; exact q'
  | ex c=>rw [eg] at q'; exact q'
  | ok ρ1=>
   rw [eg] at q'
   intro σ1 J1
   refine ⟨ρ1,_,J1, ?_⟩
   have q2:=PoS.up (Zf.ge I'.sB s2) q'
   dsimp only at q2
   have s3:zJ (Zf B H H1) (Zf B' H' H2):=sB'.trans (Zf.ge I'.sB s2)
   revert q2
   cases fb ρ1 with
   | nx ρ2=>exact fun q2 σ3 H3 B3 s4 I3=>⟨ρ2,B3,I3,s3.trans s4,PoS.up s4 q2⟩
   | ct ρ2=>exact fun q2 σ3 H3 B3 s4 I3=>⟨ρ2,B3,I3,s3.trans s4,PoS.up s4 q2⟩
   | bk ρ2=>exact fun q2=>q2
   | rt t=>exact fun q2=>q2
   | rf t=>exact fun q2=>q2
   | ex c=>exact fun q2=>q2
   | bad=>exact fun q2=>q2
 ·have e:i=ts.length:=by omega
  subst e
  rw [List.drop_length] at q'
  exact .inl ⟨hstop _ (Nat.le_refl _),q' σ' H' B' (zJ.refl _) I'⟩
noncomputable def Js (g:En->R Bool) (fb:En->RS):Nat->En->RS
 | 0,_=> .bad
 | n+1,ρ=>(g ρ).s fun k=>if k=true then match fb ρ with
   | .nx ρ2=>Js g fb n ρ2
   | .ct ρ2=>Js g fb n ρ2
   | .bk ρ2=> .nx ρ2
   | r=>r
  else .nx ρ
theorem kv {n:Nat} {sts:List Stmt} {ga:En->R Bool} {fb:En->RS} (hp:PassesOwn (model X.prog X.w) X.A X.env X.xe) (hc:qX X Y c ga) (hb:Qx X Y sts fb):ye X Y (.While c sts [] pos) (Js ga fb n):= .mk fun ρ=>by
 refine PS.imp (VV (tc:=fun σ H Q=>∃ ρ',tS Y rE ga ρ' σ H Q) (tb:=fun D σ H=>∃ ρ',tSS Y fb ρ' D σ H) hp (fun pins s σ H D I ⟨ρ',q⟩=>hc ρ' pins s σ H D I q) (fun pins s σ H D I ⟨ρ',q⟩=>hb ρ' pins s σ H D I q)) fun D σ H ⟨B,I,q⟩=> ?_
 refine ⟨fun m σ' H' =>∃ ρ' B',SI Y B' ρ' σ' H' /\PoS Y B' (Js ga fb m ρ') D,⟨n,ρ,B,I,q⟩, ?_⟩
 rintro m σ' H' ⟨ρ',B',I',q'⟩
 cases m with
 | zero=>exact q'.elim
 | succ m=>
  unfold Js at q'
  refine ⟨ρ',ud I' q' fun t v H1 _ s1 r1 I1 q1=> ?_⟩
  have r1' :v=t:=r1
  subst r1'
  cases v with
  | false=>exact q1 _ _ _ (zJ.refl _) I1
  | true=>
   refine ⟨fun σ2 H2=>∃ ρ2 B2,SI Y B2 ρ2 σ2 H2/\PoS Y B2 (Js ga fb m ρ2) D,fun σ2 H2 h=>⟨m,Nat.lt_succ_self m,h⟩,ρ',_,I1, ?_⟩
   have q1:PoS Y _ (match fb ρ' with
    | .nx ρ2=>Js ga fb m ρ2
    | .ct ρ2=>Js ga fb m ρ2
    | .bk ρ2=> .nx ρ2
    | r=>r) D:=q1
   revert q1
   cases fb ρ' with
   | nx ρ2=>exact fun q2 σ3 H3 B3 s4 I3=>⟨ρ2,B3,I3,PoS.up s4 q2⟩
   | ct ρ2=>exact fun q2 σ3 H3 B3 s4 I3=>⟨ρ2,B3,I3,PoS.up s4 q2⟩
   | bk ρ2=>exact fun q2=>q2
   | rt t=>exact fun q2=>q2
   | rf t=>exact fun q2=>q2
   | ex c=>exact fun q2=>q2
   | bad=>exact fun q2=>q2
end
end PV
namespace PV
open PySem PySem.Spec PyProof.Rows L2
theorem uf {env:Env}:∀ (ns:List (Str×NameKind)) (acc:List (Str×Addr)),(∀ x∈ns,x.2=NameKind.free->∃ c,env.cells.lookup x.1=some c)->(∀ x c,acc.lookup x=some c->env.cells.lookup x=some c)->
  ∃ cl,(forIn ns acc (fun (x:Str×NameKind) (r:List (Str×Addr))=>if (x.2 == NameKind.free)=true then (do let c ← cellOf env x.1; pure (ForInStep.yield ((x.1,c) :: r))) else pure (ForInStep.yield r)):Sem _)=pure cl/\
   (∀ x c,cl.lookup x=some c->env.cells.lookup x=some c)/\(∀ x c,acc.lookup x=some c->∃ c',cl.lookup x=some c')/\(∀ x∈ns,x.2=NameKind.free->∃ c,cl.lookup x.1=some c)
 | [],acc,_,h=>⟨acc,rfl,h,fun x c e=>⟨c,e⟩,fun x hx=>by simp at hx⟩
 | (n,k) :: ns,acc,hf,h=>by
  by_cases hk:k=NameKind.free
  ·obtain ⟨c,hc⟩:=hf (n,k) List.mem_cons_self hk
   have h' :∀ x d,((n,c) :: acc).lookup x=some d->env.cells.lookup x=some d:=fun x d e=>by
    by_cases hx:x=n
    ·subst hx
     have e' :some c=some d:=by simpa [List.lookup_cons] using e
     cases e'; exact hc
    ·have e' :acc.lookup x=some d:=by
      rw [List.lookup_cons,(beq_eq_false_iff_ne.mpr hx)] at e; exact e
     exact h x d e'
   obtain ⟨cl,e,h1,h2,h3⟩:=uf ns ((n,c) :: acc) (fun x hx=>hf x (List.mem_cons_of_mem _ hx)) h'
   refine ⟨cl, ?_,h1,fun x d ed=> ?_,fun x hx hxf=> ?_⟩
   ·rw [List.forIn_cons]
    subst hk
    have q:cellOf env n=pure c:=by unfold cellOf; rw [hc]
    simp only [beq_self_eq_true,if_true,q]
    exact e
   ·by_cases hx:x=n
    ·subst hx; exact h2 x c (by simp [List.lookup_cons])
    ·exact h2 x d (by rw [List.lookup_cons,(beq_eq_false_iff_ne.mpr hx)]; exact ed)
   ·rcases List.mem_cons.mp hx with rfl | hx
    ·exact h2 n c (by simp [List.lookup_cons])
    ·exact h3 x hx hxf
  ·obtain ⟨cl,e,h1,h2,h3⟩:=uf ns acc (fun x hx=>hf x (List.mem_cons_of_mem _ hx)) h
   refine ⟨cl, ?_,h1,h2,fun x hx hxf=> ?_⟩
   ·rw [List.forIn_cons]
    have q:(k == NameKind.free)=false:=by simpa using hk
    simp only [q,Bool.false_eq_true,if_false]
    exact e
   ·rcases List.mem_cons.mp hx with rfl | hx
    ·exact absurd hxf hk
    ·exact h3 x hx hxf
theorem kw {scope:Scope} {env:Env} (hf:∀ x∈scope.names,x.2=NameKind.free->∃ c,env.cells.lookup x.1=some c):
  ∃ cl,closureFor scope env=pure cl/\(∀ x c,cl.lookup x=some c->env.cells.lookup x=some c)/\(∀ x∈scope.names,x.2=NameKind.free->∃ c,cl.lookup x.1=some c):=by
 obtain ⟨cl,e,h1,_,h3⟩:=uf scope.names [] hf (fun x c e=>by simp at e)
 refine ⟨cl, ?_,h1,h3⟩
 unfold closureFor
 show (do let cs ← _; pure cs)=_
 exact (by simpa using e)
noncomputable def cxC (X:Cx) (scope:Scope) (N' :List Str) (cl:List (Str×Addr)) (C:Addr) (s3:Shared) (H3:Hp) (fp:List Addr) (pins:List (Addr×Obj)):Cx:=
 { X with N:=N',s₀:=s3,H₀:=H3,env:=compEnvC scope cl C X.env,outer:=X.stack,stack:=X.stack,ex:=fp,fn:=fun _=>false,pn:=X.pn++pins,xe:=fun _ _=>False }
structure CSc (X:Cx) (scope:Scope):Prop where
 kind:scope.kind= .function
 nocell:∀ x∈scope.names,x.2 ≠ .cell
 loc:∀ x∈scope.names,x.2= .local->scope.names.lookup x.1=some .local
 fre:∀ x∈scope.names,x.2= .free->X.env.kindOf x.1=some .cell\/X.env.kindOf x.1=some .free
theorem wU {scope:Scope} {env:Env} {x:Str} {k:NameKind} (h:(relabel scope env).names.lookup x=some k) (hk:k= .cell\/k= .free) (hn:∀ x∈scope.names,x.2 ≠ NameKind.cell):∃ y∈scope.names,y.1=x/\y.2= .free:=by
 have go:∀ ns:List (Str×NameKind),(∀ x∈ns,x.2 ≠ NameKind.cell)->(ns.map fun (n,k)=>if (k == NameKind.free && env.scope.kind == .function && env.kindOf n == some .cell) then (n,NameKind.cell) else (n,k)).lookup x=some k->∃ y∈ns,y.1=x/\y.2= .free:=by
  intro ns
  induction ns with
  | nil=>intro _ h; simp at h
  | cons y ns ih=>
   intro hn h
   obtain ⟨n,k'⟩:=y
   by_cases hx:x=n
   ·subst hx
    refine ⟨(x,k'),List.mem_cons_self,rfl, ?_⟩
    rw [List.map_cons] at h
    by_cases hc:(k' == NameKind.free && env.scope.kind == .function && env.kindOf x == some .cell)=true
    ·rw [Bool.and_eq_true,Bool.and_eq_true] at hc
     exact eq_of_beq hc.1.1
    ·simp only [if_neg hc,List.lookup_cons,beq_self_eq_true] at h
     cases h
     rcases hk with rfl | rfl
     ·exact absurd rfl (hn _ List.mem_cons_self)
     ·rfl
   ·obtain ⟨z,hz,h1,h2⟩:=ih (fun z hz=>hn z (List.mem_cons_of_mem _ hz)) (by
     rw [List.map_cons] at h
     by_cases hc:(k' == NameKind.free && env.scope.kind == .function && env.kindOf n == some .cell)=true
     ·simp only [if_pos hc,List.lookup_cons,(beq_eq_false_iff_ne.mpr hx)] at h; exact h
     ·simp only [if_neg hc,List.lookup_cons,(beq_eq_false_iff_ne.mpr hx)] at h; exact h)
    exact ⟨z,List.mem_cons_of_mem _ hz,h1,h2⟩
 exact go scope.names hn h
section
variable {X:Cx} {pins:List (Addr×Obj)} {σ:Sg} {H:Hp} {s:Shared}
theorem vx {scope:Scope} {N' :List Str} {cl:List (Str×Addr)} {fp:List Addr} {h' :Heap} {tk:Nat} {σ' :Sg} (I:L2.Inv X pins σ H s) (S:CSc X scope) (hc:X.calm=true)
  (hcl:∀ x c,cl.lookup x=some c->X.env.cells.lookup x=some c) (hcf:∀ x∈scope.names,x.2=NameKind.free->∃ c,cl.lookup x.1=some c)
  (hfp:∀ b∈fp,Yh X pins H b) (hfo:∀ b∈fp,∃ o,s.heap.get? b=some o)
  (hns:h'.Ns s.heap.objs.size (fun _=>none)) (hk:∀ b o,s.heap.get? b=some o->h'.get? b=some o)
  (hl:σ'.length=N'.length) (hσ:∀ (i:Nat) (x:Str) (v:V),N'[i]? =some x->σ'[i]? =some (some v)->∃ j:Nat,X.N[j]? =some x/\σ[j]? =some (some v)/\Vis X.env.scope x/\(scope.names.lookup x=some .free)/\(X.env.kindOf x=some .cell\/X.env.kindOf x=some .free)):
  L2.Inv (cxC X scope N' cl s.heap.objs.size s H fp pins) [] σ' H { s with heap:=h',toks:=tk }:=by
 have stk:=I.stkSub
 have hlt:∀ b∈fp,b < s.heap.objs.size:=fun b hb=>let ⟨o,e⟩:=hfo b hb; Heap.lt_size e
 have fresh:H s.heap.objs.size=none:=I.hok.fresh (Nat.le_refl _)
 refine ⟨⟨I.ok.mod,S.kind,I.ok.glob,I.ok.blt,Nat.le_refl _,fun x y c h1 h2=>I.ok.inj x y c (hcl _ _ h1) (hcl _ _ h2),fun x hx=> ?_,fun x c h _=>(Bool.false_ne_true h).elim,fun _=>I.ok.hd hc,I.ok.frames, .inl rfl,fun b hb=> ?_,I.bs,
   Nat.le_trans I.ok.bsz I.sz,fun b o e hb=> ?_,fun b hb hb' => ?_,I.stack,I.stkFree⟩,rfl,I.bare,Un.kept hk,⟨_,hns,fun i x v h1 h2 h3=> ?_⟩,fun x c e=> ?_,fresh,fun x c e=>I.freeC x c (hcl _ _ e),fun p hp=> ?_,I.hok.kept hk,hl⟩
 ·have hx' :(relabel scope X.env).names.lookup x=some .cell\/(relabel scope X.env).names.lookup x=some .free:=hx
  obtain ⟨y,hy,rfl,hyf⟩:∃ y∈scope.names,y.1=x/\y.2= .free:=by
   rcases hx' with h | h
   ·exact wU h (.inl rfl) S.nocell
   ·exact wU h (.inr rfl) S.nocell
  exact hcf y hy hyf
 ·refine ⟨Nat.ne_of_lt (hlt b hb),fun x c e=>(hfp b hb).2.2.2.2.1 x c (hcl _ _ e)⟩
 ·rcases (hfp b hb).2.2.2.1 with h | h
  ·exact I.ok.noex b o e h
  ·exact absurd (Nat.lt_of_lt_of_le (Heap.lt_size e) (Nat.le_trans I.ok.bsz h)) (Nat.lt_irrefl _)
 ·have q:=hfp b hb
  rcases List.mem_cons.mp (stk b hb') with z | z
  ·exact q.2.1 z
  ·exact q.2.2.1 z
 ·obtain ⟨j,e1,e2,e3,e4,e5⟩:=hσ i x v h1 h2
  obtain ⟨m,hn,hloc⟩:=I.loc
  obtain ⟨u,ru,lk⟩:=hloc j x v e1 e2 e3
  refine ⟨u,ru, .inr ⟨?_, ?_⟩⟩
  ·have h3:Vis (relabel scope X.env) x:=h3
   rcases h3 with h | h | h
   ·exfalso
    have:∀ ns:List (Str×NameKind),ns.lookup x=some .free->(ns.map fun (n,k)=>if (k == NameKind.free && X.env.scope.kind == .function && X.env.kindOf n == some .cell) then (n,NameKind.cell) else (n,k)).lookup x ≠ some .local:=by
     intro ns
     induction ns with
     | nil=>intro z; simp at z
     | cons y ns ih=>
      obtain ⟨n,k⟩:=y
      intro z w
      rw [List.map_cons] at w
      by_cases hx:x=n
      ·subst hx
       have hkf:some k=some NameKind.free:=by simpa [List.lookup_cons] using z
       by_cases hcn:(k == NameKind.free && X.env.scope.kind == .function && X.env.kindOf x == some .cell)=true
       ·simp only [if_pos hcn,List.lookup_cons,beq_self_eq_true] at w; cases w
       ·simp only [if_neg hcn,List.lookup_cons,beq_self_eq_true] at w
        rw [hkf] at w; cases w
      ·have z' :ns.lookup x=some .free:=by rw [List.lookup_cons,(beq_eq_false_iff_ne.mpr hx)] at z; exact z
       refine ih z' ?_
       by_cases hcn:(k == NameKind.free && X.env.scope.kind == .function && X.env.kindOf n == some .cell)=true
       ·simp only [if_pos hcn,List.lookup_cons,(beq_eq_false_iff_ne.mpr hx)] at w; exact w
       ·simp only [if_neg hcn,List.lookup_cons,(beq_eq_false_iff_ne.mpr hx)] at w; exact w
    exact this _ e4 h
   ·exact .inl h
   ·exact .inr h
  ·rcases lk with ⟨hk',_⟩ | ⟨_,c,hc',hcell⟩
   ·rcases e5 with z | z <;> (rw [z] at hk'; cases hk')
   ·obtain ⟨c',hc2⟩:=hcf (x, .free) (PySem.mem_of_lookup e4) rfl
    have:=hcl x c' hc2
    rw [hc'] at this; cases this
    obtain ⟨o,eo,ed⟩:=hcell
    exact ⟨c,hc2,o,hk _ _ eo,ed⟩
 ·obtain ⟨v,o,eo,ed⟩:=I.cell x c (hcl _ _ e)
  exact ⟨v,o,hk _ _ eo,ed⟩
 ·have hp' :p∈X.pn++pins:=by
   have:p∈(X.pn++pins)++[]:=hp
   rwa [List.append_nil] at this
  obtain ⟨e,n,ne,nf,dc⟩:=I.pin p hp'
  refine ⟨hk _ _ e,n,Nat.ne_of_lt (Heap.lt_size e),fun hb=> ?_,dc⟩
  rcases List.mem_cons.mp (stk _ hb) with z | z
  ·exact ne z
  ·exact nf z
end
end PV
namespace PV
open PySem PySem.Spec PyProof.Rows L2
noncomputable def PIf (X:Cx) (ifs:List Expr) (t:TT):Prop:=
 ∀ (pins:List (Addr×Obj)) (s:Shared) (σ:Sg) (H:Hp) (Q:Bool->Hp->Prop),L2.Inv X pins σ H s->t σ H Q->
  wpAny (model X.prog X.w) X.A (forIn ifs true fun c r=>if r=true then do let ok ← isTrue c X.env (eval c X.env); pure (ForInStep.yield ok) else pure (ForInStep.yield r)) (TP X pins σ Q) X.xe s
theorem kx {X:Cx}:PIf X [] (fun _ H Q=>Q true H):=fun _ _ σ H _ I h=>wpAny_tests_nil ⟨H,I,h⟩
theorem UC {α:Type} {M:Model} {A:Around} {m:Sem α} {Q:α->Shared->Prop} {E E' :Value->Shared->Prop} {s:Shared} (hE:E' =fun _ _=>False) (h:wpAny M A m Q E' s):wpAny M A m Q E s:=wpAny_mono h (fun _ _ q=>q) fun e s' z=>by
 rw [hE] at z; exact z.elim
noncomputable def ky (J:It) (D:Addr) (g:TG) (tt:TT) (te:TE) (fin:Sg->Hp->Prop) (W:Nat->Nat->List V->Sg->Hp->Prop):Prop:=
 ∀ i m ys σ H,W i m ys σ H->H D=some (.lst ys)/\((J.stop i H/\fin σ H)\/(J.go i H/\∀ x H2,J.yld i H x H2->g x σ H2 fun σ3 H3=>tt σ3 H3 fun k H4=>
  if k=true then te σ3 H4 fun v H5=>H5 D=some (.lst ys)/\ys.length < sizeLine/\∃ m',m' < m/\W (i+1) m' (ys++[v]) σ3 (upd H5 D (.lst (ys++[v]))) else ∃ m',m' < m/\W (i+1) m' ys σ3 H4))
theorem vy {X:Cx} (hx:X.xe=fun _ _=>False) (hc:X.calm=true) {tg iter elt:Expr} {ifs:List Expr} {scope:Scope} {pos:Pos} {J:It} {fp:List Addr} {it:Addr} {tn:Nat->Heap->Prop} (TJ:QD X.prog X.w X.K tg J fp it tn)
  {g:TG} {tt:TT} {te:TE} (hg:PG X tg g) (ht:PIf X ifs tt) (he:PE X elt te) {D:Addr} {R:Result->Shared->Prop} {fin:Sg->Hp->Prop} (W:Nat->Nat->List V->Sg->Hp->Prop) (turn:ky J D g tt te fin W)
  (hR:∀ s σ H,L2.Inv X [] σ H s->fin σ H->R (.ok .next) s) {m0:Nat} {σ0:Sg} {H0:Hp} {s0:Shared} (w0:W 0 m0 [] σ0 H0) (I0:L2.Inv X [] σ0 H0 s0) (t0:tn 0 s0.heap) (f0:∀ b∈fp,Yh X [] H0 b):
  codeAny (model X.prog X.w) X.A (.compLoop (.ListComp elt [⟨tg,iter,ifs,0⟩] scope pos) 0 (.ref it) (.ref D) X.env) R s0:=by
 have stat:∀ {H' :Hp},(∀ b∈fp,H' b=none)->∀ b∈fp,Yh X [] H' b:=fun hn b hb=>⟨hn b hb,(f0 b hb).2⟩
 refine codeAny_loop rfl (fun n s' =>∃ i ys σ' H',L2.Inv X [] σ' H' s' /\tn i s'.heap/\(∀ b∈fp,H' b=none)/\W i n ys σ' H') (fun n s3 h3=> ?_) m0 ⟨0,[],σ0,H0,I0,t0,fun b hb=>(f0 b hb).1,w0⟩
 obtain ⟨i,ys,σ3,H3,I3,st3,fr3,w3⟩:=h3
 show wpAny _ X.A ((compTurn (.ListComp elt [⟨tg,iter,ifs,0⟩] scope pos) 0 (.ref it) (.ref D) X.env).onRaise (fun x=>do noteFrame x X.env; theTreesLotGoes x)) _ _ s3
 refine wpAny_noted ?_
 rw [compTurn_list]
 obtain ⟨hD,h⟩:=turn i n ys σ3 H3 w3
 rcases h with ⟨stop,qn⟩ | ⟨go,next⟩
 ·refine wpAny_bind (wpAny_standAt (wpAny_bind (thn (TJ.done X rfl rfl rfl hc i [] s3 σ3 H3 _ I3 (stat fr3) st3 stop) fun r s4 ⟨hr,I4⟩=> ?_)))
  subst hr
  exact wpAny_pure (hR s4 σ3 H3 I4 qn)
 ·refine wpAny_bind (wpAny_standAt (wpAny_bind (thn (TJ.item X rfl rfl rfl hc i [] s3 σ3 H3 _ I3 (stat fr3) st3 go) fun r s4 ⟨u,hr,h4⟩=> ?_)))
  subst hr
  refine wpAny_bind (thn h4 fun _ s5 ⟨x,H5,I5,r5,y5,st5,fr5⟩=> ?_)
  have I5' :=I5.pinned (stat fr5) (TJ.obj _ _ st5)
  refine wpAny_bind (UC hx (thn (hg _ s5 σ3 H5 x u _ I5' r5 (next x H5 y5)) fun _ s6 ⟨σ6,H6,I6,q6⟩=> ?_))
  have again:∀ {σ7:Sg} {H7:Hp} {s7:Shared} {ys' :List V},L2.Inv X ([]++yi fp s5.heap) σ7 H7 s7->(∃ m',m' < n/\W (i+1) m' ys' σ7 H7)->∃ m,m < n/\∃ i ys σ' H',L2.Inv X [] σ' H' s7/\tn i s7.heap/\(∀ b∈fp,H' b=none)/\W i m ys σ' H' :=fun {σ7 H7 s7 ys'} I7 ⟨m',hm,w7⟩=>by
   refine ⟨m',hm,i+1,ys',σ7,H7,I7.unpinned,TJ.keep _ _ _ st5 fun b hb o e=>(I7.pin (b,o) (List.mem_append_right _ (List.mem_append_right _ (wj hb e)))).1,fun b hb=> ?_,w7⟩
   obtain ⟨o,e,d⟩:=TJ.obj _ _ st5 b hb
   exact (I7.pin (b,o) (List.mem_append_right _ (List.mem_append_right _ (wj hb e)))).2.1
  refine wpAny_bind (UC hx (thn (ht _ s6 σ6 H6 _ I6 q6) fun k s7 ⟨H7,I7,q7⟩=> ?_))
  cases k with
  | false=>exact wpAny_pure ⟨rfl,again I7 q7⟩
  | true=>
   refine wpAny_bind (wpAny_bind (UC hx (thn (he _ s7 σ6 H7 _ I7 q7) fun v s8 ⟨y,H8,I8,r8,hD8,hlen,q8⟩=> ?_)))
   refine wpAny_bind (UC hx (thn (yr _ s8 σ6 H8 (.ref D) [y] (.ref D) [v] (fun _ H9=>∃ m',m' < n/\W (i+1) m' (ys++[y]) σ6 H9) I8 rfl (.cons r8 .nil) ⟨D,ys,y,rfl,rfl,hD8,hlen,q8⟩) fun w s9 ⟨_,H9,I9,_,q9⟩=> ?_))
   exact wpAny_pure (wpAny_pure ⟨rfl,again I9 q9⟩)
noncomputable def Xn (k:Nat) (js:List Nat) (σ:Sg):Sg:=List.replicate k none++js.map fun j=>(σ[j]?).getD none
section
variable {X:Cx}
noncomputable abbrev xt (X:Cx) (scope:Scope) (N' :List Str) (P:Cx->Prop):Prop:=∀ cl C s3 H3 fp pins,P (cxC X scope N' cl C s3 H3 fp pins)
structure z05 (X:Cx) (scope:Scope) (N' :List Str) (k:Nat) (js:List Nat):Prop where
 len:N'.length=k+js.length
 cap:∀ (i j:Nat),js[i]? =some j->∃ x,N'[k+i]? =some x/\X.N[j]? =some x/\Vis X.env.scope x/\scope.names.lookup x=some .free/\(X.env.kindOf x=some .cell\/X.env.kindOf x=some .free)
theorem UD {tg iter elt:Expr} {ifs:List Expr} {scope:Scope} {pos pos' :Pos} {N' :List Str} {k:Nat} {js:List Nat} {wi:TI} {g:TG} {tt:TT} {te:TE} {use:Option (Value->Sem Unit)} (S:CSc X scope) (CP:z05 X scope N' k js) (hc:X.calm=true)
  (hi:PI X tg iter wi) (hg:xt X scope N' fun XC=>PG XC tg g) (ht:xt X scope N' fun XC=>PIf XC ifs tt) (he:xt X scope N' fun XC=>PE XC elt te) {pins:List (Addr×Obj)} {σ:Sg} {H:Hp} {s:Shared} {Q:Value->Shared->Prop} {F:Addr->Hp->Prop} (I:L2.Inv X pins σ H s)
  (h:wi σ H fun J H1=>∀ D,H1 D=none->∃ W,(∃ m,W 0 m [] (Xn k js σ) (upd H1 D (.lst [])))/\ky J D g tt te (fun _ H' =>F D H') W)
  (hQ:∀ D C H' s',L2.Inv X pins σ H' s' ->F D H' ->H' C=none->(X.s₀.heap.objs.size<=C)->C ≠ X.env.locals->(∀ x c,X.env.cells.lookup x=some c->c ≠ C)->(∀ p∈X.pn++pins,p.1 ≠ C)->(∃ m,s'.heap.Ns C m)->compPost (model X.prog X.w) X.A X.xe use Q (.ref D) C (.ok .next) s')
  (hs:∀ x,foldedSetIterable iter X.env x=pure x:=by intro _; rfl):
  wpAny (model X.prog X.w) X.A (comprehension (.ListComp elt [⟨tg,iter,ifs,0⟩] scope pos) scope X.env pos' (newList []) false (eval iter X.env) use) Q X.xe s:=by
 obtain ⟨cl,ecl,hcl,hcf⟩:=kw (scope:=scope) (env:=X.env) fun x hx hf=>I.ok.has x.1 (S.fre x hx hf)
 refine wpAny_comprehension_free rfl hs ecl S.kind S.loc ?_
 refine thn (hi pins s σ H _ I h) fun v s1 h1=>thn h1 fun itv s2 h2=> ?_
 obtain ⟨it,fp,tn,J,H2,e,I2,TJ,st2,f2,q2⟩:=h2
 subst e
 refine wpAny_newObj_type ?_
 have hD:H2 s2.heap.objs.size=none:=I2.hok.fresh (Nat.le_refl _)
 have I3:L2.Inv X pins σ (upd H2 s2.heap.objs.size (.lst [])) { s2 with heap:=s2.heap.push { cls:= .type "list",data:= .seq ([]:List Value).toArray } }:=
  I2.laid (t' :=s2.toks) (fun b u e=>Heap.get?_push_of_some _ e) (Nat.le_refl _) ⟨Nat.zero_le _,[],_, .nil,Heap.get?_push_size _ rfl⟩
 obtain ⟨W,⟨m0,w0⟩,turn⟩:=q2 s2.heap.objs.size hD
 have f3:∀ b∈fp,Yh X pins (upd H2 s2.heap.objs.size (.lst [])) b:=fun b hb=>by
  obtain ⟨o,eo,_⟩:=TJ.obj _ _ st2 b hb
  exact ⟨by rw [zI (Nat.ne_of_lt (Heap.lt_size eo))]; exact (f2 b hb).1,(f2 b hb).2⟩
 have o3:∀ b∈fp,∃ o,(s2.heap.push { cls:= .type "list",data:= .seq ([]:List Value).toArray }).get? b=some o:=fun b hb=>by
  obtain ⟨o,eo,_⟩:=TJ.obj _ _ st2 b hb
  exact ⟨o,Heap.get?_push_of_some _ eo⟩
 refine wpAny_newFunctionEnv S.nocell (by intro y hy; simp at hy) (fun h4 hns4 hsb4=> ?_) S.kind
 generalize hG:s2.heap.push { cls:= .type "list",data:= .seq ([]:List Value).toArray }=G3 at I3 o3 hns4 hsb4 ⊢
 dsimp only at hns4 hsb4 ⊢
 have s3e:∃ s3:Shared,s3={ s2 with heap:=G3 }:=⟨_,rfl⟩
 obtain ⟨s3,es3⟩:=s3e
 have hh3:s3.heap=s2.heap.push { cls:= .type "list",data:= .seq ([]:List Value).toArray }:=by rw [es3,hG]
 have hg3:G3=s3.heap:=by rw [es3]
 rw [← es3] at I3
 have ht3:s2.toks=s3.toks:=by rw [es3]
 rw [hg3] at hns4 hsb4 o3
 have k4:∀ b o,s3.heap.get? b=some o->h4.get? b=some o:=fun b o e=>hsb4.extBut b o (Nat.ne_of_lt (Heap.lt_size e)) (Heap.get?_push_of_some _ e)
 have IC:=vx (N' :=N') (cl:=cl) (fp:=fp) (σ' :=Xn k js σ) (tk:=s3.toks+([]:List (Str×Value)).length) I3 S hc hcl hcf f3 o3 hns4 k4 (by unfold Xn; simp [CP.len]) (fun i x v h1 h2=>by
  unfold Xn at h2
  by_cases hik:i < k
  ·rw [List.getElem?_append_left (by simpa using hik),List.getElem?_replicate,if_pos hik] at h2
   cases h2
  ·have hk' :k<=i:=by omega
   rw [List.getElem?_append_right (by simpa using hk'),List.length_replicate,List.getElem?_map] at h2
   cases ej:js[i - k]? with
   | none=>rw [ej] at h2; cases h2
   | some j=>
    rw [ej] at h2
    obtain ⟨y,e1,e2,e3,e4,e5⟩:=CP.cap (i - k) j ej
    have:k+(i - k)=i:=by omega
    rw [this,h1] at e1
    cases e1
    refine ⟨j,e2, ?_,e3,e4,e5⟩
    have h2' :some ((σ[j]?).getD none)=some (some v):=h2
    cases ez:σ[j]? with
    | none=>rw [ez] at h2'; cases h2'
    | some z=>rw [ez] at h2'; exact congrArg some (Option.some.inj h2'))
 have TC:QD (cxC X scope N' cl s3.heap.objs.size s3 (upd H2 s2.heap.objs.size (.lst [])) fp pins).prog (cxC X scope N' cl s3.heap.objs.size s3 (upd H2 s2.heap.objs.size (.lst [])) fp pins).w (cxC X scope N' cl s3.heap.objs.size s3 (upd H2 s2.heap.objs.size (.lst [])) fp pins).K tg J fp it tn:=TJ
 have t4:tn 0 h4:=TJ.keep _ _ _ st2 fun b hb o e=>k4 b o (by rw [hh3]; exact Heap.get?_push_of_some _ e)
 have fC:∀ b∈fp,Yh (cxC X scope N' cl s3.heap.objs.size s3 (upd H2 s2.heap.objs.size (.lst [])) fp pins) [] (upd H2 s2.heap.objs.size (.lst [])) b:=fun b hb=>by
  obtain ⟨q0,q1,q2,q3,q4,q5⟩:=f3 b hb
  obtain ⟨o,eo⟩:=o3 b hb
  refine ⟨q0,Nat.ne_of_lt (Heap.lt_size eo),fun hb' => ?_, .inl hb,fun x c e=>q4 x c (hcl _ _ e),fun p hp=> ?_⟩
  ·rcases List.mem_cons.mp (I3.stkSub b hb') with z | z
   ·exact q1 z
   ·exact q2 z
  ·exact q5 p (by
    have:p∈(X.pn++pins)++[]:=hp
    rwa [List.append_nil] at this)
 have fin:∀ (s5:Shared) (σ5:Sg) (H5:Hp),L2.Inv (cxC X scope N' cl s3.heap.objs.size s3 (upd H2 s2.heap.objs.size (.lst [])) fp pins) [] σ5 H5 s5->F s2.heap.objs.size H5->compPost (model X.prog X.w) X.A X.xe use Q (.ref s2.heap.objs.size) s3.heap.objs.size (.ok .next) s5:=fun s5 σ5 H5 I5 q5=>by
  have J5:L2.Inv X pins σ H5 s5:=I3.call' (ch:=fp) I5.os I5.base I5.hok I5.bare fun b hb=>by
   obtain ⟨q0,q1,q2,q3,q4,q5⟩:=f3 b hb
   exact ⟨q3,q1,q4,q5⟩
  refine hQ _ _ H5 s5 J5 q5 I5.free I3.sz (Nat.ne_of_gt I3.lt) (fun x c e z=> ?_) (fun p hp z=> ?_) (let ⟨m,hm,_⟩:=I5.loc; ⟨m,hm⟩)
  ·obtain ⟨v',o,eo,_⟩:=I3.cell x c e
   exact absurd (Heap.lt_size eo) (by rw [z]; exact Nat.lt_irrefl _)
  ·exact absurd (Heap.lt_size (I3.pin p hp).1) (by rw [z]; exact Nat.lt_irrefl _)
 have loop:=vy (X:=cxC X scope N' cl s3.heap.objs.size s3 (upd H2 s2.heap.objs.size (.lst [])) fp pins) (iter:=iter) (scope:=scope) (pos:=pos) (R:=compPost (model X.prog X.w) X.A X.xe use Q (.ref s2.heap.objs.size) s3.heap.objs.size) rfl hc TC (hg _ _ _ _ _ _) (ht _ _ _ _ _ _) (he _ _ _ _ _ _) W turn fin w0 IC t4 fC
 rw [es3] at loop
 exact codeAny_compStart_list loop (TJ.self _ _ _ _ _ t4 loop)
end
end PV
namespace PV
open PySem PySem.Spec PyProof.Rows L2
noncomputable def Z6 (g:T->En->R En) (ft:En->R Bool) (fe:En->R T):List T->En->R (List T)
 | [],_=> .ok []
 | t :: ts,ρ=>(g t ρ).bind fun ρ1=>(ft ρ1).bind fun k=>if k=true then (fe ρ1).bind fun v=>(Z6 g ft fe ts ρ1).bind fun vs=> .ok (v :: vs) else Z6 g ft fe ts ρ1
noncomputable def xu:Option Sl->Sl
 | some (.vl t)=> .vl t
 | _=> .un
noncomputable def qh (k:Nat) (js:List Nat) (ρ:En):En:=List.replicate k .un++js.map fun j=>xu ρ[j]?
noncomputable def quiet {α:Type}:R α->R α
 | .ok a=> .ok a
 | _=> .bad
noncomputable def Zc (g:T->En->R En) (ft:En->R Bool) (fe:En->R T) (k:Nat) (js:List Nat) (ρ:En) (ts:List T):R (List T):=if ts.length<=bnd then quiet (Z6 g ft fe ts (qh k js ρ)) else .bad
noncomputable def jw (fi:En->R (List T)) (g:T->En->R En) (ft:En->R Bool) (fe:En->R T) (k:Nat) (js:List Nat):En->R T:=fun ρ=>(fi ρ).bind fun ts=>(Zc g ft fe k js ρ ts).bind fun vs=> .ok (.lst vs)
noncomputable def GOk (tG:TG) (g:T->En->R En):Prop:=∀ Y B ρ σ H v x Q,SI Y B ρ σ H->Rep B v x->(match g x ρ with | .ok ρ' =>∀ σ',SI Y B ρ' σ' H->Q σ' H | _=>False)->tG v σ H Q
theorem ZL (i:Nat):GOk (yh i) (zP i):=fun Y B ρ σ H v x Q I r q=>q _ (I.setV i r)
theorem UE (K:PySem.W.Frag) (i j:Nat):GOk (GJ K 2 (QB (yh i) (QB (yh j) GI))) (jk i j):=fun Y B ρ σ H v t Q I r q=>by
 cases r with
 | @tup l xs ts h r=>
  cases r with
  | nil=>exact q.elim
  | cons r1 rr=>
   cases rr with
   | nil=>exact q.elim
   | cons r2 rr=>
    cases rr with
    | cons _ _=>exact q.elim
    | nil=>exact ⟨l,_,rfl,SqT.of (I.sB _ _ h),rfl,_,_,rfl,_,_,rfl,rfl,q _ ((I.setV i r1).setV j r2)⟩
 | _=>exact q.elim
theorem SI.block {Y:Fx} {B:Hp} {ρ:En} {σ:Sg} {H H3:Hp} {D:Addr} (I:SI Y B ρ σ H) (k:Nat) (js:List Nat) (E:XK) (hD:H D=none) (o:HO):SI ⟨B,H,E,Y.cl⟩ B (qh k js ρ) (Xn k js σ) (upd H D o) where
 s0:=I.sB
 sH:=zJ.new hD _
 sB:=I.sB.trans (zJ.new hD _)
 old:=fun _ _ _=>rfl
 len:=by unfold qh Xn; simp
 vl:=fun i t h=>by
  unfold qh at h
  unfold Xn
  by_cases hik:i < k
  ·rw [List.getElem?_append_left (by simpa using hik),List.getElem?_replicate,if_pos hik] at h; cases h
  ·have hk' :k<=i:=by omega
   rw [List.getElem?_append_right (by simpa using hk'),List.length_replicate,List.getElem?_map] at h ⊢
   cases ej:js[i - k]? with
   | none=>rw [ej] at h; cases h
   | some j=>
    rw [ej] at h
    have h' :xu ρ[j]? = .vl t:=Option.some.inj h
    unfold xu at h'
    split at h'
    ·rename_i u e
     cases h'
     obtain ⟨v,e1,r⟩:=I.vl j _ e
     exact ⟨v,by show some ((σ[j]?).getD none)=_; rw [e1]; rfl,r⟩
    ·cases h'
 ow:=fun i ts h=>by
  exfalso
  unfold qh at h
  by_cases hik:i < k
  ·rw [List.getElem?_append_left (by simpa using hik),List.getElem?_replicate,if_pos hik] at h; cases h
  ·have hk' :k<=i:=by omega
   rw [List.getElem?_append_right (by simpa using hk'),List.length_replicate,List.getElem?_map] at h
   cases ej:js[i - k]? with
   | none=>rw [ej] at h; cases h
   | some j=>
    rw [ej] at h
    have h' :xu ρ[j]? = .ow ts:=Option.some.inj h
    unfold xu at h'
    split at h' <;> cases h'
 xc:=fun i c h=>by
  exfalso
  unfold qh at h
  by_cases hik:i < k
  ·rw [List.getElem?_append_left (by simpa using hik),List.getElem?_replicate,if_pos hik] at h; cases h
  ·have hk' :k<=i:=by omega
   rw [List.getElem?_append_right (by simpa using hk'),List.length_replicate,List.getElem?_map] at h
   cases ej:js[i - k]? with
   | none=>rw [ej] at h; cases h
   | some j=>
    rw [ej] at h
    have h' :xu ρ[j]? = .xc c:=Option.some.inj h
    unfold xu at h'
    split at h' <;> cases h'
theorem SI.acc {Y:Fx} {B:Hp} {ρ:En} {σ:Sg} {H:Hp} {D:Addr} (I:SI Y B ρ σ H) (hb:B D=none) (h0:Y.H0 D=none) (ho:∀ (i:Nat) (ts:List T),ρ[i]? =some (Sl.ow ts)->σ[i]? ≠ some (some (V.ref D))) (o:HO):SI Y B ρ σ (upd H D o) where
 s0:=I.s0
 sH:=fun b u h=>by
  rw [zI (fun z=>by subst z; rw [h0] at h; cases h)]; exact I.sH b u h
 sB:=fun b u h=>by
  rw [zI (fun z=>by subst z; rw [hb] at h; cases h)]; exact I.sB b u h
 old:=I.old
 len:=I.len
 vl:=I.vl
 ow:=fun i ts h=>by
  obtain ⟨a,xs,e,b0,h0',hh,r,d⟩:=I.ow i ts h
  refine ⟨a,xs,e,b0,h0', ?_,r,d⟩
  rw [zI (fun z=>ho i ts h (by rw [e,z]))]; exact hh
 xc:=I.xc
noncomputable def kz (ρ:En):Prop:=∀ (i:Nat) (ts:List T),ρ[i]? ≠ some (Sl.ow ts)
theorem xv (k:Nat) (js:List Nat) (ρ:En):kz (qh k js ρ):=fun i ts h=>by
 unfold qh at h
 by_cases hik:i < k
 ·rw [List.getElem?_append_left (by simpa using hik),List.getElem?_replicate,if_pos hik] at h; cases h
 ·have hk' :k<=i:=by omega
  rw [List.getElem?_append_right (by simpa using hk'),List.length_replicate,List.getElem?_map] at h
  cases ej:js[i - k]? with
  | none=>rw [ej] at h; cases h
  | some j=>
   rw [ej] at h
   have h' :xu ρ[j]? = .ow ts:=Option.some.inj h
   unfold xu at h'
   split at h' <;> cases h'
theorem UF {ρ:En} {i:Nat} {t:T} (h:kz ρ):kz (ρ.set i (.vl t)):=fun j ts e=>by
 rcases Zm e with ⟨_,z⟩ | ⟨_,z⟩
 ·cases z
 ·exact h j ts z
noncomputable def GNo (g:T->En->R En):Prop:=∀ t ρ ρ',kz ρ->g t ρ= .ok ρ' ->kz ρ'
theorem ZM (i:Nat):GNo (zP i):=fun t ρ ρ' h e=>by
 cases e; exact UF h
theorem UG (i j:Nat):GNo (jk i j):=fun t ρ ρ' h e=>by
 unfold jk at e
 split at e
 ·cases e; exact UF (UF h)
 ·cases e
section
variable {X:Cx} {Y:Fx} {tg iter elt:Expr} {ifs:List Expr} {scope:Scope} {pos pos' :Pos} {N' :List Str} {k:Nat} {js:List Nat} {fi:En->R (List T)} {tG:TG} {g:T->En->R En} {ft:En->R Bool} {fe:En->R T}
structure vz (X:Cx) (Y:Fx) (ifs:List Expr) (f:En->R Bool):Prop where
 mk ::
 go:∀ ρ,PIf X ifs (tS Y rE f ρ)
noncomputable instance {X:Cx} {Y:Fx} {ifs:List Expr} {f:En->R Bool}:CoeFun (vz X Y ifs f) fun _=>∀ ρ,PIf X ifs (tS Y rE f ρ):=⟨vz.go⟩
theorem PIf.imp {X:Cx} {e:List Expr} {t t' :TT} (h:PIf X e t) (i:∀ σ H Q,t' σ H Q->t σ H Q):PIf X e t' :=fun pins s σ H Q I q=>h pins s σ H Q I (i σ H Q q)
noncomputable def j8:En->R Bool:=fun _=> .ok true
theorem jG {X:Cx}:vz X Y [] j8:= .mk fun ρ=>PIf.imp kx fun σ H Q ⟨B,I,q⟩=>Jr I q rfl
theorem ug {B1 H1:Hp} {σ:Sg} {ρ:En} {J:It} {ts vs:List T} {D:Addr} (hG:GOk tG g) (hN:GNo g) (I:SI Y B1 ρ σ H1) (rI' :rI B1 H1 J ts) (hl:ts.length<=bnd) (ev:Z6 g ft fe ts (qh k js ρ)= .ok vs) (hD:H1 D=none) {F:Hp->Prop}
  (hF:∀ H' xs B',zJ H1 H' ->H' D=some (.lst xs)->zR B' xs vs->zJ B' (Zf B1 H1 H')->B' D=none->zJ B1 B' ->F H'):
  ∃ W,(∃ m,W 0 m [] (Xn k js σ) (upd H1 D (.lst [])))/\ky J D tG (fun σ H Q=>∃ Y' ρ',Y'.cl=Y.cl/\tS Y' rE ft ρ' σ H Q) (fun σ H Q=>∃ Y' ρ',Y'.cl=Y.cl/\tS Y' rC fe ρ' σ H Q) (fun _ H' =>F H') W:=by
 refine ⟨fun i m ys σ' H' =>m=ts.length - i/\i<=ts.length/\ys.length<=i/\H' D=some (.lst ys)/\∃ ρ' B' us ws,SI ⟨B1,H1,fun _ _ _=>False,Y.cl⟩ B' ρ' σ' H' /\kz ρ' /\zJ B1 B' /\B' D=none/\zR B' ys us/\Z6 g ft fe (ts.drop i) ρ' = .ok ws/\us++ws=vs,
  ⟨ts.length,by simp,Nat.zero_le _,Nat.zero_le _,Zv,_,B1,[],vs,I.block (H3:=H1) k js _ hD _,xv k js ρ,zJ.refl _,I.sB.free hD, .nil,ev,rfl⟩, ?_⟩
 rintro i m ys σ' H' ⟨rfl,hi,hyl,hDl,ρ',B',us,ws,I',no',s1',bD,r',ew,eall⟩
 refine ⟨hDl, ?_⟩
 obtain ⟨hgo,hyld,hstop⟩:=rI' B' H' s1' I'.sB
 have tD:∀ H2,zJ H' H2->Zf B' H' H2 D=none:=fun H2 s=>by rw [jc hDl]; exact bD
 by_cases hlt:i < ts.length
 ·refine .inr ⟨hgo i hlt,fun x H2 y=> ?_⟩
  obtain ⟨s2,r2⟩:=hyld i _ x H2 (List.getElem?_eq_getElem hlt) y
  rw [List.drop_eq_getElem_cons hlt] at ew
  unfold Z6 at ew
  have I2:=I'.grow s2
  refine hG _ _ ρ' σ' H2 x _ _ I2 r2 ?_
  cases eg:g ts[i] ρ' with
  | bad=>rw [eg] at ew; cases ew
  | ex c=>rw [eg] at ew; cases ew
  | ok ρ1=>
   rw [eg] at ew
   have no1:kz ρ1:=hN _ _ _ no' eg
   intro σ1 J1
   refine ⟨⟨B1,H1,fun _ _ _=>False,Y.cl⟩,ρ1,rfl,_,J1, ?_⟩
   have ew1:(ft ρ1).bind (fun k=>if k=true then (fe ρ1).bind fun v=>(Z6 g ft fe (ts.drop (i+1)) ρ1).bind fun vs=> .ok (v :: vs) else Z6 g ft fe (ts.drop (i+1)) ρ1)= .ok ws:=ew
   cases ef:ft ρ1 with
   | bad=>rw [ef] at ew1; cases ew1
   | ex c=>rw [ef] at ew1; cases ew1
   | ok kk=>
    rw [ef] at ew1
    intro b H3 s3 eb
    have eb' :b=kk:=eb
    subst eb'
    have ew2:(if b=true then (fe ρ1).bind fun v=>(Z6 g ft fe (ts.drop (i+1)) ρ1).bind fun vs=> .ok (v :: vs) else Z6 g ft fe (ts.drop (i+1)) ρ1)= .ok ws:=ew1
    have J2:=J1.grow s3
    have hD3:H3 D=some (.lst ys):=s3 _ _ (s2 _ _ hDl)
    have bD3:Zf (Zf B' H' H2) H2 H3 D=none:=by rw [jc (s2 _ _ hDl)]; exact tD H2 s2
    have sB3:zJ B' (Zf (Zf B' H' H2) H2 H3):=(Zf.ge I'.sB s2).trans (Zf.ge I2.sB s3)
    cases b with
    | false=>
     have ew3:Z6 g ft fe (ts.drop (i+1)) ρ1= .ok ws:=ew2
     exact ⟨ts.length - (i+1),by omega,rfl,hlt,by omega,hD3,ρ1,_,us,ws,J2,no1,s1'.trans sB3,bD3,r'.mono sB3,ew3,eall⟩
    | true=>
     refine ⟨⟨B1,H1,fun _ _ _=>False,Y.cl⟩,ρ1,rfl,_,J2, ?_⟩
     have ew3:(fe ρ1).bind (fun v=>(Z6 g ft fe (ts.drop (i+1)) ρ1).bind fun vs=> .ok (v :: vs))= .ok ws:=ew2
     cases ee:fe ρ1 with
     | bad=>rw [ee] at ew3; cases ew3
     | ex c=>rw [ee] at ew3; cases ew3
     | ok v=>
      rw [ee] at ew3
      have ew4:(Z6 g ft fe (ts.drop (i+1)) ρ1).bind (fun vs=> .ok (v :: vs))= .ok ws:=ew3
      cases el:Z6 g ft fe (ts.drop (i+1)) ρ1 with
      | bad=>rw [el] at ew4; cases ew4
      | ex c=>rw [el] at ew4; cases ew4
      | ok ws' =>
       rw [el] at ew4
       cases ew4
       intro w H4 s4 rw4
       have hD4:H4 D=some (.lst ys):=s4 _ _ hD3
       have J3:=J2.grow s4
       have bD4:Zf (Zf (Zf B' H' H2) H2 H3) H3 H4 D=none:=by rw [jc hD3]; exact bD3
       have sB4:=sB3.trans (Zf.ge J2.sB s4)
       refine ⟨hD4,Nat.lt_of_lt_of_le (Nat.lt_of_le_of_lt hyl hlt) (J9 hl),ts.length - (i+1),by omega,rfl,hlt,by rw [List.length_append,List.length_singleton]; omega,Zv,ρ1,_,us++[v],ws', ?_,no1,s1'.trans sB4,bD4,(r'.mono sB4).append (.cons rw4 .nil),el,by rw [List.append_assoc]; exact eall⟩
       exact J3.acc bD4 hD (fun j ts' e=>(no1 j ts' e).elim) _
 ·have e:i=ts.length:=by omega
  subst e
  refine .inl ⟨hstop _ (Nat.le_refl _), ?_⟩
  rw [List.drop_length] at ew
  cases ew
  rw [List.append_nil] at eall
  subst eall
  refine hF H' ys B' I'.sH hDl r' (fun b o h=> ?_) bD s1'
  cases q:H1 b with
  | none=>rw [jb q]; exact I'.sB b o h
  | some u=>
   rw [jc q]
   have z:B' b=B1 b:=I'.old b u q
   rw [← z]; exact h
structure qi (X:Cx) (Y:Fx) (tg iter elt:Expr) (ifs:List Expr) (scope:Scope) (N' :List Str) (k:Nat) (js:List Nat) (fi:En->R (List T)) (tG:TG) (g:T->En->R En) (ft:En->R Bool) (fe:En->R T):Prop where
 sc:CSc X scope
 cp:z05 X scope N' k js
 cm:X.calm=true
 it:vv X Y tg iter fi
 gt:xt X scope N' fun XC=>PG XC tg tG
 gk:GOk tG g
 gn:GNo g
 tt:∀ Y',Y'.cl=Y.cl->xt X scope N' fun XC=>vz XC Y' ifs ft
 el:∀ Y',Y'.cl=Y.cl->xt X scope N' fun XC=>Snd XC Y' elt fe
 hs:∀ x,foldedSetIterable iter X.env x=pure x
theorem Jt (C:qi X Y tg iter elt ifs scope N' k js fi tG g ft fe):Snd X Y (.ListComp elt [⟨tg,iter,ifs,0⟩] scope pos) (jw fi g ft fe k js):= .mk fun ρ=>by
 intro pins s σ H Q I ⟨B,J,q⟩
 rw [eval_ListComp]
 refine UD (use:=none) (Q:=EP X pins σ Q) (F:=fun D H' =>Q (.ref D) H') (te:=fun σ H Q=>∃ Y' ρ',Y'.cl=Y.cl/\tS Y' rC fe ρ' σ H Q) (tt:=fun σ H Q=>∃ Y' ρ',Y'.cl=Y.cl/\tS Y' rE ft ρ' σ H Q) C.sc C.cp C.cm (C.it ρ) C.gt
  (fun cl Cx' s3 H3 fp pins pins' s σ H Q I ⟨Y',ρ',ey,q⟩=>C.tt Y' ey cl Cx' s3 H3 fp pins ρ' pins' s σ H Q I q) (fun cl Cx' s3 H3 fp pins pins' s σ H Q I ⟨Y',ρ',ey,q⟩=>C.el Y' ey cl Cx' s3 H3 fp pins ρ' pins' s σ H Q I q) I ?_ ?_ C.hs
 ·refine step J q fun ts it' H1 _ s1 r1 J1 q1=> ?_
  intro D hD
  unfold Zc at q1
  split at q1
  ·rename_i hl
   cases ev:Z6 g ft fe ts (qh k js ρ) with
   | bad=>rw [ev] at q1; exact q1.elim
   | ex c=>rw [ev] at q1; exact q1.elim
   | ok vs=>
    rw [ev] at q1
    refine ug C.gk C.gn J1 r1 hl ev hD fun H' xs B' s' e' r' l' b' sb' => ?_
    refine (show Po Y rC _ H1 (.ok (.lst vs)) Q from q1) (.ref D) H' s' ?_
    exact .lst (by rw [jb hD]; exact e') (r'.mono l')
  ·exact q1.elim
 ·intro D Cc H' s' I' q' hC h0 hL hcell hpin hns
  obtain ⟨m,hm⟩:=hns
  refine ⟨m,hm,fun h' hsb=>⟨.ref D,H', ?_,rfl,q'⟩⟩
  exact I'.turned (t' :=s'.toks) (fun b o hb e=>hsb.extBut b o hb e) hC (Ne.symm hL).symm (.inr h0) hcell hpin
end
end PV
namespace PV
open PySem PySem.Spec PyProof.Rows L2
section
variable {X:Cx} {Y:Fx} {tg iter elt:Expr} {ifs:List Expr} {scope:Scope} {pos pos' :Pos} {N' :List Str} {k:Nat} {js:List Nat} {fi:En->R (List T)} {tG:TG} {g:T->En->R En} {ft:En->R Bool} {fe:En->R T}
theorem Xo {i:Nat} {x:Str} {pc p' :Pos} (C:qi X Y tg iter elt ifs scope N' k js fi tG g ft fe) (hN:X.N.Nodup) (hi:X.N[i]? =some x) (hx:L2.Loc X.env.scope x)
  (hsw:swapsWith (.ListComp elt [⟨tg,iter,ifs,0⟩] scope pc) (some (.Name x p')) pos.line X.env=pure true) (hf:X.fn x=true\/X.env.scope.names.lookup x=some .local:=by first | exact .inl rfl | exact .inr rfl | assumption):
  ye X Y (.Assign [.Name x p'] (.ListComp elt [⟨tg,iter,ifs,0⟩] scope pc) pos) (ZC i (jw fi g ft fe k js)):= .mk fun ρ=>by
 intro pins s σ H D I ⟨B,J,q⟩
 rw [exec_Assign_Name_used _ _ _ _ hsw]
 refine wpAny_bind (wpAny_standAt (wpAny_bind ?_))
 show wpAny _ X.A (do let _ ← comprehension (.ListComp elt [⟨tg,iter,ifs,0⟩] scope pc) scope X.env _ (newList []) false (eval iter X.env) (some (assign (.Name x p') X.env))) _ _ s
 refine wpAny_bind (thn (UD (use:=some (assign (.Name x p') X.env)) (Q:=fun _ s' =>SP X pins D .next s') (F:=fun D' H' =>D.nx (σ.set i (some (.ref D'))) H') (te:=fun σ H Q=>∃ Y' ρ',Y'.cl=Y.cl/\tS Y' rC fe ρ' σ H Q) (tt:=fun σ H Q=>∃ Y' ρ',Y'.cl=Y.cl/\tS Y' rE ft ρ' σ H Q) C.sc C.cp C.cm (C.it ρ) C.gt
  (fun cl Cx' s3 H3 fp pins pins' s σ H Q I ⟨Y',ρ',ey,q⟩=>C.tt Y' ey cl Cx' s3 H3 fp pins ρ' pins' s σ H Q I q) (fun cl Cx' s3 H3 fp pins pins' s σ H Q I ⟨Y',ρ',ey,q⟩=>C.el Y' ey cl Cx' s3 H3 fp pins ρ' pins' s σ H Q I q) I ?_ ?_ C.hs) fun _ s' hq=>wpAny_pure (wpAny_pure hq))
 ·have q' :PoS Y B (((fi ρ).s fun ts=>(Zc g ft fe k js ρ ts).s fun vs=> .nx (ρ.set i (.vl (.lst vs))))) D:=by
   unfold ZC jw at q
   revert q
   cases fi ρ with
   | bad=>exact fun q=>q
   | ex c=>exact fun q=>q
   | ok ts=>
    intro q
    have q2:PoS Y B (((Zc g ft fe k js ρ ts).bind fun vs=>R.ok (T.lst vs)).s fun t=>RS.nx (List.set ρ i (Sl.vl t))) D:=q
    show PoS Y B ((Zc g ft fe k js ρ ts).s fun vs=>RS.nx (List.set ρ i (Sl.vl (T.lst vs)))) D
    revert q2
    cases Zc g ft fe k js ρ ts with
    | bad=>exact fun q=>q
    | ex c=>exact fun q=>q
    | ok vs=>exact fun q=>q
  refine ud J q' fun ts it' H1 _ s1 r1 J1 q1=> ?_
  intro D' hD
  unfold Zc at q1
  split at q1
  ·rename_i hl
   cases ev:Z6 g ft fe ts (qh k js ρ) with
   | bad=>rw [ev] at q1; exact q1.elim
   | ex c=>rw [ev] at q1; exact q1.elim
   | ok vs=>
    rw [ev] at q1
    refine ug C.gk C.gn J1 r1 hl ev hD fun H' xs B' s' e' r' l' b' sb' => ?_
    have rr:Rep (Zf (Zf B H H1) H1 H') (.ref D') (.lst vs):= .lst (by rw [jb hD]; exact e') (r'.mono l')
    exact q1 _ _ _ (Zf.ge J1.sB s') ((J1.grow s').setV i rr)
  ·exact q1.elim
 ·intro D' Cc H' s' I' q' hC h0 hL hcell hpin hns
  obtain ⟨m,hm⟩:=hns
  show wpAny _ X.A (assign (.Name x p') X.env (.ref D')) _ _ s'
  refine wpAny_assign_Name (yg (v:= .ref D') I' hN hi hx rfl (fun s'' I'' ⟨a,hsb,ha⟩=> ?_) hf)
  have hne:Cc ≠ a:=by
   rcases ha with rfl | ha
   ·exact hL
   ·exact (hcell x a ha).symm
  refine ⟨m,hm.sameBut hsb hne,fun h' hsb' =>⟨_,H', ?_,q'⟩⟩
  exact I''.turned (t' :=s''.toks) (fun b o hb e=>hsb'.extBut b o hb e) hC hL (.inr h0) hcell hpin
end
end PV
namespace PV
open PySem PySem.Spec PyProof.Rows L2
noncomputable def Itc (x:Str):It:=⟨fun i _=>i < x.cps.size,fun i H v H' =>H' =H/\∃ c,x.cps[i]? =some c/\v= .str ⟨#[c]⟩,fun i _=>x.cps.size<=i⟩
theorem Ud {P:Program} {w:World} {K:PySem.W.Frag} {tg:Expr} {x:Str} {t:Tok} {ty:String} (it:Addr) (hty:ty="str_ascii_iterator"\/ty="str_iterator"):QD P w K tg (Itc x) [it] it (fun i h=>h.IsStrIter it ty x t i):=by
 have W:∀ A:Around,A.handled=none->Walks P w A it [it] [it] x.cps.size (SignAt x) (fun i h=>h.IsStrIter it ty x t i):=fun A hA=>by
  rcases hty with rfl | rfl
  ·exact Walks.strAscii hA it x t
  ·exact Walks.strWide hA it x t
 have hn:["enumerate","zip","dict_itemiterator","dict_reverseitemiterator","odict_iterator","itertools.zip_longest","itertools.pairwise"].contains ty=false:=by rcases hty with rfl | rfl <;> decide
 refine ⟨by simp,fun i h st b hb=> ?_,fun i h h' st k=> ?_, ?_, ?_,fun A i s Q E st h=> ?_⟩
 ·have e:b=it:=by simpa using hb
  subst e
  obtain ⟨o,e,c,d⟩:=st
  exact ⟨o,e,fun v z=>by rw [d] at z; cases z⟩
 ·obtain ⟨o,e,r⟩:=st
  exact ⟨o,k it (by simp) o e,r⟩
 ·intro X hP hw hK hc i pins s σ H E I hf st hg
  subst hP hw hK
  obtain ⟨f0,f1,f2,f3,f4,f5⟩:=hf it (by simp)
  refine (W X.A (I.ok.hd hc)).item i s _ _ hg st fun v h' tk hv st' kk=> ?_
  obtain ⟨c,u,hc',rfl⟩:=hv
  have I1:L2.Inv X pins σ H { s with heap:=h',toks:=tk }:=I.turned (fun b o hb e=>kk b o (by simpa using hb) e) f0 f1 f3 f4 f5
  obtain ⟨o,e,cl,d⟩:=id st'
  exact ⟨_,rfl,qP (s:={ s with heap:=h',toks:=tk }) e cl d hn ⟨.str ⟨#[c]⟩,H,I1,⟨u,rfl⟩,⟨rfl,c,hc',rfl⟩,st',fun b hb=>(hf b hb).1⟩⟩
 ·intro X hP hw hK hc i pins s σ H E I hf st hg
  subst hP hw hK
  obtain ⟨f0,f1,f2,f3,f4,f5⟩:=hf it (by simp)
  have hx:x.cps[i]? =none:=Array.getElem?_eq_none hg
  rcases hty with rfl | rfl
  ·exact wpAny_pyNext_ascii_end (I.ok.hd hc) st hx fun h' eb=>⟨rfl,I.turned (t' :=s.toks) (fun b o hb e=>eb b o hb e) f0 f1 f3 f4 f5⟩
  ·exact wpAny_pyNext_wide_end (I.ok.hd hc) st hx fun h' eb=>⟨rfl,I.turned (t' :=s.toks) (fun b o hb e=>eb b o hb e) f0 f1 f3 f4 f5⟩
 ·rcases hty with rfl | rfl
  ·exact wpAny_pyIter_striter_ascii st h
  ·exact wpAny_pyIter_striter_wide st h
noncomputable def wE (x:Str):List T:=x.cps.toList.map fun c=>T.str ⟨#[c]⟩
theorem xw {B1 H1:Hp} {x:Str}:rI B1 H1 (Itc x) (wE x):=fun B2 H2 s1 s2=>by
 have hl:(wE x).length=x.cps.size:=by unfold wE; simp
 refine ⟨fun i hi=>by rw [hl] at hi; exact hi,fun i t v H3 e y=> ?_,fun i hi=>by rw [hl] at hi; exact hi⟩
 obtain ⟨rfl,c,hc,rfl⟩:=y
 refine ⟨zJ.refl _, ?_⟩
 unfold wE at e
 rw [List.getElem?_map] at e
 have hc' :x.cps.toList[i]? =some c:=by simpa using hc
 rw [hc'] at e
 cases e
 exact .str _
section
variable {X:Cx} {Y:Fx} {a b c d tg:Expr} {fa fb fc fd:En->R T} {pos p:Pos}
theorem gu {l:Expr} {tl:TE} (hl:PE X l tl):PI X tg l (fun σ H R=>tl σ H fun x H1=>(∃ a,x= .ref a/\(((∃ xs,SqL X.K H1 a xs)/\R (Itl X.K a) H1)\/((∃ xs,SqT X.K H1 a xs)/\R (Itt X.K a) H1)))\/(∃ z,x= .str z/\R (Itc z) H1)):=by
 intro pins s σ H R I h
 refine thn (hl pins s σ H _ I h) fun v s1 ⟨x,H1,I1,r1,q1⟩=> ?_
 have ok:∀ b∈[s1.heap.objs.size],Yh X pins H1 b:=fun b hb=>by
  have e:b=s1.heap.objs.size:=by simpa using hb
  subst e
  exact I1.fpOk (Nat.le_refl _) (I1.hok.fresh (Nat.le_refl _))
 rcases q1 with ⟨a,e,q⟩ | ⟨z,e,q⟩
 ·subst e
  obtain rfl:v=Value.ref a:=r1
  rcases q with ⟨⟨xs,hq⟩,q⟩ | ⟨⟨xs,hq⟩,q⟩
  ·obtain ⟨its,rv,p,hz⟩:=I1.list hq
   exact wpAny_pyIter_list p.isList ⟨s1.heap.objs.size,[s1.heap.objs.size],_,_,H1,rfl,I1.kept (t' :=s1.toks) fun b o e=>Heap.get?_push_of_some _ e,QE a _,⟨_,Heap.get?_push_size _ rfl,rfl,rfl⟩,ok,q⟩
  ·obtain ⟨its,rv,p,hz⟩:=I1.tuple hq
   exact wpAny_pyIter_tuple (show s1.heap.IsTuple a its.toArray from p) ⟨s1.heap.objs.size,[s1.heap.objs.size],_,_,H1,rfl,I1.kept (t' :=s1.toks) fun b o e=>Heap.get?_push_of_some _ e,qQ a _,⟨_,Heap.get?_push_size _ rfl,rfl,rfl⟩,ok,q⟩
 ·subst e
  obtain ⟨t,rfl⟩:=r1
  cases ha:z.cps.all (· < 128)
  ·exact wpAny_pyIter_wide ha ⟨s1.heap.objs.size,[s1.heap.objs.size],_,_,H1,rfl,I1.kept (t' :=s1.toks) fun b o e=>Heap.get?_push_of_some _ e,Ud _ (.inr rfl),⟨_,Heap.get?_push_size _ rfl,rfl,rfl⟩,ok,q⟩
  ·exact wpAny_pyIter_ascii ha ⟨s1.heap.objs.size,[s1.heap.objs.size],_,_,H1,rfl,I1.kept (t' :=s1.toks) fun b o e=>Heap.get?_push_of_some _ e,Ud _ (.inl rfl),⟨_,Heap.get?_push_size _ rfl,rfl,rfl⟩,ok,q⟩
noncomputable def uh:T->R (List T)
 | .lst xs=> .ok xs
 | .tup xs=> .ok xs
 | .str x=> .ok (wE x)
 | _=> .bad
noncomputable def WN (fa:En->R T):En->R (List T):=fun ρ=>(fa ρ).bind uh
theorem Wd (ha:Snd X Y a fa):vv X Y tg a (WN fa):= .mk fun ρ=>PI.imp (gu (ha ρ)) fun σ H R ⟨B,I,q⟩=>step I q fun t v H1 _ s1 r1 I1 q1=>by
 cases r1 with
 | @tup l xs ts h r=>
  exact .inl ⟨l,rfl, .inr ⟨⟨xs,SqT.of (I1.sB _ _ h)⟩,Jr I1 (show Po Y rI _ H1 (.ok ts) R from q1) (gr h r)⟩⟩
 | @lst l xs ts h r=>
  exact .inl ⟨l,rfl, .inl ⟨⟨xs,SqL.of (I1.sB _ _ h)⟩,Jr I1 (show Po Y rI _ H1 (.ok ts) R from q1) (gs h r)⟩⟩
 | str z=>exact .inr ⟨z,rfl,Jr I1 (show Po Y rI _ H1 (.ok (wE z)) R from q1) xw⟩
 | _=>exact q1.elim
end
theorem Inv.laidT {X:Cx} {pins:List (Addr×Obj)} {σ:Sg} {H:Hp} {s:Shared} {h' :Heap} {tk:Nat} {ch:List Addr} {a:Addr} {xs:List V} (I:L2.Inv X pins σ H s) (hf:∀ b∈ch,Yh X pins H b) (k:∀ b o,b ∉ ch->s.heap.get? b=some o->h'.get? b=some o)
  (th:∀ b o,b∈ch->s.heap.get? b=some o->∃ o',h'.get? b=some o') (ha:s.heap.objs.size<=a) (new:jv X.prog X.w (upd H a (.tup xs)) h' a (.tup xs)):L2.Inv X pins σ (upd H a (.tup xs)) { s with heap:=h',toks:=tk }:=by
 have hn:H a=none:=I.hok.fresh ha
 have nch:∀ b u,H b=some u->b ∉ ch:=fun b u e hb=>by rw [(hf b hb).1] at e; cases e
 refine I.call' (s' :={ s with heap:=h',toks:=tk }) (ch:=ch) rfl ⟨fun b o e n _ hc=>k b o hc e,fun b o e n _ hc=>⟨o.slots,k b o hc e⟩,fun b o e n _=>by rw [zI (Nat.ne_of_lt (Nat.lt_of_lt_of_le (Heap.lt_size e) ha))]; exact n,fun b o e hc=>⟨o,k b o hc e⟩,
  fun b ys e=>by rw [zI (Z0 e hn)]; exact e,fun b o u e=>by rw [zI (Z0 e hn)]; exact e,fun b ps e=>⟨#[],by rw [zI (Z0 e hn),e]; simp⟩⟩ (fun b u e=> ?_) I.bare fun b hb=> ?_
 ·by_cases hb:b=a
  ·subst hb; rw [Zv] at e; cases e; exact new
  ·rw [zI hb] at e
   refine (I.hok b u e).stay (fun c v hc q=> ?_) (fun c q=>by rw [zI (Z0 q hn)]; exact q) fun c ys q=>by rw [zI (Z0 q hn)]; exact q
   rcases hc with rfl | hc
   ·exact k c v (nch c u e) q
   ·exact k c v (nch c _ hc) q
 ·obtain ⟨f0,f1,f2,f3,f4,f5⟩:=hf b hb
  exact ⟨f3,f1,f4,f5⟩
noncomputable def Ite (K:PySem.W.Frag) (l:Addr):It:=
 ⟨fun i H=>∃ xs x,SqL K H l xs/\xs[i]? =some x,fun i H v H' =>∃ p x,H p=none/\v= .ref p/\(∀ xs,SqL K H l xs->xs[i]? =some x)/\H' =upd H p (.tup [.int i,x]),fun i H=>∃ xs,SqL K H l xs/\xs.length<=i⟩
theorem vA {P:Program} {w:World} {K:PySem.W.Frag} {elts:List Expr} {kk:Nat} {pt:Pos} (e it l:Addr) (hei:e ≠ it) (hle:l ≠ e) (hli:l ≠ it):
  QD P w K (.Tuple elts kk pt) (Ite K l) [e,it] e (fun i h=>(∃ old,IsEnum h e it i old)/\h.IsListIter it l i) where
 mem:=by simp
 obj:=fun i h st b hb=>by
  obtain ⟨⟨old,he⟩,o,e1,c,d⟩:=st
  rcases List.mem_cons.mp hb with rfl | hb
  ·exact ⟨_,he,fun v z=>nomatch z⟩
  ·have z:b=it:=by simpa using hb
   subst z
   exact ⟨o,e1,fun v z=>by rw [d] at z; cases z⟩
 keep:=fun i h h' st k=>by
  obtain ⟨⟨old,he⟩,hit⟩:=st
  exact ⟨⟨old,k e (by simp) _ he⟩,hit.at fun o x=>k it (by simp) o x⟩
 item:=by
  intro X hP hw hK hc i pins s σ H E I hf st hg
  subst hP hw hK
  obtain ⟨xs,x,hq,hx⟩:=hg
  obtain ⟨its,rv,p,hz⟩:=I.list hq
  obtain ⟨u,hu,ru⟩:=rv.get hx
  obtain ⟨⟨old,he⟩,hit⟩:=st
  have hi:i < its.toArray.size:=by
   have:=(List.getElem?_eq_some_iff.mp hu).1
   simpa using this
  refine (WalksT.enumerate (prog:=X.prog) (w:=X.w) (I.ok.hd hc) e it l hei hle hli its.toArray).item i s _ _ hi ⟨⟨old,he⟩,hit,p.isList⟩ fun T vals h' tk hP hT hTup hM hk=> ?_
  obtain ⟨t,y,hy,rfl⟩:=hP
  have hyu:y=u:=by
   have:its[i]? =some y:=by simpa using hy
   rw [hu] at this; exact (Option.some.inj this).symm
  subst hyu
  refine ⟨.ref T,rfl, ?_⟩
  refine (WalksT.enumerate (prog:=X.prog) (w:=X.w) (I.ok.hd hc) e it l hei hle hli its.toArray).go elts kk pt i T _ _ _ hM fun h2 hst2 hk2=> ?_
  have hTn:H T=none:=I.hok.fresh hT
  have hTne:∀ b∈[e,it],b ≠ T:=fun b hb z=>by
   obtain ⟨_,_,_,h3,h4⟩:=hM
   rcases List.mem_cons.mp hb with rfl | hb
   ·exact h3 z.symm
   ·have:b=it:=by simpa using hb
    subst this; exact h4 z.symm
  have Kn:IsTup h2 T #[.int i t,y]:=by
   obtain ⟨o,eo,r⟩:=hTup
   exact ⟨o,hk2 T o (fun hb=>hTne T hb rfl) eo,r⟩
  refine ⟨.ref T,upd H T (.tup [.int i,x]),Inv.laidT (s:=s) (h' :=h2) (ch:=[e,it]) (tk:=tk) I hf (fun b o hb e=>hk2 b o hb (hk b o hb e)) (fun b o hb _=> ?_) hT ⟨by rw [sizeLine_eq]; show 2<=16777216; decide,[.int i t,y], .cons ⟨t,rfl⟩ (.cons ru .nil),Kn⟩,rfl,⟨T,x,hTn,rfl,fun ys hy=>by rw [I.list_inj hy hq]; exact hx,rfl⟩,⟨hst2.1,hst2.2.1⟩,fun b hb=> ?_⟩
  ·obtain ⟨⟨old2,he2⟩,⟨o2,eo2,_⟩,_⟩:=hst2
   rcases List.mem_cons.mp hb with rfl | hb
   ·exact ⟨_,he2⟩
   ·have:b=it:=by simpa using hb
    subst this; exact ⟨o2,eo2⟩
  ·rw [zI (hTne b hb)]; exact (hf b hb).1
 done:=by
  intro X hP hw hK hc i pins s σ H E I hf st hg
  subst hP hw hK
  obtain ⟨xs,hq,hx⟩:=hg
  obtain ⟨its,rv,p,hz⟩:=I.list hq
  obtain ⟨⟨old,he⟩,hit⟩:=st
  have hl:=rv.length
  refine wpAny_pyNext_enum_end (I.ok.hd hc) he hit p.isList (Array.getElem?_eq_none (by simp; omega)) fun h' hk=>⟨rfl, ?_⟩
  obtain ⟨f0,f1,f2,f3,f4,f5⟩:=hf it (by simp)
  exact I.turned (t' :=s.toks) (fun b o hb e=>hk b o hb e) f0 f1 f3 f4 f5
 self:=fun _ _ _ _ _ st h=>let ⟨⟨_,he⟩,_⟩:=st; wpAny_pyIter_enum he h
noncomputable def uZ (xs:List T):List T:=(xs.zipIdx).map fun p=>T.tup [.int (p.2:Nat),p.1]
theorem vC {xs:List T} {i:Nat} {t:T} (h:(uZ xs)[i]? =some t):∃ x,xs[i]? =some x/\t= .tup [.int (i:Nat),x]:=by
 unfold uZ at h
 rw [List.getElem?_map,List.getElem?_zipIdx] at h
 cases e:xs[i]? with
 | none=>rw [e] at h; cases h
 | some x=>rw [e] at h; cases h; exact ⟨x,rfl,by simp⟩
theorem yz (xs:List T):(uZ xs).length=xs.length:=by unfold uZ; simp
theorem kA {K:PySem.W.Frag} {B1 H1:Hp} {a:Addr} {xs:List V} {ts:List T} (h:B1 a=some (.lst xs)) (r:zR B1 xs ts):rI B1 H1 (Ite K a) (uZ ts):=fun B2 H2 s1 s2=>by
 have h2:=s2 _ _ (s1 _ _ h)
 rw [yz]
 refine ⟨fun i hi=> ?_,fun i t x H3 e y=> ?_,fun i hi=>⟨xs,SqL.of h2,by rw [r.length]; exact hi⟩⟩
 ·obtain ⟨v,e,_⟩:=r.get (List.getElem?_eq_getElem hi)
  exact ⟨xs,v,SqL.of h2,e⟩
 ·obtain ⟨p,v,hp,rfl,y,rfl⟩:=y
  obtain ⟨t',et,rfl⟩:=vC e
  obtain ⟨v',e1,r1⟩:=r.get et
  have:=y xs (SqL.of h2)
  rw [e1] at this; cases this
  refine ⟨zJ.new hp _, .tup (W9 hp _) (.cons (.int _) (.cons ?_ .nil))⟩
  exact (r1.mono s1).mono (Zf.ge s2 (zJ.new hp _))
section
variable {X:Cx} {Y:Fx} {a:Expr} {fa:En->R T} {pos p pt:Pos} {elts:List Expr} {kk:Nat}
theorem kB {ta:TA} (hg:Gl X "enumerate") (hm:X.mg "enumerate"=none) (ha:PA X [a] ta) (hs:St1 X a:=by exact st1 rfl):
  PI X (.Tuple elts kk pt) (.Call (.Name "enumerate" p) [a] [] pos) (fun σ H R=>ta σ H fun vs H1=>∃ l xs,vs=[.ref l]/\H1 l=some (.lst xs)/\R (Ite X.K l) H1):=by
 intro pins s σ H R I h
 refine Call_ (ww I hg hm PyProof.Rows.Boot.«enumerate» (PyProof.Rows.callWith_type1 (thn (ha pos pins s σ H _ I h) fun us s1 ⟨vs,H1,I1,r1,q1⟩=> ?_) hs rfl))
 obtain ⟨l,xs,e,hl,q⟩:=q1
 subst e
 obtain ⟨u,rfl,ru⟩:=wD r1
 obtain rfl:u=Value.ref l:=ru
 obtain ⟨_,its,n,rv,eo⟩:=(show jv X.prog X.w H1 s1.heap l (.lst xs) from I1.hok l _ hl)
 have hlt:l < s1.heap.objs.size:=Heap.lt_size eo
 refine call_enumerate_1 eo fun h' he hit hsz hk=>wpAny_pyIter_enum he ?_
 have f:∀ b∈[s1.heap.objs.size+1,s1.heap.objs.size],Yh X pins H1 b:=fun b hb=>by
  rcases List.mem_cons.mp hb with rfl | hb
  ·exact I1.fpOk (Nat.le_succ _) (I1.hok.fresh (Nat.le_succ _))
  ·have z:b=s1.heap.objs.size:=by simpa using hb
   subst z
   exact I1.fpOk (Nat.le_refl _) (I1.hok.fresh (Nat.le_refl _))
 exact ⟨s1.heap.objs.size+1,[s1.heap.objs.size+1,s1.heap.objs.size],_,_,H1,rfl,I1.kept (t' :=s1.toks) hk,vA _ _ l (Nat.succ_ne_self _) (Nat.ne_of_lt (Nat.lt_succ_of_lt hlt)) (Nat.ne_of_lt hlt),⟨⟨_,he⟩,hit⟩,f,q⟩
noncomputable def kC (fa:En->R T):En->R (List T):=fun ρ=>(fa ρ).bind fun t=>match t with
 | .lst xs=> .ok (uZ xs)
 | _=> .bad
theorem gv (hg:Gl X "enumerate") (hm:X.mg "enumerate"=none) (ha:Snd X Y a fa) (hs:St1 X a:=by exact st1 rfl):vv X Y (.Tuple elts kk pt) (.Call (.Name "enumerate" p) [a] [] pos) (kC fa):= .mk fun ρ=>
 PI.imp (kB hg hm (zS (ha ρ) ja hs) hs) fun σ H R ⟨B,I,q⟩=>step I q fun t v H1 _ s1 r1 I1 q1=>by
  cases r1 with
  | @lst l xs ts h r=>exact ⟨l,xs,rfl,I1.sB _ _ h,Jr I1 (show Po Y rI _ H1 (.ok (uZ ts)) R from q1) (kA h r)⟩
  | _=>exact q1.elim
noncomputable def Qy:List T->Option (List Str)
 | []=>some []
 | .str x :: r=>match Qy r with | some ys=>some (x :: ys) | none=>none
 | _ :: _=>none
noncomputable def gw (sep:Str):T->R T
 | .lst ts=>match Qy ts with
  | some ys=>if (ys.map (·.length)).sum+ys.length*sep.length<=16777216 then .ok (.str (Txt.join sep ys)) else .bad
  | none=> .bad
 | _=> .bad
theorem UH {H:Hp}:∀ {xs:List V} {ts:List T} {its:List Value} {ys:List Str},zR H xs ts->ZB xs its->Qy ts=some ys->StrsAre its ys
 | _,_,_,ys, .nil, .nil,h=>by
  have h' :some []=some ys:=h
  cases h'; exact .nil
 | _,_,_,ys, .cons (t:=t) r rs, .cons (b:=u) rv vs,h=>by
  cases r with
  | str x=>
   unfold Qy at h
   split at h
   ·rename_i zs e
    cases h
    obtain ⟨tk,rfl⟩:=rv
    exact .cons x tk (UH rs vs e)
   ·cases h
  | _=>cases h
theorem kD:MtR X "str.join" (fun x xs H Q=>∃ z l zs ts ys,x= .str z/\xs=[.ref l]/\H l=some (.lst zs)/\zR H zs ts/\Qy ts=some ys/\(ys.map (·.length)).sum+ys.length*z.length<=16777216/\Q (.str (Txt.join z ys)) H):=by
 intro pins s σ H x xs v us Q I rx rv h
 obtain ⟨z,l,zs,ts,ys,rfl,rfl,hl,r,e,hb,q⟩:=h
 obtain ⟨t,rfl⟩:=rx
 obtain ⟨u,rfl,ru⟩:=wD rv
 obtain rfl:u=Value.ref l:=ru
 obtain ⟨its,rv,p,_⟩:=Zl I (.inl hl) r
 exact join_list p (by simpa using UH r rv e) hb fun t' k=>⟨.str _,H,I.tok k,⟨t',rfl⟩,q⟩
theorem gx {z:Str} {kc:Nat} {pz pa:Pos} (ha:W7 X Y a fa) (hb:attributeBase (.Constant (.str z) kc pz) "join" X.env (eval (.Constant (.str z) kc pz) X.env)=eval (.Constant (.str z) kc pz) X.env:=by rfl) (hs:St1 X a:=by exact st1 rfl)
  (hz:(pa.endLine == p.line)=true:=by rfl):Snd X Y (.Call (.Attribute (.Constant (.str z) kc pz) "join" pa) [a] [] p) (ap1 (gw z) fa):= .mk fun ρ=>by
 have e1:(((((backTo p (starEach [a] X.env)).all fun x=> !x.fst) && (backToKw p (keywordEach [] X.env)).all fun x=>x.fst.isSome) && decide (([a].length+([]:List Keyword).length+if ([]:List Keyword).isEmpty=true then 0 else 1) < 30))=true):=by rw [hs]; rfl
 refine PE.imp (x8 PySem.F.plainAttrs_str PySem.F.slot_str_join PySem.F.type_str_join kD X4 (zS (ha ρ) ja hs) hb e1 hz hs rfl) fun σ H Q ⟨B,I,q⟩=> ?_
 refine ⟨rfl,step I q fun t v H1 _ s1 r1 I1 q1=> ?_⟩
 cases r1 with
 | @lst l xs ts h r=>
  have q1:Po Y rC _ H1 (match Qy ts with | some ys=>if (ys.map (·.length)).sum+ys.length*z.length<=16777216 then .ok (.str (Txt.join z ys)) else .bad | none=> .bad) Q:=q1
  split at q1
  ·rename_i ys e
   split at q1
   ·rename_i hl
    exact ⟨z,l,xs,ts,ys,rfl,rfl,h,r,e,hl,po0 I1.sB q1 rfl (.str _)⟩
   ·exact q1.elim
  ·exact q1.elim
 | _=>exact q1.elim
end
end PV
namespace PV
open PySem PySem.Spec PyProof.Rows L2
noncomputable def dd:List Str->List Str->List Str
 | acc,[]=>acc
 | acc,x :: r=>dd (if x∈acc then acc else acc++[x]) r
section
variable {prog:Program} {w:World} {A:Around} {R:Result->Shared->Prop} {I:Addr} {fp wr:List Addr} {n:Nat} {P:Nat->Value->Prop} {St:Nat->Heap->Prop}
theorem wl {h h' :Heap} {S:Addr} {f g:Str->Bool} {m k:Nat} (x:h.SetOf (strKind prog w) S f m) (e:∀ o,h.get? S=some o->h'.get? S=some o) (ef:f=g) (em:m=k):h'.SetOf (strKind prog w) S g k:=by
 subst ef em
 obtain ⟨o,es,ep,t,ho,r⟩:=x
 exact ⟨o,es,ep,t,e o ho,r⟩
theorem xx (W:Walks prog w A.in1 I fp wr n P St) (S:Addr) (hSf:S ∉ fp) (val:Nat->Str) (hval:∀ i v,P i v->∃ t,v=Value.str (val i) t) (hb:n+1 < scanBound):
  ∀ (k i:Nat) (acc:List Str) (s:Shared),n - i=k->i<=n->acc.length<=i->St i s.heap->s.heap.SetOf (strKind prog w) S (fun x=>decide (x∈acc)) acc.length->
   (∀ h' tk,(∀ b o,b ∉ S :: wr->s.heap.get? b=some o->h'.get? b=some o)->h'.SetOf (strKind prog w) S (fun x=>decide (x∈dd acc ((List.range' i k).map val))) (dd acc ((List.range' i k).map val)).length->
    R (.ok (.ret .none)) { s with heap:=h',toks:=tk })->codeAny (model prog w) A (.builtin "set.update.loop" ⟨[.ref S, .ref I],[]⟩) R s:=by
 intro k
 induction k with
 | zero=>
  intro i acc s hk hi hal hst hS hR
  obtain rfl:i=n:=by omega
  refine codeAny_builtin F.entry_set_update_loop ?_
  rw [Around.under_plainId F.plain_set_update_loop _]
  refine wpAny_bind (m:=pyNext (.ref I)) (W.done s _ _ hst fun h' tk hk' =>wpAny_pure ?_)
  exact hR h' tk (fun b o hb e=>hk' b o (fun z=>hb (List.mem_cons_of_mem _ z)) e) (wl hS (fun o e=>hk' S o (fun z=>hSf (W.sub _ z)) e) rfl rfl)
 | succ k ih=>
  intro i acc s hk hi hal hst hS hR
  refine codeAny_builtin F.entry_set_update_loop ?_
  rw [Around.under_plainId F.plain_set_update_loop _]
  refine wpAny_bind (m:=pyNext (.ref I)) (W.item i s _ _ (by omega) hst fun v h1 tk1 hP hst1 hk1=> ?_)
  obtain ⟨t,rfl⟩:=hval i v hP
  have hS1:=wl hS (fun o e=>hk1 S o (fun z=>hSf (W.sub _ z)) e) rfl rfl
  refine wpAny_bind (m:=holding [Value.str (val i) t] (setAdd S (.str (val i) t))) (wpAny_holding ?_)
  unfold setAdd
  have isk:(strKind prog w).is (val i) (.str (val i) t)=true:=strKind_is _ _ _ _
  refine wpAny_holding (wpAny_bind ((strKind prog w).pyHash isk ?_))
  refine wpAny_setAddHashed_of (knd:=strKind prog w) (s:={ s with heap:=h1,toks:=tk1+1 }) isk rfl hS1 (by omega) fun h2 hsb hS2=> ?_
  have e2:(if decide (val i∈acc)=true then acc.length else acc.length+1)=(if val i∈acc then acc else acc++[val i]).length:=by
   by_cases hm:val i∈acc
   ·simp [hm]
   ·simp [hm]
  have e1:(fun x=>decide (x∈acc) || decide (x=val i))=(fun x=>decide (x∈(if val i∈acc then acc else acc++[val i]))):=by
   funext x
   by_cases hm:val i∈acc
   ·simp only [if_pos hm]
    by_cases hx:x=val i
    ·subst hx; simp [hm]
    ·simp [hx]
   ·simp [hm,Bool.decide_or]
  have hS3:=wl (h' :=h2) hS2 (fun o e=>e) e1 e2
  refine wpAny_pure ⟨plainId_quiet F.plain_set_update_loop _,ih (i+1) _ _ (by omega) (by omega) ?_ (W.frame _ h1 _ hst1 fun b hb o e=> ?_) hS3 fun h3 tk3 hk3 hS4=> ?_⟩
  ·split
   ·omega
   ·rw [List.length_append,List.length_singleton]; omega
  ·exact (hsb.2 b (fun z:b=S=>hSf (z ▸ hb))).trans e
  ·rw [List.range'_succ,List.map_cons] at hR
   refine hR h3 tk3 (fun b o hb e=>hk3 b o hb ?_) hS4
   exact (hsb.2 b (fun z:b=S=>hb (z ▸ List.mem_cons_self))).trans (hk1 b o (fun z=>hb (List.mem_cons_of_mem _ z)) e)
end
section
variable {prog:Program} {w:World} {A:Around} {E:Value->Shared->Prop} {s:Shared}
set_option maxRecDepth 100000 in
set_option maxHeartbeats 3200000 in
theorem vD {l:Addr} {its:List Value} {ys:List Str} {Q:Value->Shared->Prop} (hh:A.handled=none) (hl:s.heap.IsList l its.toArray) (hi:StrsAre its ys) (hb:its.length+1 < scanBound)
  (h:∀ (h' :Heap) (tk:Nat),h'.SetOf (strKind prog w) s.heap.objs.size (fun x=>decide (x∈dd [] ys)) (dd [] ys).length->(∀ b o,b < s.heap.objs.size->s.heap.get? b=some o->h'.get? b=some o)->
   Q (.ref s.heap.objs.size) { s with heap:=h',toks:=tk }):wpAny (model prog w) A (call (.type "set") [.ref l]) Q E s:=by
 have getv:∀ {its:List Value} {ys:List Str},StrsAre its ys->its.length=ys.length/\∀ (i:Nat) (v:Value),its[i]? =some v->∃ t,v=Value.str (ys.getD i ⟨#[]⟩) t:=fun {its ys} hi=>by
  induction hi with
  | nil=>exact ⟨rfl,fun i v e=>by simp at e⟩
  | cons y t _ ih=>
   refine ⟨by simp [ih.1],fun i v e=> ?_⟩
   cases i with
   | zero=>exact ⟨t,by simpa using e.symm⟩
   | succ i=>exact ih.2 i v (by simpa using e)
 obtain ⟨hlen,hget⟩:=getv hi
 have hys:(List.range' 0 its.length).map (fun i=>ys.getD i ⟨#[]⟩)=ys:=by
  rw [hlen]
  refine List.ext_getElem? fun i=> ?_
  rw [List.getElem?_map]
  by_cases hi' :i < ys.length
  ·rw [List.getElem?_range' hi',List.getElem?_eq_getElem hi']
   simp [List.getElem?_eq_getElem hi']
  ·rw [List.getElem?_eq_none (by simp; omega),List.getElem?_eq_none (by omega)]
   rfl
 obtain ⟨c,tl,hmro⟩:=F.called_set.mro
 have hmade:=F.called_set.made
 have hsub:=F.called_set.sub
 have h1:=F.called_set.notType
 have h2:=F.called_set.canCreate
 have hct:=F.typeCall_set_1 (.ref l)
 refine wpAny_call (codeAny_of_tree (show wpAny _ _ (callAny (.type "set") _) _ _ _ from ?_))
 refine wpAny_pure ⟨Code.quiet_builtin _ (by decide+kernel),codeAny_builtin F.entry_type_call ?_⟩
 rw [Around.under_plain (weight_type_call_type "set" [.ref l] []) rfl]
 repeat any_goals (first | assumption | wp_step)
 refine codeAny_mono (code_set_new_1 (.ref l) (E:=E) (Q₁:=fun obj s₁=>∃ led:Bool,obj= .ref s.heap.objs.size/\s₁={ s with heap:=s.heap.push { cls:= .type "set",dict:=none,data:= .set #[] 0 (.fresh 0 0 led) } }) fun led=>⟨led,rfl,rfl⟩) fun r s₁ hr=> ?_
 cases r with
 | error e=>exact hr
 | ok fl=>
  cases fl with
  | ret obj=>
   obtain ⟨led,rfl,rfl⟩:=hr
   generalize hG:s.heap.push { cls:= .type "set",dict:=none,data:= .set #[] 0 (.fresh 0 0 led) }=G
   have hS:G.get? s.heap.objs.size=some { cls:= .type "set",dict:=none,data:= .set #[] 0 (.fresh 0 0 led) }:=by rw [← hG]; exact Heap.get?_push_size _ rfl
   have hGs:G.objs.size=s.heap.objs.size+1:=by rw [← hG,Heap.size_push]
   have hGk:∀ b o,s.heap.get? b=some o->G.get? b=some o:=fun b o e=>by rw [← hG]; exact Heap.get?_push_of_some _ e
   have hT:Shared.TypeIs { s with heap:=G } (.ref s.heap.objs.size) "set":=⟨_,hS,rfl⟩
   have hli:=F.called_set.init.lookup
   have hbi:=F.called_set.init.bind (.ref s.heap.objs.size)
   repeat any_goals (first | assumption | wp_step)
   refine codeAny_mono (codeAny_call_builtin (R:=wants (fun r s₂=>r= .none/\∃ h' tk,s₂={ s with heap:=h',toks:=tk }/\h'.SetOf (strKind prog w) s.heap.objs.size (fun x=>decide (x∈dd [] ys)) (dd [] ys).length/\
     (∀ b o,b < s.heap.objs.size->s.heap.get? b=some o->h'.get? b=some o)) E) F.called_set.init.plain F.entry_set_init (check_set_init_1 hT ?_)) fun r₂ s₂ hr₂=> ?_
   ·obtain ⟨⟨ocls,odict,odata,oslots⟩,hol,hcl,nl,hdl⟩:=hl
    simp only at hcl hdl
    subst hcl; subst hdl
    have hol' :=hGk _ _ hol
    have hsls:=F.sub_list_set
    have hslf:=F.sub_list_frozenset
    have hne:(Value.type "list" == Value.type "dict")=false:=by decide
    have hl1:G.IsList l its.toArray:=⟨_,hol',rfl,nl,rfl⟩
    have hlS:l < s.heap.objs.size:=Heap.lt_size hol
    unfold Builtin.«set.__init__» noKeywords Builtin.Frozenset.updateFrom
    generalize hPI:pyIter=PI
    wp_walk
    subst hPI
    refine wpAny_pyIter_list hl1 (wpAny_bind (wpAny_runValue ?_))
    have hSf:s.heap.objs.size ∉ [G.objs.size,l]:=by
     rw [hGs]
     intro z
     rcases List.mem_cons.mp z with z | z
     ·exact absurd z (Nat.ne_of_lt (Nat.lt_succ_self _))
     ·exact absurd (List.mem_singleton.mp z) (Nat.ne_of_gt hlS)
    refine xx (Walks.list (A:=A.in1.in1.in1) (by simp [hh]) G.objs.size l (by rw [hGs]; exact Nat.ne_of_lt (Nat.lt_succ_of_lt hlS)) its.toArray) s.heap.objs.size hSf (fun i=>ys.getD i ⟨#[]⟩) (fun i v e=>hget i v (by simpa using e)) (by simpa using hb) its.length 0 [] _ (by simp) (Nat.zero_le _) (Nat.le_refl _)
     ⟨⟨_,Heap.get?_push_size _ rfl,rfl,rfl⟩,hl1.push _⟩ ?_ ?_
    ·have hget' :(G.push { cls:= .type "list_iterator",data:= .fields #[.ref l, .int 0 0] }).get? s.heap.objs.size=some { cls:= .type "set",dict:=none,data:= .set #[] 0 (.fresh 0 0 led) }:=Heap.get?_push_of_some _ hS
     exact wl ((PyProof.Rows.setObjOf_fresh (knd:=strKind prog w) led).setOf hget' (by unfold scanBound; omega)) (fun o e=>e) (by funext x; simp) rfl
    ·intro h' tk' hm hS'
     rw [hys] at hS'
     refine wpAny_pure (show wpAny _ _ (ret Value.none) _ _ _ from wpAny_pure ⟨rfl,h',tk',rfl,hS',fun b o hb e=> ?_⟩)
     refine hm b o (fun z=> ?_) (Heap.get?_push_of_some _ (hGk b o e))
     rcases List.mem_cons.mp z with z | z
     ·exact absurd z (Nat.ne_of_lt hb)
     ·have z' :b=G.objs.size:=List.mem_singleton.mp z
      rw [hGs] at z'
      exact absurd z' (Nat.ne_of_lt (Nat.lt_succ_of_lt hb))
   ·cases r₂ with
    | error e=>exact hr₂
    | ok fl₂=>
     cases fl₂ with
     | ret r=>
      obtain ⟨rfl,h',tk,rfl,hS',hk'⟩:=hr₂
      repeat any_goals (first | assumption | wp_step)
      exact h _ _ hS' hk'
     | _=>exact hr₂.elim
  | _=>exact hr.elim
end
end PV
namespace PV
open PySem PySem.Spec PyProof.Rows L2
section
variable {X:Cx} {Y:Fx} {a b:Expr} {fa fb:En->R T} {pos pos' p p' :Pos}
theorem vF (hh:X.A.handled=none):Jq X (.type "set") (fun vs H Q=>∃ l xs ts ys,vs=[.ref l]/\H l=some (.lst xs)/\zR H xs ts/\Qy ts=some ys/\ts.length+1 < 4096/\
  ∀ q,H q=none->Q (.ref q) (upd H q (.ext fun h=>h.SetOf (strKind X.prog X.w) q (fun x=>decide (x∈dd [] ys)) (dd [] ys).length))):=by
 intro pins s σ H vs us Q I rv h
 obtain ⟨l,xs,ts,ys,rfl,hl,r,ey,hb,q⟩:=h
 obtain ⟨u,rfl,ru⟩:=wD rv
 obtain rfl:u=Value.ref l:=ru
 obtain ⟨its,rv,pl,hln,_⟩:=Zl I (.inl hl) r
 refine vD hh pl (UH r rv ey) (by unfold scanBound; omega) fun h' tk hS hk=> ?_
 refine ⟨.ref s.heap.objs.size,_,I.laid (t' :=tk) (fun b u e=>hk b u (Heap.lt_size e) e) (Nat.le_refl _) ?_,rfl,q _ (I.hok.fresh (Nat.le_refl _))⟩
 obtain ⟨o,es,ep,t,ho,rr⟩:=id hS
 exact ⟨hS,⟨o,ho⟩,fun h1 h2 ⟨o1,es1,ep1,t1,ho1,rr1⟩ e=>⟨o1,es1,ep1,t1,e _ ho1,rr1⟩⟩
theorem vG:Jq X (.builtin "len") (fun vs H Q=>∃ q φ f n,vs=[.ref q]/\H q=some (.ext φ)/\(∀ h:Heap,φ h->h.SetOf (strKind X.prog X.w) q f n)/\Q (.int n) H):=by
 intro pins s σ H vs us Q I rv h
 obtain ⟨l,φ,f,n,rfl,hl,hφ,q⟩:=h
 obtain ⟨u,rfl,ru⟩:=wD rv
 obtain rfl:u=Value.ref l:=ru
 obtain ⟨h1,_,_⟩:=(show jv X.prog X.w H s.heap l (.ext φ) from I.hok l _ hl)
 obtain ⟨o,es,ep,t,ho,hex,hd,_,_,hb,hf,hn⟩:=hφ _ h1
 refine call_len_set ho hex hd hf ?_ ⟨.int es.size,H,I.tok _,⟨_,rfl⟩,by rw [hn]; exact q⟩
 have:es.size < 4096:=hb
 omega
noncomputable def xy:T->R T
 | .lst ts=>match Qy ts with
  | some ys=>if ts.length+1 < 4096 then .ok (.int (dd [] ys).length) else .bad
  | none=> .bad
 | _=> .bad
theorem gy (hh:X.A.handled=none) (gl:Gl X "len") (mg:X.mg "len"=none) (gl' :Gl X "set") (mg' :X.mg "set"=none) (ha:W7 X Y a fa) (hs:St1 X a:=by exact st1 rfl) (hs' :St1 X (.Call (.Name "set" p') [a] [] pos'):=by exact st1 rfl):
  Snd X Y (.Call (.Name "len" p) [.Call (.Name "set" p') [a] [] pos'] [] pos) (ap1 xy fa):= .mk fun ρ=>
 PE.imp (WZ vG gl mg PySem.boot_len (zS (wQ (vF hh) gl' mg' PyProof.Rows.Boot.«set» (zS (ha ρ) ja hs) (by decide) (by decide) hs rfl) ja hs') (by decide) (by decide) hs' rfl) fun σ H Q ⟨B,I,q⟩=>
  step I q fun t v H1 _ s1 r1 I1 q1=>by
   cases r1 with
   | @lst l xs ts h r=>
    have q1:Po Y rC _ H1 (match Qy ts with | some ys=>if ts.length+1 < 4096 then .ok (.int (dd [] ys).length) else .bad | none=> .bad) Q:=q1
    split at q1
    ·rename_i ys e
     split at q1
     ·rename_i hl
      refine ⟨l,xs,ts,ys,rfl,h,r,e,hl,fun z hz=>⟨z,_,_,_,rfl,Zv,fun h hh=>hh, ?_⟩⟩
      exact q1 _ _ (zJ.new hz _) (.int _)
     ·exact q1.elim
    ·exact q1.elim
   | _=>exact q1.elim
noncomputable def gz (i j:Nat) (ga:En->R (List T)):En->RS:=fun ρ=>(ga ρ).s fun ts=>match ts with
 | [x,y]=> .nx ((ρ.set i (.vl x)).set j (.vl y))
 | _=> .bad
theorem z06 {i j:Nat} {x y:Str} {ga:En->R (List T)} {px py pt pt2:Pos} {kt k2:Nat} (hc:X.calm=true) (hN:X.N.Nodup) (hi:X.N[i]? =some x) (hj:X.N[j]? =some y) (hij:i ≠ j) (hx:X.env.scope.names.lookup x=some .local) (hy:X.env.scope.names.lookup y=some .local)
  (ha:Yq X Y [a,b] ga) (hs:swappedStores [.Tuple [.Name x px, .Name y py] kt pt] (.Tuple [a,b] k2 pt2) X.env=pure (some [x,y])) (hw:swapsWithSole [.Tuple [.Name x px, .Name y py] kt pt] (.Tuple [a,b] k2 pt2) pos.line X.env=pure false:=by rfl):
  ye X Y (.Assign [.Tuple [.Name x px, .Name y py] kt pt] (.Tuple [a,b] k2 pt2) pos) (gz i j ga):= .mk fun ρ=>
 PS.imp (KH hc hN hi hj hij hx hy (ha ρ) hs hw) fun D σ H ⟨B,I,q⟩=>ud I q fun ts vs H1 _ s1 r1 I1 q1=>by
  cases r1 with
  | nil=>exact q1.elim
  | cons r rr=>
   cases rr with
   | nil=>exact q1.elim
   | cons r' rr=>
    cases rr with
    | cons _ _=>exact q1.elim
    | nil=>exact ⟨_,_,rfl,q1 _ _ _ (zJ.refl _) ((I1.setV i r).setV j r')⟩
end
end PV
namespace PV
open PySem PySem.Spec PyProof.Rows L2
theorem z07 {X:Cx} {E:XK}:u9 CX0 X E:=fun _ _ _ _ _ _ _ h=>h.elim
section
variable {X:Cx} {Y:Fx} {a b:Expr} {fa fb:En->R T} {pos pos' p p' :Pos}
theorem kE {cl:Nat->Value} {k j n:Nat} {f:Addr} {fd:FuncData} {ps:List Str} {g:List T->R T} {x:Str} {es:List Expr} {ga:En->R (List T)} (hy:Y.cl=cl) (F:jj X.prog X.w X.K X.mg X.base CX0 j f fd ps (spP cl n g)) (hr:WH k X.A) (hj:j<=k) (gl:Gl X x)
  (mg:X.mg x=some (.ref f)) (kp:PySem.W.keepIn X.K (.ref f)=true) (bd:L2.Binds X.K fd ps []) (ha:Yq X Y (a :: es) ga) (hd:(x == ("__debug__":Str))=false:=by decide)
  (hs:starEach (a :: es) X.env=(false,eval a X.env) :: starEach es X.env:=by exact ZD rfl) (hz:((backTo pos (starEach es X.env)).any fun x=>x.fst)=false:=by exact JH rfl):Snd X Y (.Call (.Name x p) (a :: es) [] pos) (zc n g ga):=by
 subst hy
 exact Xi F (hr.mono hj) gl mg kp bd z07 ha hd hs hz
theorem Ys {x:Str} {i:Int} {u:Value} (gl:Gl X x) (mg:X.mg x=some u) (hu:∃ t,u=Value.int i t) (hd:(x == ("__debug__":Str))=false:=by decide):Snd X Y (.Name x pos) (cE (.int i)):= .mk fun ρ=>
 PE.imp (XJ (v:= .int i) gl mg hu hd) fun σ H Q ⟨B,I,q⟩=>Jr I q (.int i)
end
noncomputable def z08 (scope sc0:Scope):Bool:=(scope.kind == .function) && scope.names.all (fun x=>x.2 != .cell) && scope.names.all (fun x=>x.2 != .local || scope.names.lookup x.1 == some .local) &&
 scope.names.all (fun x=>x.2 != .free || sc0.names.lookup x.1 == some .cell || sc0.names.lookup x.1 == some .free)
theorem gA {X:Cx} {scope:Scope} (sc0:Scope) (h0:X.env.scope=sc0) (h:z08 scope sc0=true):CSc X scope:=by
 unfold z08 at h
 simp only [Bool.and_eq_true,List.all_eq_true] at h
 obtain ⟨⟨⟨h1,h2⟩,h3⟩,h4⟩:=h
 refine ⟨eq_of_beq h1,fun x hx=>by simpa using h2 x hx,fun x hx hl=> ?_,fun x hx hf=> ?_⟩
 ·have:=h3 x hx
  rw [hl] at this
  simpa using this
 ·have:=h4 x hx
  rw [hf] at this
  show X.env.scope.names.lookup x.1=_\/X.env.scope.names.lookup x.1=_
  rw [h0]
  simpa using this
noncomputable def z09 (N N' :List Str) (scope sc0:Scope) (k:Nat) (js:List Nat):Bool:=(N'.length == k+js.length) && (List.range js.length).all fun i=>match js[i]? with
 | none=>true
 | some j=>match N'[k+i]?,N[j]? with
  | some x,some y=>(x == y) && (sc0.names.lookup x == some .cell || sc0.names.lookup x == some .free) && (scope.names.lookup x == some .free)
  | _,_=>false
theorem kF {X:Cx} {scope:Scope} {N' :List Str} {k:Nat} {js:List Nat} (N:List Str) (sc0:Scope) (hN:X.N=N) (h0:X.env.scope=sc0) (h:z09 N N' scope sc0 k js=true):z05 X scope N' k js:=by
 unfold z09 at h
 simp only [Bool.and_eq_true,List.all_eq_true] at h
 obtain ⟨h1,h2⟩:=h
 refine ⟨eq_of_beq h1,fun i j e=> ?_⟩
 have hi:i < js.length:=(List.getElem?_eq_some_iff.mp e).1
 have q:=h2 i (List.mem_range.mpr hi)
 rw [e] at q
 dsimp only at q
 split at q
 ·rename_i x y e1 e2
  simp only [Bool.and_eq_true,Bool.or_eq_true,beq_iff_eq] at q
  obtain ⟨⟨rfl,q2⟩,q3⟩:=q
  refine ⟨x,e1,by rw [hN]; exact e2, ?_,q3, ?_⟩
  ·unfold Vis
   rw [h0]
   exact .inr q2
  ·show X.env.scope.names.lookup x=_\/X.env.scope.names.lookup x=_
   rw [h0]
   exact q2
 ·cases q
theorem jH {X:Cx} {Y:Fx} {tg iter elt:Expr} {ifs:List Expr} {scope:Scope} {k:Nat} {js:List Nat} {fi:En->R (List T)} {tG:TG} {g:T->En->R En} {ft:En->R Bool} {fe:En->R T} (N' :List Str) (N:List Str) (sc0:Scope) (hN:X.N=N) (h0:X.env.scope=sc0)
  (h:(z08 scope sc0 && z09 N N' scope sc0 k js)=true) (cm:X.calm=true) (it:vv X Y tg iter fi) (gt:xt X scope N' fun XC=>PG XC tg tG) (gk:GOk tG g) (gn:GNo g) (tt:∀ Y',Y'.cl=Y.cl->xt X scope N' fun XC=>vz XC Y' ifs ft)
  (el:∀ Y',Y'.cl=Y.cl->xt X scope N' fun XC=>Snd XC Y' elt fe) (hs:∀ x,foldedSetIterable iter X.env x=pure x:=by intro _; rfl):qi X Y tg iter elt ifs scope N' k js fi tG g ft fe:=by
 rw [Bool.and_eq_true] at h
 exact ⟨gA sc0 h0 h.1,kF N sc0 hN h0 h.2,cm,it,gt,gk,gn,tt,el,hs⟩
end PV
namespace PV
open PySem PySem.Spec PyProof.Rows L2 PySem.W
section
variable {X:Cx} {Y:Fx} {a b:Expr} {fa fb:En->R T} {pos pos' p p' :Pos}
theorem kG {cl:Nat->Value} {k j n:Nat} {f:Addr} {fd:FuncData} {ps:List Str} {g:List T->R T} {x:Str} {es:List Expr} {ga:En->R (List T)} (hy:Y.cl=cl) (hp:u9 (CX1 X.prog X.w) X Y.E) (F:jj X.prog X.w X.K X.mg X.base (CX1 X.prog X.w) j f fd ps (spP cl n g)) (hr:WH k X.A) (hj:j<=k) (gl:Gl X x)
  (mg:X.mg x=some (.ref f)) (kp:PySem.W.keepIn X.K (.ref f)=true) (bd:L2.Binds X.K fd ps []) (ha:Yq X Y (a :: es) ga) (hd:(x == ("__debug__":Str))=false:=by decide)
  (hs:starEach (a :: es) X.env=(false,eval a X.env) :: starEach es X.env:=by exact ZD rfl) (hz:((backTo pos (starEach es X.env)).any fun x=>x.fst)=false:=by exact JH rfl):Snd X Y (.Call (.Name x p) (a :: es) [] pos) (zc n g ga):=by
 subst hy
 exact Xi F (hr.mono hj) gl mg kp bd hp ha hd hs hz
end
noncomputable def yA (c:Nat):En->RS:=fun _=> .ex c
section
variable {P:Program} {w:World} {K:PySem.W.Frag} {mg:Str->Option Value} {base:Heap} {N:List Str} {qual:Str} {scope:Scope} {f:Addr} {cd:Value} {A:Around} {outer:List Env} {s:Shared} {H:Hp} {E:XK} {Y:Fx}
theorem UI {x m:Str} {C:Addr} {bm bmN:List Value} {Bn Bb newId nid initId inN:String} {np cpos pos ap:Pos} {j c:Nat} (O:OwnCls x C bm newId mg base) (Fn:ExcBaseFacts Bn newId inN bmN) (hBn:bm.contains (.type Bn)=true) (FB:ExcBaseFacts Bb nid initId bm)
  (hY:Y.E=E) (hc:Y.cl c= .ref C) (hg:Gl (uS (CX1 P w) P w K mg base N qual scope f cd A outer s H E) x) (hd:(x == ("__debug__":Str))=false:=by decide):
  ye (uS (CX1 P w) P w K mg base N qual scope f cd A outer s H E) Y (.Raise (some (.Call (.Name x np) [.Constant (.str m) j ap] [] cpos)) none pos) (yA c):= .mk fun ρ=>by
 subst hY
 refine PS.imp (QT O Fn hBn FB hg ((za ZA zj:Yq (uS (CX1 P w) P w K mg base N qual scope f cd A outer s H Y.E) Y [.Constant (.str m) j ap] _) ρ) (ZD rfl) hd) fun D σ H1 ⟨B,I,q⟩=>⟨B,I,fun vs H2 s2 r2=> ?_⟩
 have q:XP Y B c:=q
 refine ⟨?_, ?_⟩
 ·rw [r2.length]; exact (by decide:1<=sizeLine)
 ·have:=q none H2 (I.sH.trans s2) (I.sB.trans s2)
  rw [hc] at this
  exact this
theorem Fun.okX {x qual:Str} {st:Stmt} {f:Addr} {fd:FuncData} {N ps:List Str} {k:Nat} {sp:Sp} (F:Fun K x qual st f fd) (S:zo N ps (ze st)) (len:∀ vs H Q E,sp vs H Q E->vs.length=ps.length)
  (hbody:∀ (cdv:Value) (A:Around) (outer:List Env) (s:Shared) (H:Hp) (vs:List V) (Q:VK) (E:XK),WH k (A.deeper (envOfC qual (ze st) s.heap.objs.size f cdv))->sp vs H Q E->
   ∃ t,PSs (uS (CX1 P w) P w K mg base N qual (ze st) f cdv A outer s H E) (jB st) t/\t { nx:=fun _ H' =>Q .non H',rt:=Q } (start N vs) H):jj P w K mg base (CX1 P w) (k+1) f fd ps sp:=by
 obtain ⟨oc,od,kV,doc,pm,an,cdv,ct,osl,rfl,lk,hcd⟩:=F.ex
 exact KT lk hcd S len fun A outer s H vs Q E hr hsp=>hbody cdv A outer s H vs Q E hr hsp
theorem wx {cl:Nat->Value} {x qual:Str} {st:Stmt} {f:Addr} {fd:FuncData} {N ps:List Str} {k n:Nat} {fb:En->RS} {g:List T->R T} (F:Fun K x qual st f fd) (S:zo N ps (ze st)) (hn:n=ps.length)
  (hb:∀ (cdv:Value) (A:Around) (outer:List Env) (s:Shared) (H:Hp) (E:XK) (Y:Fx),Y.cl=cl->Y.E=E->WH k (A.deeper (envOfC qual (ze st) s.heap.objs.size f cdv))->
   Qx (uS (CX1 P w) P w K mg base N qual (ze st) f cdv A outer s H E) Y (jB st) fb)
  (hg:∀ ts,ts.length=n->g ts=zp (fb (en0 N.length ts))):jj P w K mg base (CX1 P w) (k+1) f fd ps (spP cl n g):=by
 subst hn
 refine Fun.okX F S spP.len fun cdv A outer s H vs Q E hr ⟨B,ts,hl,sB,r,q⟩=> ?_
 refine ⟨_,hb cdv A outer s H E ⟨B,H,E,cl⟩ rfl rfl hr (en0 N.length ts),B,SI.start (Y:=⟨B,H,E,cl⟩) sB r, ?_⟩
 rw [hg ts hl] at q
 revert q
 cases fb (en0 N.length ts) with
 | rt t=>exact fun q v H' s r=>q v H' s r
 | rf t=>exact fun q a xs H' B' s0 n e r _ l=>q (.ref a) H' s0 (.lst (by rw [jb n]; exact e) (r.mono l))
 | nx ρ=>exact fun q σ' H' B' s' I' =>q _ H' I'.sH .non
 | bk ρ=>exact fun q=>q.elim
 | ct ρ=>exact fun q=>q.elim
 | ex c=>exact fun q=>q
 | bad=>exact fun q=>q
end
end PV
namespace PySem.W
open PySem PySem.Calls PyProof.Rows PySem.Spec Builtin Builtin.ObjectAttr Builtin.Getset_descriptor
section
variable {prog:Program} {w:World} {A:Around} {E:Value->Shared->Prop} {s:Shared} {K:Frag} {x C:Addr}
end
end PySem.W
namespace PySem.W
open PySem PySem.Calls PyProof.Rows PySem.Spec Builtin Builtin.ObjectAttr Builtin.Getset_descriptor
section
variable {prog:Program} {w:World} {A:Around} {E:Value->Shared->Prop} {s:Shared} {K:Frag} {x C:Addr}
end
end PySem.W
namespace PySem.W
open PySem PySem.Calls PyProof.Rows PySem.Spec Builtin Builtin.ObjectAttr Builtin.Getset_descriptor
section
variable {prog:Program} {w:World} {A:Around} {E:Value->Shared->Prop} {s:Shared} {K:Frag} {x C:Addr}
end
end PySem.W
namespace PV
open PySem PySem.Spec PyProof.Rows L2 PySem.W
section
variable {X:Cx} {Y:Fx} {a b:Expr} {fa fb:En->R T} {pos pos' p p' :Pos}
end
section
variable {P:Program} {w:World} {K:PySem.W.Frag} {mg:Str->Option Value} {base:Heap}
end
end PV
namespace PySem.ZG
open PySem PySem.Spec PySem.Builtin.SmallTypes
structure Yt (i:Addr) (fp:List Addr) (v:Nat->Option Value) (St:Nat->Heap->Prop):Prop where
 mem:i∈fp
 item:∀ {prog:Program} {w:World} {A:Around} {E:Value->Shared->Prop} {s:Shared} {Q:Value->Shared->Prop} {k:Nat} {x:Value},St k s.heap->v k=some x->(∀ h',St (k+1) h' ->Heap.SameBut i s.heap h' ->Q x { s with heap:=h' })->wpAny (model prog w) A (nextOf (.ref i)) Q E s
 stop:∀ {prog:Program} {w:World} {A:Around} {E:Value->Shared->Prop} {s:Shared} {Q:Value->Shared->Prop} {k:Nat},A.handled=none->St k s.heap->v k=none->(∀ h' e,Heap.ExtBut i s.heap h' ->(∃ o,h'.get? e=some o/\o.cls= .type "StopIteration")->E (.ref e) { s with heap:=h' })->wpAny (model prog w) A (nextOf (.ref i)) Q E s
 keep:∀ {k:Nat} {h h' :Heap},St k h->(∀ b∈fp,∀ o,h.get? b=some o->h'.get? b=some o)->St k h'
 there:∀ {k:Nat} {h:Heap},St k h->∀ b∈fp,∃ o,h.get? b=some o
theorem Yt.but {i:Addr} {fp:List Addr} {v:Nat->Option Value} {St:Nat->Heap->Prop} (N:Yt i fp v St) {k:Nat} {h h' :Heap} {b:Addr} (x:St k h) (e:Heap.ExtBut b h h') (n:b ∉ fp):St k h' :=
 N.keep x fun c hc o q=>e c o (fun z=>n (z ▸ hc)) q
theorem kH {i l:Addr} (hil:l ≠ i) (xs:Array Value):Yt i [i,l] (fun k=>xs[k]?) (fun k h=>h.IsListIter i l k/\h.IsList l xs) where
 mem:= .head _
 item:=fun st hx h=>wpAny_nextOf_list_item st.1 st.2 hx fun h' a b=>h h' ⟨a,st.2.extBut b.extBut hil⟩ b
 stop:=fun hh st hx h=>wpAny_nextOf_list_end hh st.1 st.2 hx h
 keep:=fun st k=>⟨st.1.at fun o e=>k i (.head _) o e,st.2.at fun o e=>k l (.tail _ (.head _)) o e⟩
 there:=fun st b hb=>by
  obtain ⟨⟨o,e,_⟩,o2,e2,_⟩:=st
  rcases List.mem_cons.mp hb with z | hb
  ·exact ⟨o,z ▸ e⟩
  ·exact ⟨o2,(List.mem_singleton.mp hb) ▸ e2⟩
end PySem.ZG
namespace PySem.ZG
open PySem PySem.Spec PySem.Builtin.SmallTypes
section
variable {prog:Program} {w:World} {A:Around} {E:Value->Shared->Prop} {s:Shared} {it l:Addr} {k:Nat} {xs:Array Value} {Q:Value->Shared->Prop}
theorem qj (hit:s.heap.IsTupleIter it l k) (h:wpAny (model prog w) A.in1 (Builtin.«tuple_iterator.__next__» ⟨[.ref it],[]⟩) (fun fin s' =>∃ v,fin= .done (.ret v)/\Q v s') E s):wpAny (model prog w) A (nextOf (.ref it)) Q E s:=by
 unfold nextOf
 exact wpAny_bind (wpAny_callSpecial?_slot (name:=Str.ofString "__next__") hit.typeIs PySem.F.slot_tuple_iterator_next (wpAny_call_entry PySem.F.slot_tuple_iterator_next hit.typeIs PySem.F.entry_tuple_iterator_next
  (wpAny_mono h (fun fin s' ⟨v,e,q⟩=>⟨v,e,wpAny_pure q⟩) fun _ _ z=>z) (PySem.F.args_tuple_iterator_next_1 _)))
theorem xz (hit:s.heap.IsTupleIter it l k) (ht:s.heap.IsTuple l xs) {x:Value} (hx:xs[k]? =some x) (h:∀ h',h'.IsTupleIter it l (k+1)->Heap.SameBut it s.heap h' ->Q x { s with heap:=h' }):wpAny (model prog w) A (nextOf (.ref it)) Q E s:=by
 refine qj hit ?_
 obtain ⟨o,ho,hc,hd⟩:=id hit
 obtain ⟨ol,hol,_,nl,hdl⟩:=ht
 refine wpAny_bind (m:=field (.ref it) 0) (wpAny_field ho hd (x:= .ref l) rfl ?_)
 rw [if_neg (show ¬((Value.ref l == Value.none)=true) by exact Bool.false_ne_true)]
 refine wpAny_bind (m:=field (.ref it) 1) (wpAny_field ho hd (x:= .int k 0) rfl (wpAny_bind (m:=seqItems? (.ref l)) (wpAny_seqItems hol hdl ?_)))
 simp only [Int.toNat_natCast,hx]
 have g:=Heap.get?_update_self (Obj.mapFields (·.setIfInBounds 1 (rawInt (k+1:Nat)))) ho (Obj.isFreed_of_fields (Obj.data_mapFields hd _))
 refine wpAny_bind (wpAny_setField ho hd (by simp) (wpAny_pure ⟨x,rfl,h _ ⟨_,g,(Obj.cls_mapFields ..).trans hc, ?_⟩ (Heap.SameBut.update ..)⟩))
 rw [Obj.data_mapFields hd]; simp [rawInt]
theorem xA (hh:A.handled=none) (hit:s.heap.IsTupleIter it l k) (ht:s.heap.IsTuple l xs) (hx:xs[k]? =none)
  (h:∀ h' e,Heap.ExtBut it s.heap h' ->(∃ o,h'.get? e=some o/\o.cls= .type "StopIteration")->E (.ref e) { s with heap:=h' }):wpAny (model prog w) A (nextOf (.ref it)) Q E s:=by
 refine qj hit ?_
 obtain ⟨o,ho,hc,hd⟩:=id hit
 obtain ⟨ol,hol,_,nl,hdl⟩:=ht
 refine wpAny_bind (m:=field (.ref it) 0) (wpAny_field ho hd (x:= .ref l) rfl ?_)
 rw [if_neg (show ¬((Value.ref l == Value.none)=true) by exact Bool.false_ne_true)]
 refine wpAny_bind (m:=field (.ref it) 1) (wpAny_field ho hd (x:= .int k 0) rfl (wpAny_bind (m:=seqItems? (.ref l)) (wpAny_seqItems hol hdl ?_)))
 simp only [Int.toNat_natCast,hx]
 refine wpAny_bind (wpAny_rule (wpAny_bind (wpAny_setField ho hd (by simp) (wpAny_bind (m:=newExc (.type "StopIteration") []) ?_))))
 simp only [newExc,newTuple]
 refine wpAny_bind (wpAny_newObj_type (wpAny_bind (m:=firstArgMember _ _) (wpAny_of_eq (a:=Value.none) (by first | rfl | (simp only [firstArgMember]; rfl)) (wpAny_newObj_type ?_ (by size_fits)))) (by size_fits))
 simp only [raiseNew]
 refine wpAny_bind (wpAny_handled ?_)
 rw [show A.in1.handled=none from hh]
 exact wpAny_bind (wpAny_pure (wpAny_throw (h _ _ (((Heap.SameBut.update ..).extBut.push _).push _) ⟨_,Heap.get?_push_size _ rfl,rfl⟩)))
end
theorem gB {i l:Addr} (hil:l ≠ i) (xs:Array Value):Yt i [i,l] (fun k=>xs[k]?) (fun k h=>h.IsTupleIter i l k/\h.IsTuple l xs) where
 mem:= .head _
 item:=fun st hx h=>xz st.1 st.2 hx fun h' a b=>h h' ⟨a,st.2.extBut b.extBut hil⟩ b
 stop:=fun hh st hx h=>xA hh st.1 st.2 hx h
 keep:=fun st k=>by
  obtain ⟨⟨o,e,r⟩,o2,e2,r2⟩:=st
  exact ⟨⟨o,k i (.head _) o e,r⟩,o2,k l (.tail _ (.head _)) o2 e2,r2⟩
 there:=fun st b hb=>by
  obtain ⟨⟨o,e,_⟩,o2,e2,_⟩:=st
  rcases List.mem_cons.mp hb with z | hb
  ·exact ⟨o,z ▸ e⟩
  ·exact ⟨o2,(List.mem_singleton.mp hb) ▸ e2⟩
end PySem.ZG
namespace PySem.ZG
open PySem PySem.Spec PySem.Builtin.SmallTypes
structure Ap (z TI TO i1 i2:Addr) (fp1 fp2:List Addr):Prop where
 Iz:TI ≠ z
 Oz:TO ≠ z
 IO:TI ≠ TO
 I1:TI ≠ i1
 I2:TI ≠ i2
 z1:z ∉ fp1
 z2:z ∉ fp2
 O1:TO ∉ fp1
 O2:TO ∉ fp2
 a:i1 ∉ fp2
 b:i2 ∉ fp1
section
variable {prog:Program} {w:World} {A:Around} {E:Value->Shared->Prop} {s:Shared} {z TI TO i1 i2:Addr} {fp1 fp2:List Addr} {v1 v2:Nat->Option Value} {S1 S2:Nat->Heap->Prop} {k:Nat} {x y a b:Value}
theorem Ap.ne1 (D:Ap z TI TO i1 i2 fp1 fp2) (N1:Yt i1 fp1 v1 S1):i1 ≠ z/\i1 ≠ TO:=⟨fun e=>D.z1 (e ▸ N1.mem),fun e=>D.O1 (e ▸ N1.mem)⟩
theorem Ap.ne2 (D:Ap z TI TO i1 i2 fp1 fp2) (N2:Yt i2 fp2 v2 S2):i2 ≠ z/\i2 ≠ TO:=⟨fun e=>D.z2 (e ▸ N2.mem),fun e=>D.O2 (e ▸ N2.mem)⟩
theorem kI {Q:Value->Shared->Prop} (N1:Yt i1 fp1 v1 S1) (N2:Yt i2 fp2 v2 S2) (D:Ap z TI TO i1 i2 fp1 fp2) (hz:IsZip s.heap z TI TO .none) (hTI:IsPair s.heap TI (.ref i1) (.ref i2)) (hTO:IsPair s.heap TO a b) (p1:S1 k s.heap) (p2:S2 k s.heap) (hx:v1 k=some x) (hy:v2 k=some y)
  (hQ:∀ h',IsZip h' z TI TO (rawInt s.heap.objs.size)->IsPair h' TO x y->S1 (k+1) h' ->S2 (k+1) h' ->IsPair h' s.heap.objs.size x y->
   (∀ c o,c ≠ z->c ≠ TO->c ≠ i1->c ≠ i2->s.heap.get? c=some o->h'.get? c=some o)->Q (.ref s.heap.objs.size) { s with heap:=h' }):
  wpAny (model prog w) A (Builtin.«zip.__next__» ⟨[.ref z],[]⟩) (fun fin s' =>∃ v,fin= .done (.ret v)/\Q v s') E s:=by
 refine wpAny_bind (m:=field (.ref z) 2) (wpAny_field hz rfl (x:= .bool false) rfl (wpAny_bind (m:=field (.ref z) 3) (wpAny_field hz rfl (x:= .ref TI) rfl (wpAny_bind (wpAny_seqItems hTI rfl ?_)))))
 refine wpAny_bind (m:=ownedTupleIsFree (.ref z)) ?_
 unfold ownedTupleIsFree
 refine wpAny_bind (wpAny_field hz rfl (x:= .none) rfl (wpAny_pure ?_))
 simp only [if_true]
 refine wpAny_bind (wpAny_rule (wpAny_bind (wpAny_field hz rfl (x:= .ref TO) rfl (wpAny_bind (wpAny_setField_rec hz (by simp) fun g1 z1 e1=> ?_)))))
 replace z1:IsZip g1 z TI TO .ellipsis:=z1
 refine wpAny_bind ?_
 simp only [List.zipIdx_cons,List.zipIdx_nil,List.forIn_cons,List.forIn_nil]
 refine wpAny_bind (wpAny_bind (wpAny_onRaise (wpAny_bind (m:=nextOf (.ref i1)) (N1.item (N1.but p1 e1.extBut D.z1) hx fun g2 q1 e2=>wpAny_pure ?_))))
 have t2:IsPair g2 TO a b:=e2.extBut _ _ (D.ne1 N1).2.symm (e1.extBut _ _ D.Oz hTO)
 refine wpAny_bind (wpAny_seqItems t2 rfl (wpAny_bind (wpAny_updateSeq_pair t2 fun g3 t3 e3=> ?_)))
 replace t3:IsPair g3 TO x b:=t3
 refine wpAny_bind (wpAny_letGo (wpAny_pure ?_))
 refine wpAny_bind (wpAny_bind (wpAny_onRaise (wpAny_bind (m:=nextOf (.ref i2)) (N2.item (N2.but (N2.but (N2.but p2 e1.extBut D.z2) e2.extBut D.a) e3.extBut D.O2) hy fun g4 q2 e4=>wpAny_pure ?_))))
 have t4:IsPair g4 TO x b:=e4.extBut _ _ (D.ne2 N2).2.symm t3
 refine wpAny_bind (wpAny_seqItems t4 rfl (wpAny_bind (wpAny_updateSeq_pair t4 fun g5 t5 e5=> ?_)))
 replace t5:IsPair g5 TO x y:=t5
 refine wpAny_bind (wpAny_letGo (wpAny_pure (wpAny_pure ?_)))
 refine wpAny_bind (wpAny_seqItems t5 rfl (wpAny_bind (wpAny_newTuple ?_)))
 have sz:g5.objs.size=s.heap.objs.size:=by rw [e5.1,e4.1,e3.1,e2.1,e1.1]
 have z5:IsZip g5 z TI TO .ellipsis:=e5.extBut _ _ D.Oz.symm (e4.extBut _ _ (D.ne2 N2).1.symm (e3.extBut _ _ D.Oz.symm (e2.extBut _ _ (D.ne1 N1).1.symm z1)))
 have k5:∀ c o,c ≠ z->c ≠ TO->c ≠ i1->c ≠ i2->s.heap.get? c=some o->g5.get? c=some o:=fun c o c1 c2 c3 c4 e=>
  e5.extBut _ _ c2 (e4.extBut _ _ c4 (e3.extBut _ _ c2 (e2.extBut _ _ c3 (e1.extBut _ _ c1 e))))
 have r1:S1 (k+1) g5:=N1.but (N1.but (N1.but q1 e3.extBut D.O1) e4.extBut D.b) e5.extBut D.O1
 have r2:S2 (k+1) g5:=N2.but q2 e5.extBut D.O2
 refine wpAny_bind (m:=ownedTupleHandOut (.ref z) (.ref g5.objs.size)) ?_
 unfold ownedTupleHandOut
 have z6:IsZip (g5.push { cls:= .type "tuple",data:= .seq #[x,y] }) z TI TO .ellipsis:=Heap.get?_push_of_some _ z5
 refine wpAny_bind (wpAny_setField_rec z6 (by simp) fun g7 z7 e7=> ?_)
 replace z7:IsZip g7 z TI TO (rawInt g5.objs.size):=z7
 refine wpAny_setField_rec z7 (by simp) fun g8 z8 e8=> ?_
 replace z8:IsZip g8 z TI TO (rawInt g5.objs.size):=z8
 have up:∀ c o,c ≠ z->g5.get? c=some o->g8.get? c=some o:=fun c o c1 e=>e8.extBut _ _ c1 (e7.extBut _ _ c1 (Heap.get?_push_of_some _ e))
 have hn:g5.objs.size ≠ z:=Nat.ne_of_gt (Heap.lt_size z5)
 have t8:IsPair g8 g5.objs.size x y:=e8.extBut _ _ hn (e7.extBut _ _ hn (Heap.get?_push_size _ rfl))
 rw [sz] at z8 t8
 refine wpAny_pure ⟨_,rfl, ?_⟩
 show Q (.ref g5.objs.size) _
 rw [sz]
 exact hQ g8 z8 (up _ _ D.Oz t5) (N1.keep r1 fun c hc o e=>up c o (fun q=>D.z1 (q ▸ hc)) e) (N2.keep r2 fun c hc o e=>up c o (fun q=>D.z2 (q ▸ hc)) e) t8 fun c o c1 c2 c3 c4 e=>up c o c1 (k5 c o c1 c2 c3 c4 e)
theorem kJ {Q:Fin->Shared->Prop} (hh:A.handled=none) (N1:Yt i1 fp1 v1 S1) (N2:Yt i2 fp2 v2 S2) (D:Ap z TI TO i1 i2 fp1 fp2) (hz:IsZip s.heap z TI TO .none) (hTI:IsPair s.heap TI (.ref i1) (.ref i2)) (hTO:IsPair s.heap TO a b) (p1:S1 k s.heap) (p2:S2 k s.heap) (hend:v1 k=none\/v2 k=none)
  (hE:∀ h' e,(∀ c o,c ≠ z->c ≠ TO->c ≠ i1->c ≠ i2->s.heap.get? c=some o->h'.get? c=some o)->(∃ o,h'.get? e=some o/\o.cls= .type "StopIteration")->E (.ref e) { s with heap:=h' }):
  wpAny (model prog w) A (Builtin.«zip.__next__» ⟨[.ref z],[]⟩) Q E s:=by
 refine wpAny_bind (m:=field (.ref z) 2) (wpAny_field hz rfl (x:= .bool false) rfl (wpAny_bind (m:=field (.ref z) 3) (wpAny_field hz rfl (x:= .ref TI) rfl (wpAny_bind (wpAny_seqItems hTI rfl ?_)))))
 refine wpAny_bind (m:=ownedTupleIsFree (.ref z)) ?_
 unfold ownedTupleIsFree
 refine wpAny_bind (wpAny_field hz rfl (x:= .none) rfl (wpAny_pure ?_))
 simp only [if_true]
 refine wpAny_bind (wpAny_rule (wpAny_bind (wpAny_field hz rfl (x:= .ref TO) rfl (wpAny_bind (wpAny_setField_rec hz (by simp) fun g1 z1 e1=> ?_)))))
 replace z1:IsZip g1 z TI TO .ellipsis:=z1
 refine wpAny_bind ?_
 simp only [List.zipIdx_cons,List.zipIdx_nil,List.forIn_cons,List.forIn_nil]
 have off:∀ {g:Heap} {e:Addr} {oe:Obj},IsZip g z TI TO .ellipsis->g.get? e=some oe->oe.cls= .type "StopIteration"->e ≠ z:=fun hg he hc q=>by
  subst q; rw [hg] at he; cases he; simp at hc
 cases hx:v1 k with
 | none=>
  refine wpAny_bind (wpAny_bind (wpAny_onRaise (wpAny_bind (m:=nextOf (.ref i1)) (N1.stop hh (N1.but p1 e1.extBut D.z1) hx fun g2 e e2 he=> ?_))))
  obtain ⟨oe,ho,hc⟩:=he
  have z2:IsZip g2 z TI TO .ellipsis:=e2 _ _ (D.ne1 N1).1.symm z1
  exact wpAny_setField_rec z2 (by simp) fun g3 _ e3=>hE g3 e (fun c o c1 _ c3 _ q=>e3.extBut _ _ c1 (e2 _ _ c3 (e1.extBut _ _ c1 q))) ⟨oe,e3.extBut _ _ (off z2 ho hc) ho,hc⟩
 | some x=>
  have hy:v2 k=none:=by
   rcases hend with q | q
   ·rw [hx] at q; cases q
   ·exact q
  refine wpAny_bind (wpAny_bind (wpAny_onRaise (wpAny_bind (m:=nextOf (.ref i1)) (N1.item (N1.but p1 e1.extBut D.z1) hx fun g2 q1 e2=>wpAny_pure ?_))))
  have t2:IsPair g2 TO a b:=e2.extBut _ _ (D.ne1 N1).2.symm (e1.extBut _ _ D.Oz hTO)
  refine wpAny_bind (wpAny_seqItems t2 rfl (wpAny_bind (wpAny_updateSeq_pair t2 fun g3 t3 e3=>wpAny_bind (wpAny_letGo (wpAny_pure ?_)))))
  refine wpAny_bind (wpAny_bind (wpAny_onRaise (wpAny_bind (m:=nextOf (.ref i2)) (N2.stop hh (N2.but (N2.but (N2.but p2 e1.extBut D.z2) e2.extBut D.a) e3.extBut D.O2) hy fun g4 e e4 he=> ?_))))
  obtain ⟨oe,ho,hc⟩:=he
  have z4:IsZip g4 z TI TO .ellipsis:=e4 _ _ (D.ne2 N2).1.symm (e3.extBut _ _ D.Oz.symm (e2.extBut _ _ (D.ne1 N1).1.symm z1))
  exact wpAny_setField_rec z4 (by simp) fun g5 _ e5=>hE g5 e (fun c o c1 c2 c3 c4 q=>e5.extBut _ _ c1 (e4 _ _ c4 (e3.extBut _ _ c2 (e2.extBut _ _ c3 (e1.extBut _ _ c1 q))))) ⟨oe,e5.extBut _ _ (off z4 ho hc) ho,hc⟩
theorem kK {Q:Option Value->Shared->Prop} (N1:Yt i1 fp1 v1 S1) (N2:Yt i2 fp2 v2 S2) (D:Ap z TI TO i1 i2 fp1 fp2) (hz:IsZip s.heap z TI TO .none) (hTI:IsPair s.heap TI (.ref i1) (.ref i2)) (hTO:IsPair s.heap TO a b) (p1:S1 k s.heap) (p2:S2 k s.heap) (hx:v1 k=some x) (hy:v2 k=some y)
  (hQ:∀ h',IsZip h' z TI TO (rawInt s.heap.objs.size)->IsPair h' TO x y->S1 (k+1) h' ->S2 (k+1) h' ->IsPair h' s.heap.objs.size x y->
   (∀ c o,c ≠ z->c ≠ TO->c ≠ i1->c ≠ i2->s.heap.get? c=some o->h'.get? c=some o)->Q (some (.ref s.heap.objs.size)) { s with heap:=h' }):wpAny (model prog w) A (pyNext (.ref z)) Q E s:=by
 have ty:s.TypeIs (.ref z) "zip":=⟨_,hz,rfl⟩
 unfold pyNext
 exact wpAny_bind (wpAny_attempt (wpAny_callSpecial?_slot (name:=Str.ofString "__next__") ty PySem.F.slot_zip_next (wpAny_call_entry PySem.F.slot_zip_next ty PySem.F.entry_zip_next
  (kI N1 N2 D hz hTI hTO p1 p2 hx hy fun h' a1 a2 a3 a4 a5 a6=>wpAny_pure (hQ h' a1 a2 a3 a4 a5 a6)) (PySem.F.args_zip_next_1 _))))
theorem kL {Q:Option Value->Shared->Prop} (hh:A.handled=none) (N1:Yt i1 fp1 v1 S1) (N2:Yt i2 fp2 v2 S2) (D:Ap z TI TO i1 i2 fp1 fp2) (hz:IsZip s.heap z TI TO .none) (hTI:IsPair s.heap TI (.ref i1) (.ref i2)) (hTO:IsPair s.heap TO a b) (p1:S1 k s.heap) (p2:S2 k s.heap) (hend:v1 k=none\/v2 k=none)
  (hQ:∀ h',(∀ c o,c ≠ z->c ≠ TO->c ≠ i1->c ≠ i2->s.heap.get? c=some o->h'.get? c=some o)->Q none { s with heap:=h' }):wpAny (model prog w) A (pyNext (.ref z)) Q E s:=by
 have ty:s.TypeIs (.ref z) "zip":=⟨_,hz,rfl⟩
 unfold pyNext
 refine wpAny_bind (wpAny_attempt (wpAny_callSpecial?_slot (name:=Str.ofString "__next__") ty PySem.F.slot_zip_next (wpAny_call_entry PySem.F.slot_zip_next ty PySem.F.entry_zip_next
  (kJ hh N1 N2 D hz hTI hTO p1 p2 hend fun h' e kp he=> ?_) (PySem.F.args_zip_next_1 _))))
 obtain ⟨o,ho,hc⟩:=he
 exact wpAny_bind (wpAny_isInstance (T:="StopIteration") (b:=true) ⟨o,ho,hc⟩ isSubtype_stop (wpAny_pure (hQ _ kp)))
end
end PySem.ZG
namespace PySem.ZG
open PySem PySem.Spec PySem.Builtin.SmallTypes
structure kM (l:Addr) (o:Obj) (P:Heap->Prop):Prop where
 go:∀ {prog:Program} {w:World} {A:Around} {E:Value->Shared->Prop} {s:Shared} {Q:Value->Shared->Prop},P s.heap->Q (.ref s.heap.objs.size) { s with heap:=s.heap.push o }->wpAny (model prog w) A (pyIter (.ref l)) Q E s
 push:∀ {h:Heap} (o' :Obj),P h->P (h.push o')
 fresh:o.isFreed=false
noncomputable abbrev oL (l:Addr):Obj:={ cls:= .type "list_iterator",data:= .fields #[.ref l, .int 0 0] }
noncomputable abbrev oT (l:Addr):Obj:={ cls:= .type "tuple_iterator",data:= .fields #[.ref l, .int 0 0] }
theorem kN (l:Addr) (xs:Array Value):kM l (oL l) (fun h=>h.IsList l xs):=⟨fun p q=>wpAny_pyIter_list p q,fun o p=>Heap.IsList.push p o,rfl⟩
theorem gC (l:Addr) (xs:Array Value):kM l (oT l) (fun h=>h.IsTuple l xs):=⟨fun p q=>wpAny_pyIter_tuple p q,fun o p=>Heap.IsTuple.push p o,rfl⟩
noncomputable abbrev zh2 (h:Heap) (o1 o2:Obj):Heap:=(h.push o1).push o2
noncomputable abbrev zh3 (h:Heap) (o1 o2:Obj):Heap:=(zh2 h o1 o2).push { cls:= .type "tuple",data:= .seq #[.ref h.objs.size, .ref (h.push o1).objs.size] }
noncomputable abbrev zh4 (h:Heap) (o1 o2:Obj):Heap:=(zh3 h o1 o2).push { cls:= .type "tuple",data:= .seq #[.none, .none] }
noncomputable abbrev zh5 (h:Heap) (o1 o2:Obj):Heap:=(zh4 h o1 o2).push { cls:= .type "zip",data:= .fields #[.none, .bool false, .bool false, .ref (zh2 h o1 o2).objs.size, .ref (zh3 h o1 o2).objs.size] }
theorem gD {l1 l2:Addr} {o1 o2:Obj} {P1 P2:Heap->Prop} (J1:kM l1 o1 P1) (J2:kM l2 o2 P2):
  Meets (Builtin.«zip.__new__» ⟨[.type "zip", .ref l1, .ref l2],[]⟩) (fun _ R s=>P1 s.heap/\P2 s.heap/\R (.ok (.ret (.ref (zh4 s.heap o1 o2).objs.size))) { s with heap:=zh5 s.heap o1 o2 }):=
 .of_wp fun prog w A R s h=>by
  obtain ⟨hp,g,d,tk,os⟩:=s
  obtain ⟨q1,q2,h⟩:=h
  have hsub:=sub_zip
  have c1:P1 (Shared.heap ⟨hp,g,d,tk,os⟩):=q1
  have c2:P2 (Shared.heap ⟨hp.push o1,g,d,tk,os⟩):=J2.push o1 q2
  wp_walk using J1.go c1,J2.go c2
  exact ⟨_,rfl,h⟩
end PySem.ZG
namespace PySem.ZG
open PySem PySem.Spec PySem.Builtin.SmallTypes
theorem kO {prog:Program} {w:World} {A:Around} {E:Value->Shared->Prop} {s:Shared} {l1 l2:Addr} {o1 o2:Obj} {P1 P2:Heap->Prop} {Q:Value->Shared->Prop} (J1:kM l1 o1 P1) (J2:kM l2 o2 P2) (q1:P1 s.heap) (q2:P2 s.heap)
  (h:∀ h' n,n=s.heap.objs.size->IsZip h' (n+4) (n+2) (n+3) .none->IsPair h' (n+2) (.ref n) (.ref (n+1))->IsPair h' (n+3) .none .none->h'.get? n=some o1->h'.get? (n+1)=some o2->
   (∀ c o,s.heap.get? c=some o->h'.get? c=some o)->Q (.ref (n+4)) { s with heap:=h' }):wpAny (model prog w) A (call (.type "zip") [.ref l1, .ref l2]) Q E s:=by
 refine callType_new PySem.F.called_zip (by decide) (PySem.F.typeCall_zip_2 _ _) (PySem.F.newCall_zip_2 _ _) (fun obj=>PySem.F.args_object_init_3 obj _ _) PySem.F.entry_zip_new (gD J1 J2) ⟨q1,q2, ?_⟩
 have n1:(s.heap.push o1).objs.size=s.heap.objs.size+1:=Heap.size_push ..
 have n2:(zh2 s.heap o1 o2).objs.size=s.heap.objs.size+2:=by rw [Heap.size_push,n1]
 have n3:(zh3 s.heap o1 o2).objs.size=s.heap.objs.size+3:=by rw [Heap.size_push,n2]
 have n4:(zh4 s.heap o1 o2).objs.size=s.heap.objs.size+4:=by rw [Heap.size_push,n3]
 have up:∀ {h:Heap} {c:Addr} {o:Obj} (o' :Obj),h.get? c=some o->(h.push o').get? c=some o:=fun o' e=>Heap.get?_push_of_some o' e
 have e5:(zh5 s.heap o1 o2).get? (zh4 s.heap o1 o2).objs.size=some _:=Heap.get?_push_size _ rfl
 have e4:(zh5 s.heap o1 o2).get? (zh3 s.heap o1 o2).objs.size=some _:=up _ (Heap.get?_push_size _ rfl)
 have e3:(zh5 s.heap o1 o2).get? (zh2 s.heap o1 o2).objs.size=some _:=up _ (up _ (Heap.get?_push_size _ rfl))
 have e2:(zh5 s.heap o1 o2).get? (s.heap.push o1).objs.size=some _:=up _ (up _ (up _ (Heap.get?_push_size _ J2.fresh)))
 have e1:(zh5 s.heap o1 o2).get? s.heap.objs.size=some _:=up _ (up _ (up _ (up _ (Heap.get?_push_size _ J1.fresh))))
 show _/\_
 rw [n2,n3,n4] at e5
 rw [n1,n2] at e3
 rw [n3] at e4
 rw [n1] at e2
 rw [n4]
 exact ⟨⟨_,e5,rfl⟩,h _ _ rfl e5 e3 e4 e1 e2 fun c o q=>up _ (up _ (up _ (up _ (up _ q))))⟩
end PySem.ZG
namespace PV
open PySem PySem.Spec PyProof.Rows L2 PySem.ZG
inductive SK where
 | l | t
noncomputable def SK.it:SK->Heap->Addr->Addr->Nat->Prop
 | .l=>fun h i l k=>h.IsListIter i l k
 | .t=>fun h i l k=>h.IsTupleIter i l k
noncomputable def SK.has:SK->Heap->Addr->Array Value->Prop
 | .l=>fun h l xs=>h.IsList l xs
 | .t=>fun h l xs=>h.IsTuple l xs
noncomputable def SK.sq (K:PySem.W.Frag):SK->Hp->Addr->List V->Prop
 | .l=>fun H a xs=>SqL K H a xs
 | .t=>fun H a xs=>SqT K H a xs
noncomputable def SK.tr:SK->List V->HO
 | .l=> .lst
 | .t=> .tup
noncomputable def SK.ob:SK->Addr->Obj
 | .l=>oL
 | .t=>oT
theorem SK.nx (k:SK) {i l:Addr} (h:l ≠ i) (xs:Array Value):Yt i [i,l] (fun n=>xs[n]?) (fun n hp=>k.it hp i l n/\k.has hp l xs):=by
 cases k with
 | l=>exact kH h xs
 | t=>exact gB h xs
theorem SK.of (k:SK) (l:Addr) (xs:Array Value):kM l (k.ob l) (fun h=>k.has h l xs):=by
 cases k with
 | l=>exact kN l xs
 | t=>exact gC l xs
theorem SK.start (k:SK) {h:Heap} {i l:Addr} (e:h.get? i=some (k.ob l)):k.it h i l 0:=by
 cases k with
 | l=>exact ⟨_,e,rfl,rfl⟩
 | t=>exact ⟨_,e,rfl,rfl⟩
theorem SK.obj {k:SK} {h:Heap} {i l:Addr} {n:Nat} (x:k.it h i l n):∃ o,h.get? i=some o/\∀ v,o.data ≠ .cell v:=by
 cases k with
 | l=>obtain ⟨o,e,_,d⟩:=x; exact ⟨o,e,fun v z=>by rw [d] at z; cases z⟩
 | t=>obtain ⟨o,e,_,d⟩:=x; exact ⟨o,e,fun v z=>by rw [d] at z; cases z⟩
theorem SK.at_ {k:SK} {h h' :Heap} {i l:Addr} {n:Nat} (x:k.it h i l n) (q:∀ o,h.get? i=some o->h'.get? i=some o):k.it h' i l n:=by
 cases k with
 | l=>obtain ⟨o,e,r⟩:=x; exact ⟨o,q o e,r⟩
 | t=>obtain ⟨o,e,r⟩:=x; exact ⟨o,q o e,r⟩
theorem SK.sqOf {K:PySem.W.Frag} (k:SK) {H:Hp} {a:Addr} {xs:List V} (e:H a=some (k.tr xs)):k.sq K H a xs:=by
 cases k with
 | l=>exact SqL.of e
 | t=>exact SqT.of e
theorem Inv.seq {X:Cx} {pins:List (Addr×Obj)} {σ:Sg} {H:Hp} {s:Shared} (I:L2.Inv X pins σ H s) (k:SK) {a:Addr} {xs:List V} (h:k.sq X.K H a xs):∃ its:List Value,ZB xs its/\k.has s.heap a its.toArray/\∃ o,s.heap.get? a=some o:=by
 cases k with
 | l=>
  obtain ⟨its,r,p,_⟩:=I.list h
  obtain ⟨o,_,e,_⟩:=id p
  exact ⟨its,r,p.isList,o,e⟩
 | t=>
  obtain ⟨its,r,p,_⟩:=I.tuple h
  obtain ⟨o,e,_⟩:=id p
  exact ⟨its,r,p,o,e⟩
noncomputable def Itz (K:PySem.W.Frag) (k1 k2:SK) (l1 l2:Addr):It:=
 ⟨fun i H=>∃ xs ys x y,k1.sq K H l1 xs/\k2.sq K H l2 ys/\xs[i]? =some x/\ys[i]? =some y,fun i H v H' =>∃ p x y,H p=none/\v= .ref p/\(∀ xs,k1.sq K H l1 xs->xs[i]? =some x)/\(∀ ys,k2.sq K H l2 ys->ys[i]? =some y)/\H' =upd H p (.tup [x,y]),
  fun i H=>∃ xs ys,k1.sq K H l1 xs/\k2.sq K H l2 ys/\(xs.length<=i\/ys.length<=i)⟩
theorem Inv.seq_inj {X:Cx} {pins:List (Addr×Obj)} {σ:Sg} {H:Hp} {s:Shared} (I:L2.Inv X pins σ H s) (k:SK) {a:Addr} {xs ys:List V} (h:k.sq X.K H a xs) (h' :k.sq X.K H a ys):xs=ys:=by
 cases k with
 | l=>exact I.list_inj h h'
 | t=>exact I.tuple_inj h h'
end PV
namespace PV
open PySem PySem.Spec PyProof.Rows L2 PySem.ZG
theorem nN {a b:Nat} (h:a ≠ b): @Ne Addr a b:=h
theorem nM {a b c:Nat} (h:a ≠ b) (h' :a ≠ c):¬ @Membership.mem Addr (List Addr) _ [b,c] a:=fun q=>by
 rcases List.mem_cons.mp q with z | z
 ·exact h z
 ·exact h' (List.mem_singleton.mp z)
theorem xB {P:Program} {w:World} {K:PySem.W.Frag} {elts:List Expr} {kk:Nat} {pt:Pos} (k1 k2:SK) {n l1 l2:Nat} (h1:l1 < n) (h2:l2 < n):
  QD P w K (.Tuple elts kk pt) (Itz K k1 k2 l1 l2) [n+4,n+2,n+3,n,n+1] (n+4)
   (fun i h=>IsZip h (n+4) (n+2) (n+3) .none/\IsPair h (n+2) (.ref n) (.ref (n+1))/\(∃ a b,IsPair h (n+3) a b)/\k1.it h n l1 i/\k2.it h (n+1) l2 i):=by
 have D:Ap (n+4) (n+2) (n+3) n (n+1) [n,l1] [n+1,l2]:=by
  refine ⟨nN (by omega),nN (by omega),nN (by omega),nN (by omega),nN (by omega),nM (by omega) (by omega),nM (by omega) (by omega),nM (by omega) (by omega),nM (by omega) (by omega),nM (by omega) (by omega),nM (by omega) (by omega)⟩
 refine ⟨by simp,fun i h st b hb=> ?_,fun i h h' st k=> ?_, ?_, ?_, ?_⟩
 ·obtain ⟨hz,hI,⟨a,c,hO⟩,p1,p2⟩:=st
  simp only [List.mem_cons,List.not_mem_nil,or_false] at hb
  rcases hb with rfl | rfl | rfl | rfl | rfl
  ·exact ⟨_,hz,fun v z=>nomatch z⟩
  ·exact ⟨_,hI,fun v z=>nomatch z⟩
  ·exact ⟨_,hO,fun v z=>nomatch z⟩
  ·exact SK.obj p1
  ·exact SK.obj p2
 ·obtain ⟨hz,hI,⟨a,c,hO⟩,p1,p2⟩:=st
  exact ⟨k _ (by simp) _ hz,k _ (by simp) _ hI,⟨a,c,k _ (by simp) _ hO⟩,SK.at_ p1 fun o e=>k n (by simp) o e,SK.at_ p2 fun o e=>k (n+1) (by simp) o e⟩
 ·intro X hP hw hK hc i pins s σ H E I hf st hg
  subst hP hw hK
  obtain ⟨xs,ys,x,y,s1,s2,hx,hy⟩:=hg
  obtain ⟨hz,hI,⟨a,c,hO⟩,p1,p2⟩:=st
  obtain ⟨its1,r1,b1,_⟩:=Inv.seq I k1 s1
  obtain ⟨its2,r2,b2,_⟩:=Inv.seq I k2 s2
  obtain ⟨u,hu,ru⟩:=r1.get hx
  obtain ⟨v,hv,rv⟩:=r2.get hy
  refine kK (k1.nx (Nat.ne_of_lt h1) its1.toArray) (k2.nx (i:=n+1) (nN (by omega)) its2.toArray) D hz hI hO ⟨p1,b1⟩ ⟨p2,b2⟩ (x:=u) (y:=v) (by simpa using hu) (by simpa using hv) fun g a1 a2 a3 a4 a5 kp=>⟨_,rfl, ?_⟩
  refine wpAny_letOwnedTupleGo_zip a1 fun g2 z2 e2=> ?_
  have hlt:n+4 < s.heap.objs.size:=Heap.lt_size hz
  have ne:∀ b:Nat,b<=n+4->s.heap.objs.size ≠ b:=fun b hb=>by
   have hlt:n+4 < s.heap.objs.size:=hlt
   omega
  have kp2:∀ b o,b ∉ [n+4,n+2,n+3,n,n+1]->s.heap.get? b=some o->g2.get? b=some o:=fun b o hb e=>by
   simp only [List.mem_cons,List.not_mem_nil,or_false,not_or] at hb
   exact e2.extBut _ _ hb.1 (kp b o hb.1 hb.2.2.1 hb.2.2.2.1 hb.2.2.2.2 e)
  have g2P:IsPair g2 s.heap.objs.size u v:=e2.extBut _ _ (ne _ (Nat.le_refl _)) a5
  have g2I:IsPair g2 (n+2) (.ref n) (.ref (n+1)):=e2.extBut _ _ D.Iz (kp _ _ D.Iz D.IO D.I1 D.I2 hI)
  have g2O:IsPair g2 (n+3) u v:=e2.extBut _ _ D.Oz a2
  have q1:k1.it g2 n l1 (i+1):=SK.at_ a3.1 fun o e=>e2.extBut _ _ (nN (by omega)) e
  have q2:k2.it g2 (n+1) l2 (i+1):=SK.at_ a4.1 fun o e=>e2.extBut _ _ (nN (by omega)) e
  have hfr:H s.heap.objs.size=none:=I.hok.fresh (Nat.le_refl _)
  refine ⟨.ref s.heap.objs.size,upd H s.heap.objs.size (.tup [x,y]),Inv.laidT (s:=s) (h' :=g2) (ch:=[n+4,n+2,n+3,n,n+1]) (tk:=s.toks) I hf kp2 (fun b o hb _=> ?_) (Nat.le_refl _)
   ⟨by rw [sizeLine_eq]; show 2<=16777216; decide,[u,v], .cons ru (.cons rv .nil),⟨_,g2P,rfl,_,rfl⟩⟩,rfl,⟨_,x,y,hfr,rfl,fun zs hq=>by rw [← Inv.seq_inj I k1 s1 hq]; exact hx,fun zs hq=>by rw [← Inv.seq_inj I k2 s2 hq]; exact hy,rfl⟩,⟨z2,g2I,⟨u,v,g2O⟩,q1,q2⟩,fun b hb=> ?_⟩
  ·simp only [List.mem_cons,List.not_mem_nil,or_false] at hb
   rcases hb with rfl | rfl | rfl | rfl | rfl
   ·exact ⟨_,z2⟩
   ·exact ⟨_,g2I⟩
   ·exact ⟨_,g2O⟩
   ·obtain ⟨o',e',_⟩:=SK.obj q1; exact ⟨o',e'⟩
   ·obtain ⟨o',e',_⟩:=SK.obj q2; exact ⟨o',e'⟩
  ·have hb2:(b:Nat)<=n+4:=by
    have hb:b=n+4\/b=n+2\/b=n+3\/b=n\/b=n+1:=by simpa using hb
    rcases hb with rfl | rfl | rfl | rfl | rfl
    ·exact Nat.le_refl _
    ·exact Nat.add_le_add_left (by decide) n
    ·exact Nat.add_le_add_left (by decide) n
    ·exact Nat.le_add_right _ _
    ·exact Nat.add_le_add_left (by decide) n
   rw [zI fun z=>ne b hb2 z.symm]
   exact (hf b hb).1
 ·intro X hP hw hK hc i pins s σ H E I hf st hg
  subst hP hw hK
  obtain ⟨xs,ys,s1,s2,hend⟩:=hg
  obtain ⟨hz,hI,⟨a,c,hO⟩,p1,p2⟩:=st
  obtain ⟨its1,r1,b1,_⟩:=Inv.seq I k1 s1
  obtain ⟨its2,r2,b2,_⟩:=Inv.seq I k2 s2
  have l1' :=r1.length
  have l2' :=r2.length
  refine kL (I.ok.hd hc) (k1.nx (Nat.ne_of_lt h1) its1.toArray) (k2.nx (i:=n+1) (nN (by omega)) its2.toArray) D hz hI hO ⟨p1,b1⟩ ⟨p2,b2⟩ (k:=i) ?_ fun g kp=>⟨rfl, ?_⟩
  ·rcases hend with q | q
   ·exact .inl (Array.getElem?_eq_none (by rw [List.size_toArray,← l1']; exact q))
   ·exact .inr (Array.getElem?_eq_none (by rw [List.size_toArray,← l2']; exact q))
  ·have kp2:∀ b o,b ∉ [n+4,n+3,n,n+1]->s.heap.get? b=some o->g.get? b=some o:=fun b o hb e=>by
    simp only [List.mem_cons,List.not_mem_nil,or_false,not_or] at hb
    exact kp b o hb.1 hb.2.1 hb.2.2.1 hb.2.2.2 e
   have nch:∀ b u,H b=some u->b ∉ [n+4,n+3,n,n+1]:=fun b u e hb=>by
    have hb' :b∈[n+4,n+2,n+3,n,n+1]:=by
     simp only [List.mem_cons,List.not_mem_nil,or_false] at hb ⊢
     rcases hb with q | q | q | q
     ·exact .inl q
     ·exact .inr (.inr (.inl q))
     ·exact .inr (.inr (.inr (.inl q)))
     ·exact .inr (.inr (.inr (.inr q)))
    rw [(hf b hb').1] at e; cases e
   refine I.call' (s' :={ s with heap:=g }) (ch:=[n+4,n+3,n,n+1]) rfl ⟨fun b o e _ _ hc=>kp2 b o hc e,fun b o e _ _ hc=>⟨o.slots,kp2 b o hc e⟩,fun b o e q _=>q,fun b o e hc=>⟨o,kp2 b o hc e⟩,fun b ys e=>e,fun b o u e=>e,fun b ps e=>⟨#[],by rw [e]; simp⟩⟩ (fun b u e=> ?_) I.bare fun b hb=> ?_
   ·refine (I.hok b u e).stay (fun c v hc q=>kp2 c v ?_ q) (fun _ q=>q) fun _ _ q=>q
    rcases hc with rfl | hc
    ·exact nch c u e
    ·exact nch c _ hc
   ·have hb' :b∈[n+4,n+2,n+3,n,n+1]:=by
     simp only [List.mem_cons,List.not_mem_nil,or_false] at hb ⊢
     rcases hb with q | q | q | q
     ·exact .inl q
     ·exact .inr (.inr (.inl q))
     ·exact .inr (.inr (.inr (.inl q)))
     ·exact .inr (.inr (.inr (.inr q)))
    obtain ⟨f0,f1,f2,f3,f4,f5⟩:=hf b hb'
    exact ⟨f3,f1,f4,f5⟩
 ·intro A i s Q E st h
  exact wpAny_pyIter_zip st.1 h
noncomputable def vH (xs ys:List T):List T:=(xs.zip ys).map fun p=>T.tup [p.1,p.2]
theorem xC {xs ys:List T} {i:Nat} {t:T} (h:(vH xs ys)[i]? =some t):∃ x y,xs[i]? =some x/\ys[i]? =some y/\t= .tup [x,y]:=by
 unfold vH at h
 rw [List.getElem?_map] at h
 cases e:(xs.zip ys)[i]? with
 | none=>rw [e] at h; cases h
 | some p=>
  rw [e] at h
  cases h
  have:=List.getElem?_zip_eq_some.mp e
  exact ⟨p.1,p.2,this.1,this.2,rfl⟩
theorem Yu (xs ys:List T):(vH xs ys).length=min xs.length ys.length:=by unfold vH; simp
theorem gE {K:PySem.W.Frag} {B1 H1:Hp} {k1 k2:SK} {a b:Addr} {xs ys:List V} {ts us:List T} (ha:B1 a=some (k1.tr xs)) (hb:B1 b=some (k2.tr ys)) (ra:zR B1 xs ts) (rb:zR B1 ys us):rI B1 H1 (Itz K k1 k2 a b) (vH ts us):=fun B2 H2 s1 s2=>by
 have a2:=k1.sqOf (K:=K) (s2 _ _ (s1 _ _ ha))
 have b2:=k2.sqOf (K:=K) (s2 _ _ (s1 _ _ hb))
 rw [Yu]
 refine ⟨fun i hi=> ?_,fun i t x H3 e y=> ?_,fun i hi=>⟨xs,ys,a2,b2, ?_⟩⟩
 ·obtain ⟨v,e1,_⟩:=ra.get (List.getElem?_eq_getElem (show i < ts.length by omega))
  obtain ⟨u,e2,_⟩:=rb.get (List.getElem?_eq_getElem (show i < us.length by omega))
  exact ⟨xs,ys,v,u,a2,b2,e1,e2⟩
 ·obtain ⟨p,v,u,hp,rfl,y1,y2,rfl⟩:=y
  obtain ⟨t1,t2,et,eu,rfl⟩:=xC e
  obtain ⟨v',e1,r1⟩:=ra.get et
  obtain ⟨u',e2,r2⟩:=rb.get eu
  have q1:=y1 xs a2
  have q2:=y2 ys b2
  rw [e1] at q1; cases q1
  rw [e2] at q2; cases q2
  have up:=Zf.ge s2 (zJ.new hp (.tup [v,u]))
  exact ⟨zJ.new hp _, .tup (W9 hp _) (.cons ((r1.mono s1).mono up) (.cons ((r2.mono s1).mono up) .nil))⟩
 ·rw [ra.length,rb.length]; omega
section
variable {X:Cx} {Y:Fx} {a b:Expr} {fa fb:En->R T} {pos p pt:Pos} {elts:List Expr} {kk:Nat}
theorem gF {ta:TA} (hg:Gl X "zip") (hm:X.mg "zip"=none) (ha:PA X [a,b] ta) (hs:starEach [a,b] X.env=[(false,eval a X.env),(false,eval b X.env)]) (hs2:starEach [b] X.env=[(false,eval b X.env)]):
  PI X (.Tuple elts kk pt) (.Call (.Name "zip" p) [a,b] [] pos) (fun σ H R=>ta σ H fun vs H1=>∃ k1 k2 l1 l2 xs ys,vs=[.ref l1, .ref l2]/\H1 l1=some (SK.tr k1 xs)/\H1 l2=some (SK.tr k2 ys)/\R (Itz X.K k1 k2 l1 l2) H1):=by
 intro pins s σ H R I h
 refine Call_ (ww I hg hm PyProof.Rows.Boot.«zip» (PyProof.Rows.callWith_type1 (thn (ha pos pins s σ H _ I h) fun us s1 ⟨vs,H1,I1,r1,q1⟩=> ?_) (by rw [hs,hs2]) (by rw [hs2]; rfl)))
 obtain ⟨k1,k2,l1,l2,xs,ys,e,h1,h2,q⟩:=q1
 subst e
 obtain ⟨u,v,rfl,ru,rv⟩:=VZ r1
 obtain rfl:u=Value.ref l1:=ru
 obtain rfl:v=Value.ref l2:=rv
 obtain ⟨its1,_,b1,o1,e1⟩:=Inv.seq I1 k1 (k1.sqOf h1)
 obtain ⟨its2,_,b2,o2,e2⟩:=Inv.seq I1 k2 (k2.sqOf h2)
 refine kO (k1.of l1 its1.toArray) (k2.of l2 its2.toArray) b1 b2 fun g n hn z1 z2 z3 z4 z5 kp=>wpAny_pyIter_zip z1 ?_
 subst hn
 have f:∀ b∈[s1.heap.objs.size+4,s1.heap.objs.size+2,s1.heap.objs.size+3,s1.heap.objs.size,s1.heap.objs.size+1],Yh X pins H1 b:=fun b hb=>by
  have hb' :s1.heap.objs.size<=b:=by
   simp only [List.mem_cons,List.not_mem_nil,or_false] at hb
   rcases hb with rfl | rfl | rfl | rfl | rfl
   ·exact Nat.le_add_right _ _
   ·exact Nat.le_add_right _ _
   ·exact Nat.le_add_right _ _
   ·exact Nat.le_refl _
   ·exact Nat.le_add_right _ _
  exact I1.fpOk hb' (I1.hok.fresh hb')
 exact ⟨s1.heap.objs.size+4,_,_,_,H1,rfl,I1.kept (t' :=s1.toks) kp,xB k1 k2 (Heap.lt_size e1) (Heap.lt_size e2),⟨z1,z2,⟨_,_,z3⟩,SK.start k1 z4,SK.start k2 z5⟩,f,q⟩
noncomputable def We:T->R (List T)
 | .lst xs=> .ok xs
 | .tup xs=> .ok xs
 | _=> .bad
noncomputable def Xp (fa fb:En->R T):En->R (List T):=fun ρ=>(fa ρ).bind fun t=>(fb ρ).bind fun u=>(We t).bind fun xs=>(We u).bind fun ys=> .ok (vH xs ys)
theorem vI {B:Hp} {v:V} {t:T} {xs:List T} (r:Rep B v t) (e:We t= .ok xs):∃ (k:SK) (a:Addr) (vs:List V),v= .ref a/\B a=some (k.tr vs)/\zR B vs xs:=by
 cases r with
 | lst h r=>cases e; exact ⟨.l,_,_,rfl,h,r⟩
 | tup h r=>cases e; exact ⟨.t,_,_,rfl,h,r⟩
 | _=>cases e
theorem qk (t:T) (c:Nat):We t ≠ .ex c:=by cases t <;> exact fun z=>nomatch z
theorem kP (hg:Gl X "zip") (hm:X.mg "zip"=none) (ha:Snd X Y a fa) (hb:Snd X Y b fb) (hs:starEach [a,b] X.env=[(false,eval a X.env),(false,eval b X.env)]:=by exact st2 rfl rfl) (hs2:starEach [b] X.env=[(false,eval b X.env)]:=by exact st1 rfl):
  vv X Y (.Tuple elts kk pt) (.Call (.Name "zip" p) [a,b] [] pos) (Xp fa fb):= .mk fun ρ=>
 PI.imp (gF hg hm (zS (ha ρ) (zS (hb ρ) ja hs2) (by rw [hs,hs2])) hs hs2) fun σ H R ⟨B,I,q⟩=>step I q fun t v H1 _ s1 r1 I1 q1=>step I1 q1 fun u v' H2 _ s2 r2 I2 q2=>by
  cases e1:We t with
  | bad=>rw [e1] at q2; exact q2.elim
  | ex c=>exact absurd e1 (qk _ _)
  | ok xs=>
   rw [e1] at q2
   cases e2:We u with
   | bad=>rw [e2] at q2; exact q2.elim
   | ex c=>exact absurd e2 (qk _ _)
   | ok ys=>
    rw [e2] at q2
    obtain ⟨k1,a1,vs1,rfl,h1,w1⟩:=vI (r1.mono (Zf.ge I1.sB s2)) e1
    obtain ⟨k2,a2,vs2,rfl,h2,w2⟩:=vI r2 e2
    exact ⟨k1,k2,a1,a2,vs1,vs2,rfl,I2.sB _ _ h1,I2.sB _ _ h2,Jr I2 (show Po Y rI _ H2 (.ok (vH xs ys)) R from q2) (gE h1 h2 w1 w2)⟩
end
end PV
namespace PV
open PySem PySem.Spec PyProof.Rows L2
section
variable {X:Cx} {Y:Fx} {a b:Expr} {fa fb:En->R T} {pos p p' pos' :Pos}
noncomputable def yf:T->R T
 | .bl b=> .ok (.int (b2 b))
 | .int i=> .ok (.int i)
 | _=> .bad
theorem z0a (v:V) (t:T) (B H:Hp) (Q:VK) (r:Rep B v t) (sB:zJ B H) (q:Po Y rC B H (yf t) Q):
  (∃ i,[v]=[V.int i]/\Q (.int i) H)\/∃ k,[v]=[V.bl k]/\Q (.int (if k then 1 else 0)) H:=by
 cases r with
 | int i=>exact .inl ⟨i,rfl,po0 sB q rfl (.int i)⟩
 | bl k=>exact .inr ⟨k,rfl,po0 sB q rfl (by cases k <;> exact .int _)⟩
 | _=>exact q.elim
theorem ql (gl:Gl X "int") (mg:X.mg "int"=none) (ha:Snd X Y a fa) (hs:St1 X a:=by exact st1 rfl):Snd X Y (.Call (.Name "int" p) [a] [] pos) (ap1 yf fa):=
 Xd QK z0a gl mg (PyProof.Rows.Boot.«int») ha hs
theorem vJ:Jq X (.type "range") (fun xs H Q=>∃ i j,xs=[.int i, .int j]/\∀ r,H r=none->Q (.ref r) (upd H r (.rng i j))):=by
 intro pins s σ H xs us Q I r h
 obtain ⟨i,j,rfl,q⟩:=h
 obtain ⟨u,v,rfl,ru,rv⟩:=VZ r
 obtain ⟨t,rfl⟩:=ru
 obtain ⟨t',rfl⟩:=rv
 exact call_range_2 ⟨.ref s.heap.objs.size,_,I.laid (t' :=s.toks+1) (fun b o e=>Heap.get?_push_of_some _ e) (Nat.le_refl _) (show jv X.prog X.w _ _ _ (.rng i j) from ⟨_,_,_,Heap.get?_push_size _ rfl⟩),rfl,q _ (I.hok.fresh (Nat.le_refl _))⟩
noncomputable def VO (lo:Int) (n:Nat):List V:=(List.range n).map fun (i:Nat)=>V.int (lo+(i:Int))
theorem UJ (hh:X.A.handled=none):Jq X (.type "list") (fun xs H Q=>∃ r lo hi,xs=[.ref r]/\H r=some (.rng lo hi)/\(-1000000 < lo/\lo < 1000000/\ -1000000 < hi/\hi < 1000000)/\∀ l,H l=none->Q (.ref l) (upd H l (.lst (VO lo (hi - lo).toNat)))):=by
 intro pins s σ H xs us Q I rv h
 obtain ⟨r,lo,hi,rfl,e,⟨c1,c2,c3,c4⟩,q⟩:=h
 obtain ⟨u,rfl,ru⟩:=wD rv
 obtain rfl:u=Value.ref r:=ru
 obtain ⟨t,v,v',eo⟩:=(show jv X.prog X.w H s.heap r (.rng lo hi) from I.hok r _ e)
 have hn:Builtin.Range.rangeSize lo hi 1=((hi - lo).toNat:Int):=by rw [rangeSize_one]; split <;> omega
 refine call_list_range (n:=(hi - lo).toNat) hh eo (small_one (by omega) (by omega) (by omega) (by omega)) hn (by omega) fun h' tk acc c kp eo' hacc=> ?_
 have hv:ZB (VO lo (hi - lo).toNat) acc.toList:=by
  have key:∀ (n:Nat) (lo:Int) (vs:List Value),vs.length=n->(∀ (j:Nat) (v:Value),vs[j]? =some v->∃ t,v=Value.int (lo+(j:Int)) t)->ZB (VO lo n) vs:=by
   intro n
   induction n with
   | zero=>
    intro lo vs hl _
    rw [List.eq_nil_of_length_eq_zero hl]
    exact .nil
   | succ n ih=>
    intro lo vs hl hv
    cases vs with
    | nil=>cases hl
    | cons v vs=>
     have e:VO lo (n+1)=V.int (lo+0) :: VO (lo+1) n:=by
      unfold VO
      rw [List.range_succ_eq_map,List.map_cons,List.map_map]
      refine congrArg _ (List.map_congr_left fun j _=> ?_)
      show V.int (lo+((j+1:Nat):Int))=V.int (lo+1+(j:Int))
      congr 1; omega
     rw [e]
     refine .cons (hv 0 v rfl) (ih (lo+1) vs (by simpa using hl) fun j x hx=> ?_)
     obtain ⟨t,z⟩:=hv (j+1) x (by simpa using hx)
     exact ⟨t,by rw [z]; congr 1; omega⟩
  refine key _ lo acc.toList (by simpa using hacc.1) fun j v hj=> ?_
  obtain ⟨t,z⟩:=hacc.2 j v (by simpa using hj)
  exact ⟨t,by rw [z]; congr 1; omega⟩
 have hz:(VO lo (hi - lo).toNat).length<=sizeLine:=by
  rw [sizeLine_eq]; unfold VO; rw [List.length_map,List.length_range]; omega
 exact ⟨.ref s.heap.objs.size,_,I.laid (t' :=tk) kp (Nat.le_refl _) (show jv X.prog X.w _ h' _ (.lst _) from ⟨hz,acc.toList,c,hv,by simpa using eo'⟩),rfl,q _ (I.hok.fresh (Nat.le_refl _))⟩
noncomputable def Gr (fi:En->R (List T)):En->R T:=fun ρ=>(fi ρ).bind fun ts=> .ok (.lst ts)
theorem vK {B:Hp} (lo:Int) (n:Nat):zR B (VO lo n) (rng lo n):=by
 unfold VO rng
 induction List.range n with
 | nil=>exact .nil
 | cons i is ih=>exact .cons (.int _) ih
theorem kQ (hh:X.A.handled=none) (gl:Gl X "list") (mg:X.mg "list"=none) (gl' :Gl X "range") (mg' :X.mg "range"=none) (ha:Snd X Y a fa) (hb:Snd X Y b fb)
  (hs:starEach [a,b] X.env=[(false,eval a X.env),(false,eval b X.env)]:=by exact st2 rfl rfl) (hs2:St1 X b:=by exact st1 rfl):Snd X Y (.Call (.Name "list" p) [.Call (.Name "range" p') [a,b] [] pos'] [] pos) (Gr (wS fa fb)):= .mk fun ρ=>
 PE.imp (wQ (UJ hh) gl mg PyProof.Rows.Boot.«list» (zS (wQ vJ gl' mg' boot_range (zS (ha ρ) (zS (hb ρ) ja hs2) (by rw [hs,hs2])) (by decide) (by decide) (by rw [hs,hs2]) (by rw [hs2]; rfl)) ja (st1 rfl)) (by decide) (by decide) (st1 rfl) rfl) fun σ H Q ⟨B,I,q⟩=>by
  have q:Po Y rC B H ((fa ρ).bind fun t=>(fb ρ).bind fun t' =>(match t,t' with | .int i, .int j=>if -1000000 < i/\i < 1000000/\ -1000000 < j/\j < 1000000 then R.ok (rng i (j - i).toNat) else .bad | _,_=> .bad).bind fun ts=> .ok (.lst ts)) Q:=by
   revert q
   unfold Gr wS
   cases fa ρ with
   | ok t=>cases fb ρ <;> exact fun q=>q
   | ex c=>exact fun q=>q
   | bad=>exact fun q=>q
  refine step I q fun t v H1 _ s1 r1 I1 q1=>step I1 q1 fun t' v' H2 _ s2 r2 I2 q2=> ?_
  cases r1 with
  | int i=>
   cases r2 with
   | int j=>
    by_cases c: -1000000 < i/\i < 1000000/\ -1000000 < j/\j < 1000000
    ·dsimp only at q2
     rw [if_pos c] at q2
     refine ⟨i,j,rfl,fun r hr=>⟨r,i,j,rfl,Zv,c,fun l hl=> ?_⟩⟩
     have hlr:l ≠ r:=fun z=>by rw [z,Zv] at hl; cases hl
     have hl2:H2 l=none:=by rw [zI hlr] at hl; exact hl
     refine q2 _ _ (zJ.new hr _ |>.trans (zJ.new hl _)) (.lst ?_ (vK _ _))
     rw [jb hl2,Zv]
    ·dsimp only at q2
     rw [if_neg c] at q2
     exact q2.elim
   | _=>exact q2.elim
  | _=>cases r2 <;> exact q2.elim
noncomputable def mvS (i j:Nat):En->RS:=fun ρ=>match ρ[j]? with
 | some (.ow ts)=> .nx ((ρ.set j (.vl (.lst ts))).set i (.vl (.lst ts)))
 | _=> .bad
theorem SI.give {Y:Fx} {B:Hp} {ρ:En} {σ:Sg} {H:Hp} (I:SI Y B ρ σ H) {j:Nat} {ts:List T} (hj:ρ[j]? =some (.ow ts)):∃ (a:Addr) (B' :Hp),σ[j]? =some (some (V.ref a))/\zJ B B' /\Rep B' (.ref a) (.lst ts)/\SI Y B' (ρ.set j (.vl (.lst ts))) σ H:=by
 obtain ⟨a,xs,e,b0,h0,hh,rr,d⟩:=I.ow j ts hj
 have s1:zJ B (upd B a (.lst xs)):=zJ.new b0 _
 have rp:Rep (upd B a (.lst xs)) (.ref a) (.lst ts):= .lst Zv (rr.mono s1)
 refine ⟨a,_,e,s1,rp,⟨I.s0,I.sH,fun b o q=> ?_,fun b o q=> ?_,by rw [List.length_set]; exact I.len,fun k t q=> ?_,fun k us q=> ?_,fun k c q=> ?_⟩⟩
 ·by_cases hb:b=a
  ·subst hb; rw [Zv] at q; cases q; exact hh
  ·rw [zI hb] at q; exact I.sB b o q
 ·rw [zI fun z=>by rw [z,h0] at q; cases q]; exact I.old b o q
 ·rcases Zm q with ⟨rfl,z⟩ | ⟨_,z⟩
  ·cases z; exact ⟨_,e,rp⟩
  ·obtain ⟨v,e1,r⟩:=I.vl k t z; exact ⟨v,e1,r.mono s1⟩
 ·rcases Zm q with ⟨rfl,z⟩ | ⟨hk,z⟩
  ·cases z
  ·obtain ⟨a',xs',e',b0',h0',hh',rr',d'⟩:=I.ow k us z
   have hne:a' ≠ a:=fun w=>by subst w; exact d k us hk z e'
   refine ⟨a',xs',e',by rw [zI hne]; exact b0',h0',hh',rr'.mono s1,fun m ws hm hw=> ?_⟩
   rcases Zm hw with ⟨rfl,w⟩ | ⟨_,w⟩
   ·cases w
   ·exact d' m ws hm w
 ·rcases Zm q with ⟨rfl,z⟩ | ⟨_,z⟩
  ·cases z
  ·obtain ⟨a',e',r⟩:=I.xc k c z; exact ⟨a',e',s1 _ _ r⟩
theorem s_mv {i j:Nat} {x y:Str} {yp:Pos} (hv:PE X (.Name y yp) (XI j)) (hN:X.N.Nodup) (hi:X.N[i]? =some x) (hx:L2.Loc X.env.scope x) (hs:swapsWith (.Name y yp) (some (.Name x p')) pos.line X.env=pure false:=by rfl)
  (hf:X.fn x=true\/X.env.scope.names.lookup x=some .local:=by first | exact .inl rfl | exact .inr rfl | assumption):ye X Y (.Assign [.Name x p'] (.Name y yp) pos) (mvS i j):= .mk fun ρ=>
 PS.imp (QC hN hi hx hv hs hf) fun D σ H ⟨B,I,q⟩=>by
  unfold mvS at q
  split at q
  ·rename_i ts e
   obtain ⟨a,B',e1,s1,r,J⟩:=I.give e
   exact ⟨_,e1,q _ _ B' s1 (J.setV i r)⟩
  ·exact q.elim
end
end PV
namespace PV
open PySem PySem.Spec PyProof.Rows L2
noncomputable def eqs (y:T):List T->Option (List Bool)
 | []=>some []
 | t :: ts=>match eqF 30 t y with
  | none=>none
  | some b=>match eqs y ts with
   | none=>none
   | some bs=>some (b :: bs)
noncomputable def cntT (y:T) (ts:List T):R T:=match eqs y ts with
 | some bs=> .ok (.int (bs.count true))
 | none=> .bad
noncomputable def vL (y:T) (ts:List T):R T:=match eqs y ts with
 | some bs=>if true∈bs then .ok (.int (bs.idxOf true)) else .bad
 | none=> .bad
noncomputable def Gs (g:T->List T->R T) (fa fb:En->R T):En->R T:=fun ρ=>(fa ρ).bind fun t=>match t with
 | .lst ts=>(fb ρ).bind fun u=>g u ts
 | _=> .bad
theorem Xq {H:Hp} {y:T} {e:Value->Bool} (he:∀ (v:V) (t:T) (u:Value) (b:Bool),j9 v u->Rep H v t->eqF 30 t y=some b->e u=b):∀ {xs:List V} {ts:List T} {its:List Value} {bs:List Bool},
  ZB xs its->zR H xs ts->eqs y ts=some bs->its.map e=bs/\∀ u∈its,∃ v t k,j9 v u/\Rep H v t/\eqF 30 t y=some k
 | _,_,_,_, .nil, .nil,h=>by
  cases h
  exact ⟨rfl,fun u hu=>by simp at hu⟩
 | _,_,_,_, .cons rv vs, .cons r rs,h=>by
  rename_i v u vals us t ts
  unfold eqs at h
  cases q:eqF 30 t y with
  | none=>rw [q] at h; cases h
  | some k=>
   rw [q] at h
   cases q' :eqs y ts with
   | none=>rw [q'] at h; cases h
   | some k' =>
    rw [q'] at h
    cases h
    obtain ⟨h1,h2⟩:=Xq he vs rs q'
    refine ⟨by rw [List.map_cons,h1,he v t u k rv r q],fun w hw=> ?_⟩
    rcases List.mem_cons.mp hw with z | hw
    ·exact ⟨v,t,k,z ▸ rv,r,q⟩
    ·exact h2 w hw
section
variable {X:Cx} {Y:Fx} {a b:Expr} {fa fb:En->R T} {pos p p' pos' :Pos}
theorem xD (hu:X.A.units+64 < cLine):MtR X "list.index" (fun x xs H Q=>∃ l ys ts v t bs,x= .ref l/\xs=[v]/\H l=some (.lst ys)/\zR H ys ts/\Rep H v t/\eqs t ts=some bs/\true∈bs/\Q (.int (bs.idxOf true)) H):=by
 intro pins s σ H x xs v0 us Q I rx rv h
 obtain ⟨l,ys,ts,v,t,bs,rfl,rfl,hl,r,rt,e,hm,q⟩:=h
 obtain rfl:v0=Value.ref l:=rx
 obtain ⟨u,rfl,ru⟩:=wD rv
 obtain ⟨hz,its,n,ri,eo⟩:=(show jv X.prog X.w H s.heap l (.lst ys) from I.hok l _ hl)
 obtain ⟨f,hf⟩:=v9 (H:=H) fun z=>eqF 30 z t
 obtain ⟨h2,h3⟩:=Xq hf ri r e
 have hj:bs.idxOf true < bs.length:=List.idxOf_lt_length_iff.mpr hm
 have hlen:bs.length=its.length:=by rw [← h2,List.length_map]
 have hri:=ri.length
 rw [sizeLine_eq] at hz
 have hat:∀ m (hm:m < its.length),f its[m]=bs[m]'(by rw [hlen]; exact hm):=fun m hm=>by
  have:(its.map f)[m]'(by rw [List.length_map]; exact hm)=bs[m]'(by rw [hlen]; exact hm):=by simp only [h2]
  rw [← this,List.getElem_map]
 refine call_meets PySem.F.slot_list_index ⟨_,eo,rfl⟩ PySem.F.entry_list_index (PySem.F.args_list_index_2 _ _) (SeqAt.list_indexAt l its.toArray n none #[] u f (bs.idxOf true) (by rw [List.size_toArray,← hlen]; exact hj) (by omega) ?_ ?_) ⟨eo,fun w hw=> ?_, ?_⟩
 ·rw [List.getElem_toArray,hat]
  exact List.getElem_idxOf hj
 ·intro m hm hlt
  rw [List.getElem_toArray,hat m (by simpa using hm)]
  have:=List.not_of_lt_findIdx (p:=(· == true)) (xs:=bs) (i:=m) hlt
  simpa using this
 ·obtain ⟨v',t',k,rv',rr,ee⟩:=h3 w (by simpa using hw)
  rw [hf v' t' w k rv' rr ee]
  exact (xb I 30 X.A.in1 (by rw [uc]; omega) t' t k v' v w u ee rr rt rv' ru).1
 ·exact ⟨.int _,H,I.tok _,⟨_,rfl⟩,q⟩
theorem vM {pa:Pos} (hu:X.A.units+64 < cLine) (ha:W7 X Y a fa) (hb:W7 X Y b fb) (hb1:attributeBase a "index" X.env (eval a X.env)=eval a X.env:=by rfl) (hs:St1 X b:=by exact st1 rfl) (hz:(pa.endLine == p.line)=true:=by rfl):
  Snd X Y (.Call (.Attribute a "index" pa) [b] [] p) (Gs vL fa fb):= .mk fun ρ=>by
 have e1:(((((backTo p (starEach [b] X.env)).all fun x=> !x.fst) && (backToKw p (keywordEach [] X.env)).all fun x=>x.fst.isSome) && decide (([b].length+([]:List Keyword).length+if ([]:List Keyword).isEmpty=true then 0 else 1) < 30))=true):=by rw [hs]; rfl
 refine PE.imp (x8 PySem.F.plainAttrs_list PySem.F.slot_list_index PySem.F.type_list_index (xD hu) (ha ρ) (zS (hb ρ) ja hs) hb1 e1 hz hs rfl) fun σ H Q ⟨B,I,q⟩=>step I q fun t v H1 _ s1 r1 I1 q1=> ?_
 cases t with
 | lst ts=>
  cases r1 with
  | @lst l xs _ h r=>
   refine ⟨.inl ⟨rfl,_,SqL.of h⟩,step I1 q1 fun u v' H2 _ s2 r2 I2 q2=> ?_⟩
   unfold vL at q2
   split at q2
   ·rename_i bs e
    split at q2
    ·rename_i hm
     exact ⟨l,xs,ts,v',u,bs,rfl,rfl,s2 _ _ h,r.mono s2,r2,e,hm,Jr I2 q2 (.int _)⟩
    ·exact q2.elim
   ·exact q2.elim
 | _=>exact q1.elim
end
end PV
namespace PV
open PySem PySem.Spec PyProof.Rows L2
noncomputable def Wu:List T->Option (List Int)
 | []=>some []
 | .int i :: r=>match Wu r with | some l=>some (i :: l) | none=>none
 | _ :: _=>none
noncomputable def Gu:T->R T
 | .lst ts=>match Wu ts with | some l=> .ok (.int l.sum) | none=> .bad
 | _=> .bad
noncomputable def Gv (fi:En->R (List T)) (g:T->En->R En) (ft:En->R Bool) (fe:En->R T) (k:Nat) (js:List Nat):En->RS:=fun ρ=>(fi (frz ρ)).s fun ts=>(Zc g ft fe k js (frz ρ) ts).s fun vs=> .rf vs
theorem vN:∀ {H:Hp} {xs:List V} {ts:List T} {its:List Value} {is:List Int},zR H xs ts->ZB xs its->Wu ts=some is->∃ ps:List (Int×Tok),its=ps.map (fun p=>Value.int p.1 p.2)/\ps.map (·.1)=is
 | _,_,_,_,is, .nil, .nil,h=>by
  have h' :some []=some is:=h
  cases h'
  exact ⟨[],rfl,rfl⟩
 | H,_,_,_,is, .cons (v:=x) (t:=t) r rs, .cons (b:=u) rv vs,h=>by
  cases r with
  | int i=>
   unfold Wu at h
   split at h
   ·rename_i l e
    cases h
    obtain ⟨ps,h1,h2⟩:=vN rs vs e
    obtain ⟨tk,rfl⟩:=rv
    exact ⟨(i,tk) :: ps,by rw [h1]; rfl,by rw [List.map_cons,h2]⟩
   ·cases h
  | _=>cases h
section
variable {X:Cx} {Y:Fx} {a b:Expr} {fa fb:En->R T} {pos p p' pos' :Pos}
theorem vO (hh:X.A.handled=none):Jq X (.builtin "sum") (fun vs H Q=>∃ l xs ts is,vs=[.ref l]/\H l=some (.lst xs)/\zR H xs ts/\Wu ts=some is/\Q (.int is.sum) H):=by
 intro pins s σ H vs us Q I rv h
 obtain ⟨l,xs,ts,is,rfl,hl,r,hk,q⟩:=h
 obtain ⟨u,rfl,ru⟩:=wD rv
 obtain rfl:u=Value.ref l:=ru
 obtain ⟨its,rv,p,_⟩:=Zl I (.inl hl) r
 obtain ⟨ps,h1,h2⟩:=vN r rv hk
 have e:its.toArray=intItems ps.toArray:=by rw [h1]; simp [intItems]
 rw [e] at p
 refine sum_intListG hh p fun h' tk t' kp=> ?_
 have e2:preSum (numAt ps.toArray) ps.toArray.size=is.sum:=by
  rw [preSum_eq,List.take_of_length_le (by simp),← h2]
 rw [e2]
 exact ⟨.int is.sum,H,I.kept (t' :=tk) kp,⟨t',rfl⟩,q⟩
theorem z0b (hh:X.A.handled=none) (gl:Gl X "sum") (mg:X.mg "sum"=none) (ha:W7 X Y a fa) (hs:St1 X a:=by exact st1 rfl):Snd X Y (.Call (.Name "sum" p) [a] [] pos) (ap1 Gu fa):=
 vg (vO hh) (fun v t B H Q r sB q=>by
  cases r with
  | @lst l xs ts h r=>
   have q:Po Y rC B H (match Wu ts with | some k=> .ok (.int k.sum) | none=> .bad) Q:=q
   split at q
   ·rename_i k e
    exact ⟨l,xs,ts,k,rfl,h,r,e,po0 sB q rfl (.int _)⟩
   ·exact q.elim
  | _=>exact q.elim) gl mg boot_sum ha hs
end
section
variable {X:Cx} {Y:Fx} {a b:Expr} {fa fb:En->R T} {pos p p' pos' :Pos}
end
section
variable {X:Cx} {Y:Fx} {tg iter elt:Expr} {ifs:List Expr} {scope:Scope} {pos pos' :Pos} {N' :List Str} {k:Nat} {js:List Nat} {fi:En->R (List T)} {tG:TG} {g:T->En->R En} {ft:En->R Bool} {fe:En->R T}
theorem gG (C:qi X Y tg iter elt ifs scope N' k js fi tG g ft fe):ye X Y (.Return (some (.ListComp elt [⟨tg,iter,ifs,0⟩] scope pos)) pos') (Gv fi g ft fe k js):= .mk fun ρ=>by
 have pe:PE X (.ListComp elt [⟨tg,iter,ifs,0⟩] scope pos) (fun σ H Q=>∃ B,SI Y B (frz ρ) σ H/\PoS Y B ((fi (frz ρ)).s fun ts=>(Zc g ft fe k js (frz ρ) ts).s fun vs=> .rf vs) { nx:=fun _ _=>False,rt:=Q }):=by
  intro pins s σ H Q I ⟨B,J,q⟩
  rw [eval_ListComp]
  refine UD (use:=none) (Q:=EP X pins σ Q) (F:=fun D H' =>Q (.ref D) H') (te:=fun σ H Q=>∃ Y' ρ',Y'.cl=Y.cl/\tS Y' rC fe ρ' σ H Q) (tt:=fun σ H Q=>∃ Y' ρ',Y'.cl=Y.cl/\tS Y' rE ft ρ' σ H Q) C.sc C.cp C.cm (C.it (frz ρ)) C.gt
   (fun cl Cx' s3 H3 fp pins pins' s σ H Q I ⟨Y',ρ',ey,q⟩=>C.tt Y' ey cl Cx' s3 H3 fp pins ρ' pins' s σ H Q I q) (fun cl Cx' s3 H3 fp pins pins' s σ H Q I ⟨Y',ρ',ey,q⟩=>C.el Y' ey cl Cx' s3 H3 fp pins ρ' pins' s σ H Q I q) I ?_ ?_ C.hs
  ·refine ud J q fun ts it' H1 _ s1 r1 J1 q1=> ?_
   intro D hD
   unfold Zc at q1
   split at q1
   ·rename_i hl
    cases ev:Z6 g ft fe ts (qh k js (frz ρ)) with
    | bad=>rw [ev] at q1; exact q1.elim
    | ex c=>rw [ev] at q1; exact q1.elim
    | ok vs=>
     rw [ev] at q1
     refine ug C.gk C.gn J1 r1 hl ev hD fun H' xs B' s' e' r' l' b' sb' => ?_
     exact (show PoS Y _ (.rf vs) _ from q1) D xs H' B' (J1.sH.trans s') (J1.sH.free hD) e' r' b' (l'.trans (Xh J1.sH J1.old s' J1.sB))
   ·exact q1.elim
  ·intro D Cc H' s' I' q' hC h0 hL hcell hpin hns
   obtain ⟨m,hm⟩:=hns
   refine ⟨m,hm,fun h' hsb=>⟨.ref D,H', ?_,rfl,q'⟩⟩
   exact I'.turned (t' :=s'.toks) (fun b o hb e=>hsb.extBut b o hb e) hC (Ne.symm hL).symm (.inr h0) hcell hpin
 refine PS.imp (X5 pe) fun D σ H ⟨B,I,q⟩=>⟨_,I.frz, ?_⟩
 have q:=PoS.up I.up q
 unfold Gv at q
 revert q
 cases fi (frz ρ) with
 | bad=>exact fun q=>q
 | ex c=>exact fun q=>q
 | ok ts=>
  show PoS Y _ ((Zc g ft fe k js (frz ρ) ts).s fun vs=> .rf vs) D->PoS Y _ ((Zc g ft fe k js (frz ρ) ts).s fun vs=> .rf vs) _
  cases Zc g ft fe k js (frz ρ) ts with
  | bad=>exact fun q=>q
  | ex c=>exact fun q=>q
  | ok vs=>exact fun q=>q
end
section
variable {P:Program} {w:World} {K:PySem.W.Frag} {mg:Str->Option Value} {base:Heap}
end
end PV
namespace PySem.RV
open PySem PySem.Spec PyProof.Rows PySem.Builtin.SmallTypes
theorem qm:Manifest.owners.lookup (String.ofList "desrever".toList.reverse)=some Manifest.sig_reversed:=by kernel_rfl
theorem JZ:Slot "reversed" "__next__" "reversed.__next__":=
 .of (owner:="reversed") (n:="__next__") (by rw [typeLookup_type,builtinLookup_eq_fast]; kernel_rfl) (by decide+kernel) (by decide+kernel) (by decide+kernel)
  (by first | exact .inl (by decide+kernel) | exact .inr (by decide+kernel)) (by rw [isSubtype_type]; kernel_rfl)
theorem Ue:entryFor table "reversed.__next__"=some Builtin.«reversed.__next__»:=entryFor_of_tree (by kernel_rfl)
theorem yB (a:Value):argsOk "reversed.__next__" ⟨[a],[]⟩:=by
 unfold argsOk; rw [signature?_of (id:="reversed.__next__") (n:="__txen__".toList) (o:="desrever".toList) (by kernel_rfl) qm]; kernel_rfl
theorem yC:Slot "reversed" "__iter__" "reversed.__iter__":=
 .of (owner:="reversed") (n:="__iter__") (by rw [typeLookup_type,builtinLookup_eq_fast]; kernel_rfl) (by decide+kernel) (by decide+kernel) (by decide+kernel)
  (by first | exact .inl (by decide+kernel) | exact .inr (by decide+kernel)) (by rw [isSubtype_type]; kernel_rfl)
theorem vP (a:Value):argsOk "reversed.__iter__" ⟨[a],[]⟩:=by
 unfold argsOk; rw [signature?_of (id:="reversed.__iter__") (n:="__reti__".toList) (o:="desrever".toList) (by kernel_rfl) qm]; kernel_rfl
theorem Q3:entryFor table "reversed.__iter__"=some Builtin.«dict_keyiterator.__iter__»:=
 entryFor_alias (id' :="dict_keyiterator.__iter__") (by kernel_rfl) (by first | rfl | decide+kernel | (unfold String.splitOn; simp+decide [String.splitOnAux])) (by decide+kernel) (by kernel_rfl)
theorem gH:typeLookup (.type "tuple") "__reversed__"=pure none:=by rw [typeLookup_type,builtinLookup_eq_fast]; kernel_rfl
theorem gI:isSubtype (.type "tuple") (.type "dict")=pure false:=by rw [isSubtype_type]; kernel_rfl
noncomputable abbrev IsRv (h:Heap) (it:Addr) (v:Value) (i:Int):Prop:=h.get? it=some { cls:= .type "reversed",data:= .fields #[v,rawInt i] }
section
variable {prog:Program} {w:World} {A:Around} {E:Value->Shared->Prop} {s:Shared} {it l:Addr} {xs:Array Value}
theorem Yv {v:Value} {i:Int} (x:IsRv s.heap it v i):s.TypeIs (.ref it) "reversed":=⟨_,x,rfl⟩
theorem next_item {i:Nat} {x:Value} {Q:Option Value->Shared->Prop} (hit:IsRv s.heap it (.ref l) (i:Int)) (ht:IsTup s.heap l xs) (hf:(xs.size:Int) < 2 ^ 63) (hx:xs[i]? =some x)
  (hQ:∀ h' tk,IsRv h' it (.ref l) ((i:Int) - 1)->Heap.SameBut it s.heap h' ->Q (some x) { s with heap:=h',toks:=tk }):wpAny (model prog w) A (pyNext (.ref it)) Q E s:=by
 unfold pyNext
 refine wpAny_bind (wpAny_attempt (wpAny_callSpecial?_slot (name:=Str.ofString "__next__") (Yv hit) JZ (wpAny_call_entry JZ (Yv hit) Ue ?_ (yB _))))
 unfold Builtin.«reversed.__next__»
 refine wpAny_bind (wpAny_of_eq (a:=(Value.ref it,[])) rfl ?_)
 dsimp only
 refine wpAny_bind (wpAny_field hit rfl (x:= .ref l) rfl ?_)
 refine wpAny_bind (wpAny_field hit rfl (x:=rawInt (i:Int)) rfl ?_)
 show wpAny _ _ (if (i:Int) < 0 then _ else _) _ _ s
 rw [if_neg (by omega)]
 have hi:i < xs.size:=(Array.getElem?_eq_some_iff.mp hx).1
 have hT:=ht.typeIs (s:=s)
 refine wpAny_bind (wpAny_specialOf hT slot_tuple_getitem.lookup ?_)
 show wpAny _ _ (if (some _:Option Value).isNone=true then _ else _) _ _ s
 rw [if_neg (by simp)]
 refine wpAny_bind (wpAny_mkInt ?_)
 refine wpAny_bind (wpAny_attempt (getItem_tuple (s:={ s with toks:=s.toks+1 }) ht (by omega) (by omega) (seqIndex_of (by omega) (by omega)) (by simpa using hx) ?_))
 dsimp only
 refine wpAny_bind (wpAny_field (s:={ s with toks:=s.toks+1 }) hit rfl (x:=rawInt (i:Int)) rfl ?_)
 show wpAny _ _ (setField (.ref it) 1 (rawInt ((i:Int) - 1)) >>= _) _ _ _
 refine wpAny_bind (wpAny_setField_rec (s:={ s with toks:=s.toks+1 }) hit (by simp) fun g1 z1 e1=> ?_)
 exact wpAny_pure ⟨x,rfl,wpAny_pure (hQ g1 _ z1 e1)⟩
theorem next_end {Q:Option Value->Shared->Prop} (hh:A.handled=none) (hit:IsRv s.heap it (.ref l) (-1))
  (hQ:∀ h',Heap.ExtBut it s.heap h' ->Q none { s with heap:=h' }):wpAny (model prog w) A (pyNext (.ref it)) Q E s:=by
 unfold pyNext
 refine wpAny_bind (wpAny_attempt (wpAny_callSpecial?_slot (name:=Str.ofString "__next__") (Yv hit) JZ (wpAny_call_entry JZ (Yv hit) Ue ?_ (yB _))))
 unfold Builtin.«reversed.__next__»
 refine wpAny_bind (wpAny_of_eq (a:=(Value.ref it,[])) rfl ?_)
 dsimp only
 refine wpAny_bind (wpAny_field hit rfl (x:= .ref l) rfl ?_)
 refine wpAny_bind (wpAny_field hit rfl (x:=rawInt (-1)) rfl ?_)
 show wpAny _ _ (if (-1:Int) < 0 then _ else _) _ _ s
 rw [if_pos (by decide)]
 refine wpAny_bind (wpAny_rule ?_)
 refine wpAny_bind (show wpAny _ _ (do setField (.ref it) 1 (rawInt (-1)); setField (.ref it) 0 .none) _ _ _ from ?_)
 refine wpAny_bind (wpAny_setField_rec hit (by simp) fun g1 z1 e1=> ?_)
 refine wpAny_setField_rec (s:={ s with heap:=g1 }) z1 (by simp) fun g2 z2 e2=> ?_
 refine wpAny_bind (show wpAny _ _ (newExc (.type "StopIteration") [] >>= fun e=>raiseNew e) _ _ _ from ?_)
 refine wpAny_bind ?_
 simp only [newExc,newTuple]
 refine wpAny_bind (wpAny_newObj_type (wpAny_bind (m:=firstArgMember _ _) (wpAny_of_eq (a:=Value.none) (by first | rfl | (simp only [firstArgMember]; rfl)) (wpAny_newObj_type ?_ (by size_fits)))) (by size_fits))
 simp only [raiseNew]
 refine wpAny_bind (wpAny_handled ?_)
 rw [show A.in1.handled=none from hh]
 refine wpAny_bind (wpAny_pure (wpAny_throw ?_))
 refine wpAny_bind (wpAny_isInstance (T:="StopIteration") (b:=true) ⟨_,Heap.get?_push_size _ rfl,rfl⟩ isSubtype_stop ?_)
 exact wpAny_pure (hQ _ (((e1.extBut.trans e2.extBut).push _).push _))
theorem iter_rv {v:Value} {i:Int} {Q:Value->Shared->Prop} (hit:IsRv s.heap it v i) (h:Q (.ref it) s):wpAny (model prog w) A (pyIter (.ref it)) Q E s:=by
 refine wpAny_pyIter_slot (Yv hit) yC (wpAny_call_entry yC (Yv hit) Q3 ?_ (vP _))
 show wpAny _ _ (ret (.ref it)) _ _ s
 exact wpAny_pure ⟨_,rfl,"reversed",_,Yv hit,JZ.lookup,h⟩
theorem Xr:mroOf (.type "reversed")=pure [.type "reversed", .type "object"]:=by rw [mroOf_type]; kernel_rfl
theorem gJ:typeLookup (.type "reversed") "__new__"=pure (some (.builtin "reversed.__new__")):=by rw [typeLookup_type,builtinLookup_eq_fast]; kernel_rfl
theorem kR:Bind.madeBy (.type "reversed")=pure (some "reversed.__new__"):=madeBy_type Xr gJ (by decide+kernel)
theorem gK:isSubtype (.type "reversed") (.type "reversed")=pure true:=by rw [isSubtype_type]; kernel_rfl
theorem gL (a:Value):newClass "reversed" ⟨[.type "reversed",a],[]⟩=pure (.type "reversed",[a]):=by
 unfold newClass
 simp only [isType,gK,pure_bind,Bool.not_true,Bool.false_eq_true,if_false]
theorem vQ:entryFor table "reversed.__new__"=some Builtin.«reversed.__new__»:=entryFor_of_tree (by kernel_rfl)
theorem xE {Q:Fin->Shared->Prop} (ht:IsTup s.heap l xs) (hf:(xs.size:Int) < 2 ^ 63)
  (h:∀ tk,Q (.done (.ret (.ref s.heap.objs.size))) { s with heap:=s.heap.push { cls:= .type "reversed",data:= .fields #[.ref l,rawInt ((xs.size:Int) - 1)] },toks:=tk }):
  wpAny (model prog w) A (Builtin.«reversed.__new__» ⟨[.type "reversed", .ref l],[]⟩) Q E s:=by
 have hT:=ht.typeIs (s:=s)
 unfold Builtin.«reversed.__new__»
 refine wpAny_bind (wpAny_of_eq (gL _) ?_)
 try dsimp only
 refine wpAny_bind (wpAny_of_eq (a:=()) (by first | rfl | kernel_rfl) ?_)
 refine wpAny_bind (wpAny_of_eq (a:=()) (by first | rfl | kernel_rfl) ?_)
 try dsimp only
 refine wpAny_bind (wpAny_specialOf hT gH ?_)
 try dsimp only
 refine wpAny_bind (m:=(do
   if ← isInstance (.ref l) (.type "dict") then return false
   match ← specialOf (.ref l) "__getitem__" with
   | none=>return false
   | some (.builtin id)=>
    if ["tuple.__getitem__","str.__getitem__","bytes.__getitem__","bytearray.__getitem__","memoryview.__getitem__","numpy.ndarray.__getitem__","sqlite3.Row.__getitem__"].contains id then return true
    if id == "sqlite3.Blob.__getitem__" then return false
    unsupported "reversed.__new__:is-it-a-sequence"
   | some _=>return true)) ?_
 refine wpAny_bind (wpAny_isInstance hT gI ?_); rw [if_neg (by simp)]
 refine wpAny_bind (wpAny_specialOf hT slot_tuple_getitem.lookup ?_)
 dsimp only
 rw [if_pos (by decide)]
 refine wpAny_pure ?_
 rw [if_neg (by simp)]
 refine wpAny_bind (len_tuple ht hf ?_)
 refine wpAny_bind (wpAny_of_eq (a:=some (xs.size:Int)) rfl ?_)
 dsimp only
 refine wpAny_bind (show wpAny _ _ (newObj (.type "reversed") (.fields #[.ref l,rawInt ((xs.size:Int) - 1)])) _ _ _ from ?_)
 exact wpAny_newObj_type (wpAny_pure (h _)) (by size_fits)
theorem vR:Slot "reversed" "__init__" "object.__init__":=
 .of (owner:="object") (n:="__init__") (by rw [typeLookup_type,builtinLookup_eq_fast]; kernel_rfl) (by decide+kernel) (by decide+kernel) (by decide+kernel)
  (by first | exact .inl (by decide+kernel) | exact .inr (by decide+kernel)) (by rw [isSubtype_type]; kernel_rfl)
theorem vS:TypeCalled "reversed" "reversed.__new__" "object.__init__":=
 ⟨by decide+kernel,by decide+kernel,⟨_,_,Xr⟩,kR,by decide+kernel,by rw [isSubtype_type]; kernel_rfl,vR⟩
theorem xF (a:Value):checkTypeCall "reversed" ⟨[a],[]⟩=pure ():=by kernel_rfl
theorem xG (a:Value):checkBuiltinCall "reversed.__new__" ⟨[.type "reversed",a],[]⟩=pure ():=by kernel_rfl
theorem call_rvT {Q:Value->Shared->Prop} (ht:IsTup s.heap l xs) (hf:(xs.size:Int) < 2 ^ 63)
  (h:∀ tk,Q (.ref s.heap.objs.size) { s with heap:=s.heap.push { cls:= .type "reversed",data:= .fields #[.ref l,rawInt ((xs.size:Int) - 1)] },toks:=tk }):wpAny (model prog w) A (call (.type "reversed") [.ref l]) Q E s:=by
 refine callType_new (S:=fun _ R s=>(∃ xs,IsTup s.heap l xs/\(xs.size:Int) < 2 ^ 63/\∀ tk,R (.ok (.ret (.ref s.heap.objs.size))) { s with heap:=s.heap.push { cls:= .type "reversed",data:= .fields #[.ref l,rawInt ((xs.size:Int) - 1)] },toks:=tk })) vS (by decide) (xF _) (xG _) (fun obj=>PySem.F.args_object_init_2 obj _) vQ (.of_wp fun prog w A R s h=> ?_) ⟨xs,ht,hf,fun tk=> ?_⟩
 ·obtain ⟨xs,h1,h2,h3⟩:=h
  exact xE h1 h2 fun tk=>⟨_,rfl,h3 tk⟩
 ·exact ⟨⟨_,Heap.get?_push_size _ rfl,rfl⟩,h tk⟩
end
end PySem.RV
namespace PySem.RV
open PySem PySem.Spec PyProof.Rows
theorem xH:typeLookup (.type "list_reverseiterator") "__len__"=pure none:=by rw [typeLookup_type,builtinLookup_eq_fast]; kernel_rfl
theorem kS:typeLookup (.type "list_reverseiterator") "__length_hint__"=pure (some (.builtin "list_reverseiterator.__length_hint__")):=by rw [typeLookup_type,builtinLookup_eq_fast]; kernel_rfl
section
variable {prog:Program} {w:World} {A:Around} {E:Value->Shared->Prop} {s:Shared} {I:Addr} {fp wr:List Addr} {G:Array GenState->Array GenState->Prop} {n:Nat} {P:Nat->Value->Prop} {St:Nat->Shared->Prop}
theorem Q4 {Q:List Value->Shared->Prop} (W:WalksS prog w A.in1 I fp wr G n P St) (hT:∀ i s,St i s->s.TypeIs (.ref I) "list_reverseiterator") (hst:St 0 s) (hfp:∀ b∈fp,b < s.heap.objs.size) (hI:I∈fp)
  (hQ:∀ s' acc,Moved wr G s s' ->ItemsOf P acc n->Q acc.toList s') (hn:n<=sizeLine):wpAny (model prog w) A (collect (.ref I)) Q E s:=by
 have nf:s.heap.objs.size ∉ fp:=fun z=>Nat.lt_irrefl _ (hfp _ z)
 have nI:s.heap.objs.size ≠ I:=fun z=>nf (z ▸ hI)
 unfold collect
 refine wpAny_bind (wpAny_runValue (codeAny_builtin F.entry_proto_collect ?_))
 rw [Around.under_plainId F.plain_proto_collect _]
 refine (show wpAny _ A.in1 (newList [] >>= fun l=>again (.builtin "list.__iadd__" ⟨[l, .ref I],[]⟩)) _ _ s from ?_)
 refine wpAny_bind (wpAny_newObj_type (wpAny_pure ⟨plainId_quiet F.plain_list_iadd _,codeAny_builtin F.entry_list_iadd ?_⟩))
 rw [Around.under_plainId F.plain_list_iadd _]
 have g0:=W.frame 0 s (s.heap.push { cls:= .type "list",data:= .seq ([]:List Value).toArray }) s.toks hst (Nat.le_refl _) fun b _ o e=>Heap.get?_push_of_some _ e
 have g1:(s.heap.push { cls:= .type "list",data:= .seq ([]:List Value).toArray }).get? s.heap.objs.size=some { cls:= .type "list",data:= .seq ([]:List Value).toArray }:=Heap.get?_push_size _ rfl
 have g2:Builtin.List.listSameRef (.ref s.heap.objs.size) (.ref I)=false:=by simp [Builtin.List.listSameRef,nI]
 refine (show wpAny _ A.in1 (Builtin.List.listExtendWith (.ref s.heap.objs.size) (.ref I) (.ref s.heap.objs.size)) _ _ _ from ?_)
 unfold Builtin.List.listExtendWith
 refine wpAny_bind (wpAny_typeOf (hT 0 _ g0) ?_)
 rw [if_neg (by rw [g2]; decide)]
 refine wpAny_bind (W.self 0 _ _ _ g0 (wpAny_bind (wpAny_holding ?_)))
 unfold Builtin.List.listLengthHint
 refine wpAny_bind (wpAny_specialOf (hT 0 _ g0) xH ?_)
 refine (show wpAny _ A.in1 (specialOf (Value.ref I) (Str.ofString "__length_hint__") >>= _) _ _ _ from ?_)
 refine wpAny_bind (wpAny_specialOf (hT 0 _ g0) kS ?_)
 generalize hid:("list_reverseiterator.__length_hint__":String)=id0
 wp_delta
 rw [show splitId id0=some ("list_reverseiterator","__length_hint__") from by subst hid; decide+kernel]
 subst hid
 refine wpAny_bind (wpAny_isInstance (b:=true) (hT 0 _ g0) (by rw [isSubtype_type]; kernel_rfl) ?_)
 refine wpAny_pure ?_
 rw [if_neg (by decide)]
 refine wpAny_pure ⟨plainId_quiet F.plain_extend_loop _,codeAny_extend_loopS W hn _ nf _ n 0 _ _ _ rfl (Nat.zero_le _) g0 g1 (ItemsOf.nil P) fun s' acc' c' hm hS' hacc=> ?_⟩
 refine (show wpAny _ A (load s.heap.objs.size >>= _) _ _ s' from ?_)
 exact wpAny_bind (wpAny_load hS' (wpAny_pure (hQ s' acc' (Moved.drop_new (o:={ cls:= .type "list",data:= .seq ([]:List Value).toArray }) (tk:=s.toks) hm (Nat.le_refl _)) hacc)))
theorem gM {Q₁:Value->Shared->Prop} (W:WalksS prog w A.in1.in1 I fp wr G n P St) (hT:∀ i s,St i s->s.TypeIs (.ref I) "list_reverseiterator") (hst:St 0 s) (hfp:∀ b∈fp,b < s.heap.objs.size) (hI:I∈fp)
  (h:∀ s' acc,Moved wr G s s' ->ItemsOf P acc n->Q₁ (.ref s'.heap.objs.size) { s' with heap:=s'.heap.push { cls:= .type "tuple",data:= .seq acc } }) (hsz:n<=sizeLine):
  codeAny (model prog w) A (.call (.builtin "tuple.__new__") ⟨[.type "tuple", .ref I],[]⟩) (wants Q₁ E) s:=by
 refine codeAny_of_tree ?_
 refine (show wpAny _ A.in1 (do checkBuiltinCall "tuple.__new__" ⟨[.type "tuple", .ref I],[]⟩; again (.builtin "tuple.__new__" ⟨[.type "tuple", .ref I],[]⟩)) _ _ s from ?_)
 refine wpAny_bind (wpAny_of_eq (F.newCall_tuple_1 _) (wpAny_pure ⟨plainId_quiet F.plain_tuple_new _,codeAny_builtin F.entry_tuple_new ?_⟩))
 rw [Around.under_plainId F.plain_tuple_new _]
 have hsub:=sub_tuple_self
 have hinit:=init_tuple_lookup
 have hmh:=madeHere_tuple
 have ty:=hT 0 s hst
 wp_walk using wpAny_typeOf ty,Q4 (hn:=hsz) W hT hst hfp hI
 intro s' acc hm hacc
 have e:acc.toList.toArray=acc:=by simp
 refine (show wpAny _ _ (Builtin.Tuple.tupleExact acc.toList.toArray >>= fun v=>ret v) _ _ _ from ?_)
 unfold Builtin.Tuple.tupleExact
 refine wpAny_bind (wpAny_newObj_type (wpAny_pure ?_) (by rw [e]; show acc.size<=sizeLine; rw [hacc.1]; exact hsz))
 rw [e]
 exact h s' acc hm hacc
theorem tuple_lr {Q:Value->Shared->Prop} (W:WalksS prog w A.in1.in1.in1 I fp wr G n P St) (hT:∀ i s,St i s->s.TypeIs (.ref I) "list_reverseiterator") (hst:St 0 s) (hfp:∀ b∈fp,b < s.heap.objs.size) (hI:I∈fp)
  (hQ:∀ s' acc,Moved wr G s s' ->ItemsOf P acc n->Q (.ref s'.heap.objs.size) { s' with heap:=s'.heap.push { cls:= .type "tuple",data:= .seq acc } }) (hsz:n<=sizeLine):
  wpAny (model prog w) A (call (.type "tuple") [.ref I]) Q E s:=
 callType_codes (Q₁:=fun obj s₁=>s₁.TypeIs obj "tuple"/\Q obj s₁) F.called_tuple (F.typeCall_tuple_1 _) F.entry_object_init
  (gM (hsz:=hsz) W hT hst hfp hI fun s' acc hm hacc=>⟨⟨_,Heap.get?_push_size _ rfl,rfl⟩,hQ s' acc hm hacc⟩) fun obj s₁ h₁=>
   ⟨h₁.1,F.args_object_init_2 obj _,object_init_meets F.called_tuple.init.lookup F.called_tuple.made (by decide) prog w A.in1 _ s₁ ⟨h₁.1,rfl,h₁.2⟩⟩
end
end PySem.RV
namespace PV
open PySem PySem.Spec PyProof.Rows L2
noncomputable def z0c (K:PySem.W.Frag) (a:Addr) (n:Nat):It:=
 ⟨fun i H=>∃ xs x,SqT K H a xs/\xs.length=n/\xs.reverse[i]? =some x,fun i H x H' =>H' =H/\∀ xs,SqT K H a xs->xs.reverse[i]? =some x,fun i H=>∃ xs,SqT K H a xs/\xs.length=n/\n<=i⟩
noncomputable def z0d (K:PySem.W.Frag) (a:Addr) (n:Nat):It:=
 ⟨fun i H=>∃ xs x,SqL K H a xs/\xs.length=n/\xs.reverse[i]? =some x,fun i H x H' =>H' =H/\∀ xs,SqL K H a xs->xs.reverse[i]? =some x,fun i H=>∃ xs,SqL K H a xs/\xs.length=n/\n<=i⟩
theorem Xs {α:Type} {xs:List α} {i:Nat} {x:α} (h:xs.reverse[i]? =some x):i < xs.length/\xs[xs.length - 1 - i]? =some x:=by
 have hi:=(List.getElem?_eq_some_iff.mp h).1
 rw [List.length_reverse] at hi
 rw [List.getElem?_reverse hi] at h
 exact ⟨hi,h⟩
theorem xI {P:Program} {w:World} {K:PySem.W.Frag} {tg:Expr} (a it:Addr) (n:Nat):QD P w K tg (z0c K a n) [it] it (fun i h=>i<=n/\RV.IsRv h it (.ref a) ((n:Int) - 1 - (i:Int))) where
 mem:=by simp
 obj:=fun i h st b hb=>by
  have e:b=it:=by simpa using hb
  subst e
  exact ⟨_,st.2,fun v z=>nomatch z⟩
 keep:=fun i h h' st k=>⟨st.1,k it (by simp) _ st.2⟩
 item:=by
  intro X hP hw hK hc i pins s σ H E I hf st hg
  subst hP hw hK
  obtain ⟨xs,x,hq,hn,hx⟩:=hg
  obtain ⟨its,rv,p,hz⟩:=I.tuple hq
  obtain ⟨hi,hx'⟩:=Xs hx
  obtain ⟨u,hu,ru⟩:=rv.get hx'
  obtain ⟨f0,f1,f2,f3,f4,f5⟩:=hf it (by simp)
  have hl:=rv.length
  have e:(n:Int) - 1 - (i:Int)=((xs.length - 1 - i:Nat):Int):=by omega
  have hit:=st.2
  rw [e] at hit
  have hb:(its.toArray.size:Int) < 2 ^ 63:=by
   rw [sizeLine_eq] at hz
   simp; omega
  refine RV.next_item hit p hb (x:=u) (by simpa using hu) fun h' tk st' sb=> ?_
  have I1:Inv X pins σ H { s with heap:=h',toks:=tk }:=I.turned (t' :=tk) (fun b o hb e=>(sb.2 b hb).trans e) f0 f1 f3 f4 f5
  have e2:((xs.length - 1 - i:Nat):Int) - 1=(n:Int) - 1 - ((i+1:Nat):Int):=by omega
  rw [e2] at st'
  exact ⟨u,rfl,qP (s:={ s with heap:=h',toks:=tk }) st' rfl rfl (by decide) ⟨x,H,I1,ru,⟨rfl,fun ys hy=>by rw [I.tuple_inj hy hq]; exact hx⟩,⟨by omega,st'⟩,fun b hb=>(hf b hb).1⟩⟩
 done:=by
  intro X hP hw hK hc i pins s σ H E I hf st hg
  subst hP hw hK
  obtain ⟨xs,hq,hn,hx⟩:=hg
  obtain ⟨f0,f1,f2,f3,f4,f5⟩:=hf it (by simp)
  have hit:=st.2
  have h1:=st.1
  rw [show (n:Int) - 1 - (i:Int)= -1 by omega] at hit
  exact RV.next_end (I.ok.hd hc) hit fun h' eb=>⟨rfl,I.turned (t' :=s.toks) (fun b o hb e=>eb b o hb e) f0 f1 f3 f4 f5⟩
 self:=fun _ _ _ _ _ st h=>RV.iter_rv st.2 h
theorem xJ {P:Program} {w:World} {K:PySem.W.Frag} {tg:Expr} (a it:Addr) (n:Nat):QD P w K tg (z0d K a n) [it] it (fun i h=>i<=n/\h.IsRevIter it a ((n:Int) - 1 - (i:Int))) where
 mem:=by simp
 obj:=fun i h st b hb=>by
  have e:b=it:=by simpa using hb
  subst e
  obtain ⟨o,e,c,d⟩:=st.2
  exact ⟨o,e,fun v z=>by rw [d] at z; cases z⟩
 keep:=fun i h h' st k=>⟨st.1,st.2.at fun o e=>k it (by simp) o e⟩
 item:=by
  intro X hP hw hK hc i pins s σ H E I hf st hg
  subst hP hw hK
  obtain ⟨xs,x,hq,hn,hx⟩:=hg
  obtain ⟨its,rv,p,hz⟩:=I.list hq
  obtain ⟨hi,hx'⟩:=Xs hx
  obtain ⟨u,hu,ru⟩:=rv.get hx'
  obtain ⟨f0,f1,f2,f3,f4,f5⟩:=hf it (by simp)
  have e:(n:Int) - 1 - (i:Int)=((xs.length - 1 - i:Nat):Int):=by omega
  have hit:=st.2
  rw [e] at hit
  refine wpAny_pyNext_rev_item hit p.isList (x:=u) (by simpa using hu) fun h' st' sb=> ?_
  have I1:Inv X pins σ H { s with heap:=h' }:=I.turned (t' :=s.toks) (fun b o hb e=>(sb.2 b hb).trans e) f0 f1 f3 f4 f5
  have e2:((xs.length - 1 - i:Nat):Int) - 1=(n:Int) - 1 - ((i+1:Nat):Int):=by omega
  rw [e2] at st'
  obtain ⟨o,e,c,d⟩:=id st'
  exact ⟨u,rfl,qP (s:={ s with heap:=h' }) e c d (by decide) ⟨x,H,I1,ru,⟨rfl,fun ys hy=>by rw [I.list_inj hy hq]; exact hx⟩,⟨by omega,st'⟩,fun b hb=>(hf b hb).1⟩⟩
 done:=by
  intro X hP hw hK hc i pins s σ H E I hf st hg
  subst hP hw hK
  obtain ⟨xs,hq,hn,hx⟩:=hg
  obtain ⟨f0,f1,f2,f3,f4,f5⟩:=hf it (by simp)
  have hit:=st.2
  have h1:=st.1
  rw [show (n:Int) - 1 - (i:Int)= -1 by omega] at hit
  exact wpAny_pyNext_rev_end (I.ok.hd hc) hit fun h' eb=>⟨rfl,I.turned (t' :=s.toks) (fun b o hb e=>eb b o hb e) f0 f1 f3 f4 f5⟩
 self:=fun _ _ _ _ _ st h=>wpAny_pyIter_revIter st.2 h
theorem zR.rev {H:Hp}:∀ {vs:List V} {ts:List T},zR H vs ts->zR H vs.reverse ts.reverse
 | _,_, .nil=> .nil
 | _,_, .cons r t=>by rw [List.reverse_cons,List.reverse_cons]; exact (zR.rev t).append (.cons r .nil)
theorem gN {K:PySem.W.Frag} {B1 H1:Hp} {a:Addr} {xs:List V} {ts:List T} (h:B1 a=some (.tup xs)) (r:zR B1 xs ts):rI B1 H1 (z0c K a xs.length) ts.reverse:=fun B2 H2 s1 s2=>by
 have h2:=s2 _ _ (s1 _ _ h)
 have hr:=r.rev
 refine ⟨fun i hi=> ?_,fun i t x H3 e y=> ?_,fun i hi=>⟨xs,SqT.of h2,rfl,by rw [List.length_reverse] at hi; rw [r.length]; exact hi⟩⟩
 ·obtain ⟨v,e,_⟩:=hr.get (List.getElem?_eq_getElem hi)
  exact ⟨xs,v,SqT.of h2,rfl,e⟩
 ·obtain ⟨rfl,y⟩:=y
  obtain ⟨v,e1,r1⟩:=hr.get e
  have:=y xs (SqT.of h2)
  rw [e1] at this; cases this
  refine ⟨zJ.refl _, ?_⟩
  rw [Zf.self B2 _ s2]
  exact r1.mono s1
theorem gO {K:PySem.W.Frag} {B1 H1:Hp} {a:Addr} {xs:List V} {ts:List T} (h:B1 a=some (.lst xs)) (r:zR B1 xs ts):rI B1 H1 (z0d K a xs.length) ts.reverse:=fun B2 H2 s1 s2=>by
 have h2:=s2 _ _ (s1 _ _ h)
 have hr:=r.rev
 refine ⟨fun i hi=> ?_,fun i t x H3 e y=> ?_,fun i hi=>⟨xs,SqL.of h2,rfl,by rw [List.length_reverse] at hi; rw [r.length]; exact hi⟩⟩
 ·obtain ⟨v,e,_⟩:=hr.get (List.getElem?_eq_getElem hi)
  exact ⟨xs,v,SqL.of h2,rfl,e⟩
 ·obtain ⟨rfl,y⟩:=y
  obtain ⟨v,e1,r1⟩:=hr.get e
  have:=y xs (SqL.of h2)
  rw [e1] at this; cases this
  refine ⟨zJ.refl _, ?_⟩
  rw [Zf.self B2 _ s2]
  exact r1.mono s1
noncomputable def z0e (fa:En->R T):En->R (List T):=fun ρ=>(fa ρ).bind fun t=>(We t).bind fun xs=> .ok xs.reverse
noncomputable def xK:T->R T
 | .lst xs=>if xs.length<=bnd then .ok (.tup xs.reverse) else .bad
 | _=> .bad
section
variable {X:Cx} {Y:Fx} {a b tg:Expr} {fa fb:En->R T} {pos p p' pos' :Pos}
theorem gP {ta:TA} (hg:Gl X "reversed") (hm:X.mg "reversed"=none) (ha:PA X [a] ta) (hs:St1 X a:=by exact st1 rfl):
  PI X tg (.Call (.Name "reversed" p) [a] [] pos) (fun σ H R=>ta σ H fun vs H1=>∃ l xs,vs=[.ref l]/\((H1 l=some (.lst xs)/\R (z0d X.K l xs.length) H1)\/(H1 l=some (.tup xs)/\R (z0c X.K l xs.length) H1))):=by
 intro pins s σ H R I h
 refine Call_ (ww I hg hm boot_reversed (PyProof.Rows.callWith_type1 (thn (ha pos pins s σ H _ I h) fun us s1 ⟨vs,H1,I1,r1,q1⟩=> ?_) hs rfl))
 obtain ⟨l,xs,e,q⟩:=q1
 subst e
 obtain ⟨u,rfl,ru⟩:=wD r1
 obtain rfl:u=Value.ref l:=ru
 have ok:∀ b∈[s1.heap.objs.size],Yh X pins H1 b:=fun b hb=>by
  have e:b=s1.heap.objs.size:=by simpa using hb
  subst e
  exact I1.fpOk (Nat.le_refl _) (I1.hok.fresh (Nat.le_refl _))
 rcases q with ⟨hl,q⟩ | ⟨hl,q⟩
 ·obtain ⟨its,rv,p,hz⟩:=I1.list (SqL.of hl)
  have e:((its.toArray.size:Nat):Int) - 1=(xs.length:Int) - 1 - ((0:Nat):Int):=by have:=rv.length; simp; omega
  refine call_reversed_list p.isList ?_
  rw [e]
  have st:(s1.heap.push (revObj l ((xs.length:Int) - 1 - ((0:Nat):Int)))).IsRevIter s1.heap.objs.size l ((xs.length:Int) - 1 - ((0:Nat):Int)):=⟨_,Heap.get?_push_size _ rfl,rfl,rfl⟩
  refine wpAny_pyIter_revIter (s:={ s1 with heap:=s1.heap.push (revObj l ((xs.length:Int) - 1 - ((0:Nat):Int))) }) st ?_
  exact ⟨s1.heap.objs.size,[s1.heap.objs.size],_,_,H1,rfl,I1.kept (t' :=s1.toks) (fun b o e=>Heap.get?_push_of_some _ e),xJ l _ xs.length,⟨Nat.zero_le _,st⟩,ok,q⟩
 ·obtain ⟨its,rv,p,hz⟩:=I1.tuple (SqT.of hl)
  have hlen:=rv.length
  have e:((its.toArray.size:Nat):Int) - 1=(xs.length:Int) - 1 - ((0:Nat):Int):=by simp; omega
  refine RV.call_rvT p (by rw [sizeLine_eq] at hz; simp; omega) fun tk=> ?_
  rw [e]
  refine RV.iter_rv (s:={ s1 with heap:=_,toks:=tk }) (Heap.get?_push_size _ rfl) ?_
  exact ⟨s1.heap.objs.size,[s1.heap.objs.size],_,_,H1,rfl,I1.kept (t' :=tk) (fun b o e=>Heap.get?_push_of_some _ e),xI l _ xs.length,⟨Nat.zero_le _,Heap.get?_push_size _ rfl⟩,ok,q⟩
theorem z0f (hg:Gl X "reversed") (hm:X.mg "reversed"=none) (ha:Snd X Y a fa) (hs:St1 X a:=by exact st1 rfl):vv X Y tg (.Call (.Name "reversed" p) [a] [] pos) (z0e fa):= .mk fun ρ=>
 PI.imp (gP hg hm (zS (ha ρ) ja hs) hs) fun σ H R ⟨B,I,q⟩=>step I q fun t v H1 _ s1 r1 I1 q1=>by
  cases r1 with
  | @tup l xs ts h r=>exact ⟨l,xs,rfl, .inr ⟨I1.sB _ _ h,Jr I1 (show Po Y rI _ H1 (.ok ts.reverse) R from q1) (gN h r)⟩⟩
  | @lst l xs ts h r=>exact ⟨l,xs,rfl, .inl ⟨I1.sB _ _ h,Jr I1 (show Po Y rI _ H1 (.ok ts.reverse) R from q1) (gO h r)⟩⟩
  | _=>exact q1.elim
theorem qo:∀ {xs ys:List V} {us ws:List Value},ZB xs us->ZB ys ws->ZB (xs++ys) (us++ws)
 | _,_,_,_, .nil,q=>q
 | _,_,_,_, .cons r t,q=> .cons r (qo t q)
theorem qp:∀ {xs:List V} {us:List Value},ZB xs us->ZB xs.reverse us.reverse
 | _,_, .nil=> .nil
 | _,_, .cons r t=>by rw [List.reverse_cons,List.reverse_cons]; exact qo (qp t) (.cons r .nil)
theorem kT {its:List Value} {acc:Array Value} (h:ItemsOf (fun i v=>its.toArray[its.toArray.size - 1 - i]? =some v) acc its.toArray.size):acc.toList=its.reverse:=by
 have h1:acc.size=its.length:=by
  have:=h.1
  simpa using this
 have h2:=h.2
 refine List.ext_getElem? fun i=> ?_
 by_cases hi:i < its.length
 ·have hlt:i < acc.toList.length:=by simp; omega
  have e:=List.getElem?_eq_getElem hlt
  have:=h2 i _ (by rw [← Array.getElem?_toList]; exact e)
  rw [List.getElem?_reverse hi,e,← this]
  simp
 ·rw [List.getElem?_eq_none (by simp; omega),List.getElem?_eq_none (by simp; omega)]
theorem gQ (hh:X.A.handled=none) (gl:Gl X "tuple") (mg:X.mg "tuple"=none) (gl' :Gl X "reversed") (mg' :X.mg "reversed"=none) (ha:Snd X Y a fa) (hs:St1 X a:=by exact st1 rfl) (hs' :St1 X (.Call (.Name "reversed" p') [a] [] pos'):=by exact st1 rfl):
  Snd X Y (.Call (.Name "tuple" p) [.Call (.Name "reversed" p') [a] [] pos'] [] pos) (ap1 xK fa):= .mk fun ρ=>by
 intro pins s σ H Q I ⟨B,J,q⟩
 have hq:tS Y rC fa ρ σ H (fun v H1=>∃ l xs,v= .ref l/\H1 l=some (.lst xs)/\xs.length<=sizeLine/\∀ t,H1 t=none->Q (.ref t) (upd H1 t (.tup xs.reverse))):=by
  refine step J q fun t v H1 _ s1 r1 I1 q1=> ?_
  cases r1 with
  | @lst l xs ts h r=>
   have q1:Po Y rC _ H1 (if ts.length<=bnd then .ok (.tup ts.reverse) else .bad) Q:=q1
   split at q1
   ·rename_i hb
    exact ⟨l,xs,rfl,I1.sB _ _ h,by rw [r.length]; exact J9 hb,fun t ht=>gh I1.sB q1 rfl r.rev ht⟩
   ·exact q1.elim
  | _=>exact q1.elim
 refine wpAny_Call_Name_kw (ww I gl mg PyProof.Rows.Boot.«tuple» (PyProof.Rows.callWith_type1 (e:= .Call (.Name "reversed" p') [a] [] pos') (rest:=[]) ?_ hs' rfl))
 rw [hs']
 show wpAny _ _ (spliced [(false,eval (.Call (.Name "reversed" p') [a] [] pos') X.env)]) _ _ s
 refine Calls.spliced_cons (wpAny_Call_Name_kw (ww I gl' mg' boot_reversed (PyProof.Rows.callWith_type1 (e:=a) (rest:=[]) ?_ hs rfl)))
 refine thn ((zS (ha ρ) ja hs) pos' pins s σ H (fun vs H1=>∃ l xs,vs=[.ref l]/\H1 l=some (.lst xs)/\xs.length<=sizeLine/\∀ t,H1 t=none->Q (.ref t) (upd H1 t (.tup xs.reverse))) I ?_) fun us s1 ⟨vs,H1,I1,r1,l,xs,e,hl,hz,q1⟩=> ?_
 ·obtain ⟨B',J',q'⟩:=hq
  refine ⟨B',J', ?_⟩
  revert q'
  cases fa ρ with
  | bad=>exact fun q' =>q'
  | ex c=>exact fun q' =>q'
  | ok t=>
   intro q' v H1 s1 r1
   obtain ⟨l,xs,rfl,h⟩:=q' v H1 s1 r1
   exact ⟨l,xs,rfl,h⟩
 subst e
 obtain ⟨u,rfl,ru⟩:=wD r1
 obtain rfl:u=Value.ref l:=ru
 obtain ⟨its,rv,pl,_⟩:=I1.list (SqL.of hl)
 have hlt:l < s1.heap.objs.size:=I1.hok.lt hl
 refine call_reversed_list pl.isList (Calls.spliced_nil ?_)
 have e0:((its.toArray.size:Nat):Int) - 1 - ((0:Nat):Int)=((its.toArray.size:Nat):Int) - 1:=by omega
 refine RV.tuple_lr (s:={ s1 with heap:=s1.heap.push (revObj l ((its.toArray.size:Int) - 1)) }) (Walks.listRev (A:=X.A.in1.in1.in1) hh s1.heap.objs.size l (Nat.ne_of_lt hlt) its.toArray).toS (fun i s st=>st.2.1.typeIs) ⟨Nat.zero_le _,⟨_,Heap.get?_push_size _ rfl,rfl,by rw [e0]; rfl⟩,pl.isList.push _⟩ (fun b hb=> ?_) (by simp) (fun s' acc hm hacc=> ?_) (by rw [List.size_toArray,← rv.length]; exact hz)
 ·have hb:b=s1.heap.objs.size\/b=l:=by simpa using hb
  rcases hb with rfl | rfl
  ·rw [Heap.size_push]; exact Nat.lt_succ_self _
  ·rw [Heap.size_push]; exact Nat.lt_succ_of_lt hlt
 obtain ⟨h',g',d',tk',os'⟩:=s'
 have e1:g' =s1.gens:=hm.gens
 have e2:d' =s1.drawn:=hm.drawn
 have e3:os' =s1.os:=hm.os
 subst e1 e2 e3
 have kp:∀ b o,s1.heap.get? b=some o->h'.get? b=some o:=fun b o e=>hm.heap b o (fun z=>by
  have z:b=s1.heap.objs.size:=by simpa using z
  have:=Heap.lt_size e
  rw [z] at this
  exact Nat.lt_irrefl _ this) (Heap.get?_push_of_some _ e)
 have I2:Inv X pins σ H1 { s1 with heap:=h',toks:=tk' }:=I1.kept (t' :=tk') kp
 have ea:acc=its.reverse.toArray:=by rw [← kT hacc]
 rw [ea]
 refine ⟨.ref h'.objs.size,upd H1 h'.objs.size (.tup xs.reverse),I2.laid (t' :=tk') (fun b u e=>Heap.get?_push_of_some _ e) (Nat.le_refl _) ⟨by rw [List.length_reverse]; exact hz,its.reverse,qp rv,⟨_,Heap.get?_push_size _ rfl,rfl,_,rfl⟩⟩,rfl,q1 _ (I2.hok.fresh (Nat.le_refl _))⟩
end
end PV
namespace G
open PySem PySem.Spec PyProof.Rows L2 PV
noncomputable def ui:En->RS:=
  zL (ifS (Zp ltC (vB 1) (ap1 JF (vB 0))) (Zb (zg ixT (vE 0) (vE 1))) (nxS))
  (zL (ifS (Zp eqC (vB 0) (Wr (zh))) (Zb (cE (.int 0))) (nxS))
  (Zb (zg zF (zg Zq (zg ixT (vE 0) (zg uR (vE 1) (ap1 JF (vB 0)))) (cE (.int 31))) (vE 1))))
noncomputable def jS:List T->R T:=fun ts=>zp (ui  (en0 2 ts))
noncomputable def uj (c__law_cell:List T->R T):En->RS:=
  zL (ZC 3 (zg uR (zg Zq (zg zF (zc 2 c__law_cell (z9 (vE 0) (z9 (vE 1) (zh)))) (zg Zq (cE (.int 6151)) (zg zF (vE 1) (cE (.int 1))))) (cE (.int 40692))) (cE (.int 2147483399))))
  (Zb (zg uR (zg uR (zg zF (zg Zq (vE 3) (vE 3)) (zg WI (vE 3) (cE (.int 31)))) (cE (.int 2147483629))) (vE 2)))
noncomputable def zm:List T->R T:=fun ts=>zp (uj (jS) (en0 4 ts))
noncomputable def jr (c__law_pick:List T->R T):En->RS:=
  zL (ZC 2 (cE (.str "abcdefghijklmnopqrstuvwxyz")))
  (zL (ifS (Zp gtC (zc 3 c__law_pick (z9 (vE 0) (z9 (vE 1) (z9 (cE (.int 6)) (zh))))) (cE (.int 0))) (Zb (zg ixT (Wr (z9 (cE (.str "a")) (z9 (cE (.str "b")) (z9 (cE (.str "ab")) (z9 (cE (.str "cab")) (zh)))))) (zc 3 c__law_pick (z9 (vE 0) (z9 (zg zF (vE 1) (cE (.int 1))) (z9 (cE (.int 4)) (zh))))))) (nxS))
  (Zb (ap1 (gw "") (jw (J7 (zg zF (cE (.int 1)) (zc 3 c__law_pick (z9 (vE 0) (z9 (zg zF (vE 1) (cE (.int 1))) (z9 (cE (.int 3)) (zh))))))) (zP 0) (j8) (zg ixT (vE 3) (zc 3 c__law_pick (z9 (vE 1) (z9 (zg zF (zg zF (vE 2) (cE (.int 2))) (vE 0)) (z9 (cE (.int 26)) (zh)))))) 1 [0,1,2]))))
noncomputable def Zt:List T->R T:=fun ts=>zp (jr (zm) (en0 3 ts))
noncomputable def ZX (c__law_pick:List T->R T) (c__law_word_of:List T->R T):En->RS:=
  zL (ifS (Zp gtC (zc 3 c__law_pick (z9 (vE 0) (z9 (vE 1) (z9 (cE (.int 3)) (zh))))) (cE (.int 0))) (zL (ZC 2 (zg uV (zc 3 c__law_pick (z9 (vE 0) (z9 (zg zF (vE 1) (cE (.int 1))) (z9 (cE (.int 7)) (zh))))) (cE (.int 3))))
  (zL (ifS (Zp eqC (zc 3 c__law_pick (z9 (vE 0) (z9 (zg zF (vE 1) (cE (.int 3))) (z9 (cE (.int 8)) (zh))))) (cE (.int 0))) (ZC 2 (zg ixT (Wr (z9 (qZ (cE (.int 20))) (z9 (cE (.int 17)) (z9 (cE (.int 20)) (zh))))) (zc 3 c__law_pick (z9 (vE 0) (z9 (zg zF (vE 1) (cE (.int 4))) (z9 (cE (.int 3)) (zh))))))) (nxS))
  (Zb (wk (z9 (cE (.str "whole")) (z9 (vE 2) (z9 (zg vo (cE (.int 20)) (zg zF (vE 2) (zc 3 c__law_pick (z9 (vE 0) (z9 (zg zF (vE 1) (cE (.int 2))) (z9 (cE (.int 4)) (zh))))))) (zh)))))))) (nxS))
  (zL (VN 3 (zh))
  (zL (wP (J7 (zg zF (cE (.int 1)) (zc 3 c__law_pick (z9 (vE 0) (z9 (zg zF (vE 1) (cE (.int 1))) (z9 (cE (.int 4)) (zh))))))) (zP 4) (zL (ZC 5 (zc 2 c__law_word_of (z9 (vE 0) (z9 (zg zF (zg zF (vE 1) (cE (.int 5))) (zg Zq (cE (.int 5)) (vE 4))) (zh)))))
  (ifS (Zp v8 (vB 5) (vB 3)) (xr 3 (vE 5)) (nxS))))
  (Zb (wk (z9 (cE (.str "pick")) (z9 (ap1 Gq (jw (kC (vE 3)) (jk 0 1) (j8) (wk (z9 (vE 1) (z9 (zg zF (cE (.int 1)) (zc 3 c__law_pick (z9 (vE 2) (z9 (zg zF (zg zF (vE 3) (cE (.int 30))) (vE 0)) (z9 (cE (.int 20)) (zh)))))) (zh)))) 2 [0,1])) (zh)))))))
noncomputable def Zr:List T->R T:=fun ts=>zp (ZX (zm) (Zt) (en0 6 ts))
noncomputable def JJ (c__law_pick:List T->R T) (c__law_leaf_kind:List T->R T) (c__law_kind:List T->R T):En->RS:=
  zL (ZC 3 (zc 3 c__law_pick (z9 (vE 0) (z9 (vE 1) (z9 (cE (.int 5)) (zh))))))
  (zL (ifS (orT (Zp eqC (vB 2) (cE (.int 1))) (Zp ltC (vB 3) (cE (.int 2)))) (Zb (zc 2 c__law_leaf_kind (z9 (vE 0) (z9 (zg zF (vE 1) (cE (.int 1))) (zh))))) (nxS))
  (zL (ifS (Zp ltC (vB 3) (cE (.int 4))) (zL (ZC 4 (jw (J7 (zg zF (cE (.int 1)) (zc 3 c__law_pick (z9 (vE 0) (z9 (zg zF (vE 1) (cE (.int 1))) (z9 (cE (.int 3)) (zh))))))) (zP 0) (j8) (zc 3 c__law_kind (z9 (vE 1) (z9 (zg zF (zg zF (zg Zq (cE (.int 3)) (vE 2)) (cE (.int 40))) (zg Zq (cE (.int 50)) (vE 0))) (z9 (zg uV (vE 3) (cE (.int 1))) (zh))))) 1 [0,1,2]))
  (Zb (wk (z9 (cE (.str "row")) (z9 (ap1 Gq (vE 4)) (zh)))))) (nxS))
  (zL (ZC 5 (zc 3 c__law_pick (z9 (vE 0) (z9 (zg zF (vE 1) (cE (.int 1))) (z9 (cE (.int 3)) (zh))))))
  (Zb (wk (z9 (cE (.str "many")) (z9 (zc 3 c__law_kind (z9 (vE 0) (z9 (zg zF (zg Zq (cE (.int 3)) (vE 1)) (cE (.int 40))) (z9 (zg uV (vE 2) (cE (.int 1))) (zh))))) (z9 (vE 5) (z9 (zg vo (cE (.int 3)) (zg zF (vE 5) (zc 3 c__law_pick (z9 (vE 0) (z9 (zg zF (vE 1) (cE (.int 2))) (z9 (cE (.int 3)) (zh))))))) (zh))))))))))
noncomputable def Zn:Nat->Nat->List T->R T
 | 0,_=>fun _=> .bad
 | n+1,_=>fun ts=>zp (JJ (zm) (Zr) (Zn n 0) (en0 6 ts))
noncomputable abbrev Zo (n:Nat):List T->R T:=Zn n 0
noncomputable def jt:En->RS:=
  zL (ZC 1 (Wr (z9 (wk (zh)) (zh))))
  (zL (wP (WN (vE 0)) (zP 2) (zL (VN 3 (zh))
  (zL (wP (WN (vE 1)) (zP 4) (Km 3 (jw (WN (vE 2)) (zP 0) (j8) (zg zF (vE 1) (wk (z9 (vE 0) (zh)))) 1 [4])))
  (mvS 1 3))))
  (Zb (vE 1)))
noncomputable def zf:List T->R T:=fun ts=>zp (jt  (en0 5 ts))
noncomputable def zA (c__law_all:List T->R T) (c__law_rows_of:List T->R T):En->RS:=
  zL (ifS (Zp eqC (zg ixT (vE 0) (cE (.int 0))) (cE (.str "whole"))) (Zb (Gr (wS (zg ixT (vE 0) (cE (.int 1))) (zg zF (zg ixT (vE 0) (cE (.int 2))) (cE (.int 1)))))) (nxS))
  (zL (ifS (Zp eqC (zg ixT (vE 0) (cE (.int 0))) (cE (.str "pick"))) (Zb (jw (WN (zg ixT (vE 0) (cE (.int 1)))) (jk 0 1) (j8) (vE 0) 2 [])) (nxS))
  (zL (ifS (Zp eqC (zg ixT (vE 0) (cE (.int 0))) (cE (.str "row"))) (Zb (zc 1 c__law_rows_of (z9 (jw (WN (zg ixT (vE 0) (cE (.int 1)))) (zP 0) (j8) (zc 1 c__law_all (z9 (vE 0) (zh))) 1 []) (zh)))) (nxS))
  (zL (VN 1 (zh))
  (zL (wP (wS (zg ixT (vE 0) (cE (.int 2))) (zg zF (zg ixT (vE 0) (cE (.int 3))) (cE (.int 1)))) (zP 2) (Km 1 (zc 1 c__law_rows_of (z9 (zg Zq (Wr (z9 (zc 1 c__law_all (z9 (zg ixT (vE 0) (cE (.int 1))) (zh))) (zh))) (vE 2)) (zh)))))
  (Zb (vE 1))))))
noncomputable def jP:Nat->Nat->List T->R T
 | 0,_=>fun _=> .bad
 | n+1,_=>fun ts=>zp (zA (jP n 0) (zf) (en0 3 ts))
noncomputable abbrev zB (n:Nat):List T->R T:=jP n 0
noncomputable def zE (c__law_all:List T->R T) (c__law_size:List T->R T):En->RS:=
  zL (ifS (Zp inC (zg ixT (vE 0) (cE (.int 0))) (wk (z9 (cE (.str "whole")) (z9 (cE (.str "pick")) (zh))))) (Zb (ap1 JF (zc 1 c__law_all (z9 (vE 0) (zh))))) (nxS))
  (zL (ZC 1 (ifE (Zp eqC (zg ixT (vE 0) (cE (.int 0))) (cE (.str "row"))) (jw (WN (zg ixT (vE 0) (cE (.int 1)))) (zP 0) (j8) (zc 1 c__law_size (z9 (vE 0) (zh))) 1 []) (Wr (zh))))
  (zL (ZC 2 (cE (.int 1)))
  (zL (wP (WN (vE 1)) (zP 3) (ZC 2 (zg Zq (vE 2) (vE 3))))
  (zL (ifS (Zp eqC (zg ixT (vE 0) (cE (.int 0))) (cE (.str "many"))) (zL (ZC 4 (zc 1 c__law_size (z9 (zg ixT (vE 0) (cE (.int 1))) (zh))))
  (zL (ZC 2 (zg zF (ap1 yf (yd eqC (zg ixT (vE 0) (cE (.int 2))) (cE (.int 0)))) (zg Zq (vE 4) (ap1 yf (chE leC leC (zg ixT (vE 0) (cE (.int 2))) (cE (.int 1)) (zg ixT (vE 0) (cE (.int 3))))))))
  (zL (ZC 2 (zg zF (vE 2) (zg Zq (zg Zq (vE 4) (vE 4)) (ap1 yf (chE leC leC (zg ixT (vE 0) (cE (.int 2))) (cE (.int 2)) (zg ixT (vE 0) (cE (.int 3))))))))
  (ZC 2 (zg zF (vE 2) (zg Zq (zg Zq (zg Zq (vE 4) (vE 4)) (vE 4)) (ap1 yf (yd eqC (zg ixT (vE 0) (cE (.int 3))) (cE (.int 3)))))))))) (nxS))
  (Zb (vE 2))))))
noncomputable def j0:Nat->Nat->List T->R T
 | 0,_=>fun _=> .bad
 | n+1,_=>fun ts=>zp (zE (zB 8) (j0 n 0) (en0 5 ts))
noncomputable abbrev j1 (n:Nat):List T->R T:=j0 n 0
noncomputable def Ja (c__law_kind:List T->R T) (c__law_size:List T->R T):En->RS:=
  zL (ZC 3 (zc 3 c__law_kind (z9 (vE 0) (z9 (vE 1) (z9 (cE (.int 3)) (zh))))))
  (zL (wP (J7 (cE (.int 3))) (zP 4) (zL (ifS (Zp leC (zc 1 c__law_size (z9 (vE 3) (zh))) (vB 2)) (Zb (vE 3)) (nxS))
  (ZC 3 (zc 3 c__law_kind (z9 (vE 0) (z9 (zg zF (zg zF (vE 1) (cE (.int 500))) (zg Zq (cE (.int 700)) (vE 4))) (z9 (cE (.int 2)) (zh))))))))
  (Zb (ifE (Zp leC (zc 1 c__law_size (z9 (vE 3) (zh))) (vB 2)) (vE 3) (wk (z9 (cE (.str "whole")) (z9 (qZ (cE (.int 1))) (z9 (cE (.int 2)) (zh))))))))
noncomputable def ZE:List T->R T:=fun ts=>zp (Ja (Zo 8) (j1 8) (en0 5 ts))
noncomputable def Uf:En->RS:=
  Zb (uY (ap1 (ko "int") (vB 0)) (notE (ap1 (ko "bool") (vB 0))))
noncomputable def Z1:List T->R T:=fun ts=>zp (Uf  (en0 1 ts))
noncomputable def yD (c_is_whole:List T->R T):En->RS:=
  Zb (uY (zc 1 c_is_whole (z9 (vE 0) (zh))) (uY (zc 1 c_is_whole (z9 (vE 1) (zh))) (ch3E leC leC leC (vB 2) (vB 0) (vB 1) (vB 3))))
noncomputable def wV:List T->R T:=fun ts=>zp (yD (Z1) (en0 4 ts))
noncomputable def wW:En->RS:=
  Zb (uY (ap1 (ko "tuple") (vB 0)) (chE leC leC (vB 1) (ap1 JF (vB 0)) (vB 2)))
noncomputable def zq:List T->R T:=fun ts=>zp (wW  (en0 3 ts))
noncomputable def yE:En->RS:=
  zL (ifS (orT (Qw (VM (ap1 (ko "str") (vB 0)))) (Qw (chT leC leC (cE (.int 1)) (ap1 JF (vB 0)) (cE (.int 3))))) (Zb (cE (.bl false))) (nxS))
  (Zb (ap1 Xf (jw (WN (vE 0)) (zP 0) (j8) (chE leC leC (cE (.str "a")) (vB 0) (cE (.str "z"))) 1 [])))
noncomputable def Ju:List T->R T:=fun ts=>zp (yE  (en0 1 ts))
noncomputable def JK (c_is_whole:List T->R T) (c_is_tuple_of:List T->R T) (c_is_word:List T->R T):En->RS:=
  Zb (uY (zc 3 c_is_tuple_of (z9 (vE 0) (z9 (cE (.int 2)) (z9 (cE (.int 2)) (zh))))) (uY (zc 1 c_is_word (z9 (zg ixT (vE 0) (cE (.int 0))) (zh))) (uY (zc 1 c_is_whole (z9 (zg ixT (vE 0) (cE (.int 1))) (zh))) (chE leC leC (cE (.int 1)) (zg ixT (vE 0) (cE (.int 1))) (cE (.int 20))))))
noncomputable def j2:List T->R T:=fun ts=>zp (JK (Z1) (zq) (Ju) (en0 1 ts))
noncomputable def jL (c_is_tuple_of:List T->R T) (c_is_choice:List T->R T):En->RS:=
  zL (ifS (orT (Qw (VM (zc 3 c_is_tuple_of (z9 (vE 0) (z9 (cE (.int 1)) (z9 (cE (.int 4)) (zh))))))) (Qw (VM (ap1 Xf (jw (WN (vE 0)) (zP 0) (j8) (zc 1 c_is_choice (z9 (vE 0) (zh))) 1 []))))) (Zb (cE (.bl false))) (nxS))
  (zL (ZC 1 (jw (WN (vE 0)) (zP 0) (j8) (zg ixT (vE 0) (cE (.int 0))) 1 []))
  (Zb (yd eqC (ap1 xy (vB 1)) (ap1 JF (vB 1)))))
noncomputable def jd:List T->R T:=fun ts=>zp (jL (zq) (j2) (en0 2 ts))
noncomputable def ZY (c_is_span:List T->R T) (c_is_kind_within:List T->R T) (c_are_choices:List T->R T) (c_are_kinds_within:List T->R T):En->RS:=
  zL (ifS (orT (Zp eqC (vB 1) (cE (.int 0))) (orT (Qw (VM (ap1 (ko "tuple") (vB 0)))) (Zp eqC (ap1 JF (vB 0)) (cE (.int 0))))) (Zb (cE (.bl false))) (nxS))
  (zL (ifS (Zp eqC (zg ixT (vE 0) (cE (.int 0))) (cE (.str "whole"))) (Zb (uY (yd eqC (ap1 JF (vB 0)) (cE (.int 3))) (zc 4 c_is_span (z9 (zg ixT (vE 0) (cE (.int 1))) (z9 (zg ixT (vE 0) (cE (.int 2))) (z9 (qZ (cE (.int 20))) (z9 (cE (.int 20)) (zh)))))))) (nxS))
  (zL (ifS (Zp eqC (zg ixT (vE 0) (cE (.int 0))) (cE (.str "pick"))) (Zb (uY (yd eqC (ap1 JF (vB 0)) (cE (.int 2))) (zc 1 c_are_choices (z9 (zg ixT (vE 0) (cE (.int 1))) (zh))))) (nxS))
  (zL (ifS (Zp eqC (zg ixT (vE 0) (cE (.int 0))) (cE (.str "row"))) (Zb (uY (yd eqC (ap1 JF (vB 0)) (cE (.int 2))) (zc 2 c_are_kinds_within (z9 (zg ixT (vE 0) (cE (.int 1))) (z9 (zg uV (vE 1) (cE (.int 1))) (zh)))))) (nxS))
  (zL (ifS (Zp eqC (zg ixT (vE 0) (cE (.int 0))) (cE (.str "many"))) (Zb (uY (yd eqC (ap1 JF (vB 0)) (cE (.int 4))) (uY (zc 4 c_is_span (z9 (zg ixT (vE 0) (cE (.int 2))) (z9 (zg ixT (vE 0) (cE (.int 3))) (z9 (cE (.int 0)) (z9 (cE (.int 3)) (zh)))))) (zc 2 c_is_kind_within (z9 (zg ixT (vE 0) (cE (.int 1))) (z9 (zg uV (vE 1) (cE (.int 1))) (zh))))))) (nxS))
  (Zb (cE (.bl false)))))))
noncomputable def Zx (c_is_tuple_of:List T->R T) (c_is_kind_within:List T->R T):En->RS:=
  Zb (uY (zc 3 c_is_tuple_of (z9 (vE 0) (z9 (cE (.int 1)) (z9 (cE (.int 3)) (zh))))) (ap1 Xf (jw (WN (vE 0)) (zP 0) (j8) (zc 2 c_is_kind_within (z9 (vE 0) (z9 (vE 1) (zh)))) 1 [1])))
noncomputable def zk:Nat->Nat->List T->R T
 | 0,_=>fun _=> .bad
 | n+1,0=>fun ts=>zp (ZY (wV) (zk n 0) (jd) (zk n 1) (en0 2 ts))
 | n+1,_=>fun ts=>zp (Zx (zq) (zk n 0) (en0 2 ts))
noncomputable abbrev jC (n:Nat):List T->R T:=zk n 0
noncomputable abbrev wX (n:Nat):List T->R T:=zk n 1
noncomputable def wY (c_is_kind_within:List T->R T):En->RS:=
  Zb (zc 2 c_is_kind_within (z9 (vE 0) (z9 (cE (.int 3)) (zh))))
noncomputable def Jv:List T->R T:=fun ts=>zp (wY (jC 20) (en0 1 ts))
noncomputable def JL (c_is_kind:List T->R T):En->RS:=
  ifS (Qw (VM (zc 1 c_is_kind (z9 (vE 0) (zh))))) (yA 0) (nxS)
noncomputable def zU:List T->R T:=fun ts=>zp (JL (Jv) (en0 1 ts))
noncomputable def wm (c_count_of_parts:List T->R T) (c_count_shorter:List T->R T):En->RS:=
  zL (ifS (Zp eqC (zg ixT (vE 0) (cE (.int 0))) (cE (.str "whole"))) (Zb (zg zF (zg uV (zg ixT (vE 0) (cE (.int 2))) (zg ixT (vE 0) (cE (.int 1)))) (cE (.int 1)))) (nxS))
  (zL (ifS (Zp eqC (zg ixT (vE 0) (cE (.int 0))) (cE (.str "pick"))) (Zb (ap1 JF (zg ixT (vE 0) (cE (.int 1))))) (nxS))
  (zL (ifS (Zp eqC (zg ixT (vE 0) (cE (.int 0))) (cE (.str "row"))) (Zb (zc 1 c_count_of_parts (z9 (zg ixT (vE 0) (cE (.int 1))) (zh)))) (nxS))
  (Zb (zc 2 c_count_shorter (z9 (vE 0) (z9 (zg zF (zg ixT (vE 0) (cE (.int 3))) (cE (.int 1))) (zh)))))))
noncomputable def zG (c_count_of:List T->R T):En->RS:=
  zL (ZC 1 (cE (.int 1)))
  (zL (wP (WN (vE 0)) (zP 2) (ZC 1 (zg Zq (vE 1) (zc 1 c_count_of (z9 (vE 2) (zh))))))
  (Zb (vE 1)))
noncomputable def zV (c_count_of_parts:List T->R T):En->RS:=
  Zb (ap1 Gu (jw (wS (zg ixT (vE 0) (cE (.int 2))) (vE 1)) (zP 0) (j8) (zc 1 c_count_of_parts (z9 (zg Zq (Wr (z9 (zg ixT (vE 1) (cE (.int 1))) (zh))) (vE 0)) (zh))) 1 [0]))
noncomputable def zu:Nat->Nat->List T->R T
 | 0,_=>fun _=> .bad
 | n+1,0=>fun ts=>zp (wm (zu n 1) (zu n 2) (en0 1 ts))
 | n+1,1=>fun ts=>zp (zG (zu n 0) (en0 3 ts))
 | n+1,_=>fun ts=>zp (zV (zu n 1) (en0 2 ts))
noncomputable abbrev zw (n:Nat):List T->R T:=zu n 0
noncomputable abbrev WO (n:Nat):List T->R T:=zu n 1
noncomputable abbrev zC (n:Nat):List T->R T:=zu n 2
noncomputable def je:En->RS:=
  Zb (jw (WN (zg ixT (vE 0) (cE (.int 1)))) (zP 0) (j8) (zg ixT (vE 0) (cE (.int 0))) 1 [])
noncomputable def zr:List T->R T:=fun ts=>zp (je  (en0 1 ts))
noncomputable def wn (c_words_of_pick:List T->R T) (c_many_at:List T->R T) (c_parts_at:List T->R T):En->RS:=
  zL (ifS (Zp eqC (zg ixT (vE 0) (cE (.int 0))) (cE (.str "whole"))) (Zb (zg zF (zg ixT (vE 0) (cE (.int 1))) (vE 1))) (nxS))
  (zL (ifS (Zp eqC (zg ixT (vE 0) (cE (.int 0))) (cE (.str "pick"))) (Zb (zg ixT (zc 1 c_words_of_pick (z9 (vE 0) (zh))) (vE 1))) (nxS))
  (zL (ifS (Zp eqC (zg ixT (vE 0) (cE (.int 0))) (cE (.str "row"))) (Zb (zc 2 c_parts_at (z9 (zg ixT (vE 0) (cE (.int 1))) (z9 (vE 1) (zh))))) (nxS))
  (Zb (zc 2 c_many_at (z9 (vE 0) (z9 (vE 1) (zh)))))))
noncomputable def Jw (c_count_shorter:List T->R T) (c_parts_at:List T->R T):En->RS:=
  zL (ZC 2 (zg ixT (vE 0) (cE (.int 2))))
  (zL (Js (Zp leC (zc 2 c_count_shorter (z9 (vE 0) (z9 (zg zF (vE 2) (cE (.int 1))) (zh)))) (vB 1)) (ZC 2 (zg zF (vE 2) (cE (.int 1)))) 8)
  (Zb (zc 2 c_parts_at (z9 (zg Zq (Wr (z9 (zg ixT (vE 0) (cE (.int 1))) (zh))) (vE 2)) (z9 (zg uV (vE 1) (zc 2 c_count_shorter (z9 (vE 0) (z9 (vE 2) (zh))))) (zh))))))
noncomputable def jm (c_count_of:List T->R T) (c_worth_at:List T->R T):En->RS:=
  zL (VN 2 (zh))
  (zL (ZC 3 (vE 1))
  (zL (wP (z0e (vE 0)) (zP 4) (zL (ZC 5 (zc 1 c_count_of (z9 (vE 4) (zh))))
  (zL (xr 2 (zc 2 c_worth_at (z9 (vE 4) (z9 (zg uR (vE 3) (vE 5)) (zh)))))
  (ZC 3 (zg WI (vE 3) (vE 5))))))
  (Zb (ap1 xK (vE 2)))))
noncomputable def zx:Nat->Nat->List T->R T
 | 0,_=>fun _=> .bad
 | n+1,0=>fun ts=>zp (wn (zr) (zx n 1) (zx n 2) (en0 2 ts))
 | n+1,1=>fun ts=>zp (Jw (zC 20) (zx n 2) (en0 3 ts))
 | n+1,_=>fun ts=>zp (jm (zw 20) (zx n 0) (en0 6 ts))
noncomputable abbrev zN (n:Nat):List T->R T:=zx n 0
noncomputable abbrev vT (n:Nat):List T->R T:=zx n 1
noncomputable abbrev Q5 (n:Nat):List T->R T:=zx n 2
noncomputable def Jb (c_need_kind:List T->R T) (c_count_of:List T->R T) (c_worth_at:List T->R T):En->RS:=
  zL (WM (zc 1 c_need_kind (z9 (vE 0) (zh))))
  (zL (ZC 1 (zc 1 c_count_of (z9 (vE 0) (zh))))
  (zL (ifS (Zp gtC (vB 1) (cE (.int 500))) (yA 3) (nxS))
  (Gv (J7 (vE 1)) (zP 0) (j8) (zc 2 c_worth_at (z9 (vE 1) (z9 (vE 0) (zh)))) 1 [0])))
noncomputable def jx:List T->R T:=fun ts=>zp (Jb (zU) (zw 20) (zN 20) (en0 2 ts))
noncomputable def u0 (c_need_kind:List T->R T) (c_count_of:List T->R T) (c_worth_at:List T->R T):En->RS:=
  zL (WM (zc 1 c_need_kind (z9 (vE 0) (zh))))
  (Zb (zc 2 c_worth_at (z9 (vE 0) (z9 (zg WI (zg uV (zc 1 c_count_of (z9 (vE 0) (zh))) (cE (.int 1))) (cE (.int 2))) (zh)))))
noncomputable def JM:List T->R T:=fun ts=>zp (u0 (zU) (zw 20) (zN 20) (en0 1 ts))
noncomputable def zW (c_is_whole:List T->R T) (c_is_tuple_of:List T->R T) (c_words_of_pick:List T->R T) (c_have_parts:List T->R T):En->RS:=
  zL (ifS (Zp eqC (zg ixT (vE 0) (cE (.int 0))) (cE (.str "whole"))) (Zb (uY (zc 1 c_is_whole (z9 (vE 1) (zh))) (chE leC leC (zg ixT (vE 0) (cE (.int 1))) (vB 1) (zg ixT (vE 0) (cE (.int 2)))))) (nxS))
  (zL (ifS (Zp eqC (zg ixT (vE 0) (cE (.int 0))) (cE (.str "pick"))) (Zb (yd inC (vB 1) (zc 1 c_words_of_pick (z9 (vE 0) (zh))))) (nxS))
  (zL (ifS (Zp eqC (zg ixT (vE 0) (cE (.int 0))) (cE (.str "row"))) (Zb (uY (zc 3 c_is_tuple_of (z9 (vE 1) (z9 (ap1 JF (zg ixT (vE 0) (cE (.int 1)))) (z9 (ap1 JF (zg ixT (vE 0) (cE (.int 1)))) (zh))))) (zc 2 c_have_parts (z9 (zg ixT (vE 0) (cE (.int 1))) (z9 (vE 1) (zh)))))) (nxS))
  (Zb (uY (zc 3 c_is_tuple_of (z9 (vE 1) (z9 (zg ixT (vE 0) (cE (.int 2))) (z9 (zg ixT (vE 0) (cE (.int 3))) (zh))))) (zc 2 c_have_parts (z9 (zg Zq (Wr (z9 (zg ixT (vE 0) (cE (.int 1))) (zh))) (ap1 JF (vB 1))) (z9 (vE 1) (zh))))))))
noncomputable def jy (c_has_worth:List T->R T):En->RS:=
  Zb (ap1 Xf (jw (Xp (vE 0) (vE 1)) (jk 0 1) (j8) (zc 2 c_has_worth (z9 (vE 0) (z9 (vE 1) (zh)))) 2 []))
noncomputable def zH:Nat->Nat->List T->R T
 | 0,_=>fun _=> .bad
 | n+1,0=>fun ts=>zp (zW (Z1) (zq) (zr) (zH n 1) (en0 2 ts))
 | n+1,_=>fun ts=>zp (jy (zH n 0) (en0 2 ts))
noncomputable abbrev JN (n:Nat):List T->R T:=zH n 0
noncomputable abbrev yF (n:Nat):List T->R T:=zH n 1
noncomputable def wo (c_need_kind:List T->R T) (c_has_worth:List T->R T):En->RS:=
  zL (WM (zc 1 c_need_kind (z9 (vE 0) (zh))))
  (Zb (zc 2 c_has_worth (z9 (vE 0) (z9 (vE 1) (zh)))))
noncomputable def jQ:List T->R T:=fun ts=>zp (wo (zU) (JN 20) (en0 2 ts))
noncomputable def Jc (c_is_worth:List T->R T):En->RS:=
  ifS (Qw (VM (zc 2 c_is_worth (z9 (vE 0) (z9 (vE 1) (zh)))))) (yA 1) (nxS)
noncomputable def zK:List T->R T:=fun ts=>zp (Jc (jQ) (en0 2 ts))
noncomputable def wp (c_words_of_pick:List T->R T) (c_count_shorter:List T->R T) (c_place_of_parts:List T->R T):En->RS:=
  zL (ifS (Zp eqC (zg ixT (vE 0) (cE (.int 0))) (cE (.str "whole"))) (Zb (zg uV (vE 1) (zg ixT (vE 0) (cE (.int 1))))) (nxS))
  (zL (ifS (Zp eqC (zg ixT (vE 0) (cE (.int 0))) (cE (.str "pick"))) (Zb (Gs vL (zc 1 c_words_of_pick (z9 (vE 0) (zh))) (vB 1))) (nxS))
  (zL (ifS (Zp eqC (zg ixT (vE 0) (cE (.int 0))) (cE (.str "row"))) (Zb (zc 2 c_place_of_parts (z9 (zg ixT (vE 0) (cE (.int 1))) (z9 (vE 1) (zh))))) (nxS))
  (zL (ZC 2 (ap1 JF (vB 1)))
  (Zb (zg zF (zc 2 c_count_shorter (z9 (vE 0) (z9 (vE 2) (zh)))) (zc 2 c_place_of_parts (z9 (zg Zq (Wr (z9 (zg ixT (vE 0) (cE (.int 1))) (zh))) (vE 2)) (z9 (vE 1) (zh)))))))))
noncomputable def Z2 (c_count_of:List T->R T) (c_place_of:List T->R T):En->RS:=
  zL (ZC 2 (cE (.int 0)))
  (zL (wP (Xp (vE 0) (vE 1)) (jk 3 4) (ZC 2 (zg zF (zg Zq (vE 2) (zc 1 c_count_of (z9 (vE 3) (zh)))) (zc 2 c_place_of (z9 (vE 3) (z9 (vE 4) (zh)))))))
  (Zb (vE 2)))
noncomputable def Z3:Nat->Nat->List T->R T
 | 0,_=>fun _=> .bad
 | n+1,0=>fun ts=>zp (wp (zr) (zC 20) (Z3 n 1) (en0 3 ts))
 | n+1,_=>fun ts=>zp (Z2 (zw 20) (Z3 n 0) (en0 5 ts))
noncomputable abbrev Z4 (n:Nat):List T->R T:=Z3 n 0
noncomputable abbrev WP (n:Nat):List T->R T:=Z3 n 1
noncomputable def wZ (c_need_worth:List T->R T) (c_worth_at:List T->R T) (c_place_of:List T->R T):En->RS:=
  zL (WM (zc 2 c_need_worth (z9 (vE 0) (z9 (vE 1) (zh)))))
  (zL (WM (zc 2 c_need_worth (z9 (vE 0) (z9 (vE 2) (zh)))))
  (zL (ZC 3 (zc 2 c_place_of (z9 (vE 0) (z9 (vE 1) (zh)))))
  (zL (ZC 4 (zc 2 c_place_of (z9 (vE 0) (z9 (vE 2) (zh)))))
  (zL (ifS (Zp gtC (zg zF (zg uV (vE 4) (vE 3)) (cE (.int 1))) (cE (.int 500))) (yA 3) (nxS))
  (Zb (jw (wS (vE 3) (zg zF (vE 4) (cE (.int 1)))) (zP 0) (j8) (zc 2 c_worth_at (z9 (vE 1) (z9 (vE 0) (zh)))) 1 [0]))))))
noncomputable def Jx:List T->R T:=fun ts=>zp (wZ (zK) (zN 20) (Z4 20) (en0 5 ts))
noncomputable def Zu (c_count_of:List T->R T) (c_worth_at:List T->R T):En->RS:=
  zL (ifS (Qw (chT leC ltC (cE (.int 0)) (vB 1) (zc 1 c_count_of (z9 (vE 0) (zh))))) (Zb (cE .non)) (nxS))
  (Zb (zc 2 c_worth_at (z9 (vE 0) (z9 (vE 1) (zh)))))
noncomputable def zD:List T->R T:=fun ts=>zp (Zu (zw 20) (zN 20) (en0 2 ts))
noncomputable def jM (c_need_worth:List T->R T) (c_place_of:List T->R T) (c_worth_if_any:List T->R T):En->RS:=
  zL (WM (zc 2 c_need_worth (z9 (vE 0) (z9 (vE 1) (zh)))))
  (Zb (zc 2 c_worth_if_any (z9 (vE 0) (z9 (zg uV (zc 2 c_place_of (z9 (vE 0) (z9 (vE 1) (zh)))) (cE (.int 1))) (zh)))))
noncomputable def Z7:List T->R T:=fun ts=>zp (jM (zK) (Z4 20) (zD) (en0 2 ts))
noncomputable def Jd (c_need_worth:List T->R T) (c_place_of:List T->R T) (c_worth_if_any:List T->R T):En->RS:=
  zL (WM (zc 2 c_need_worth (z9 (vE 0) (z9 (vE 1) (zh)))))
  (Zb (zc 2 c_worth_if_any (z9 (vE 0) (z9 (zg zF (zc 2 c_place_of (z9 (vE 0) (z9 (vE 1) (zh)))) (cE (.int 1))) (zh)))))
noncomputable def Zj:List T->R T:=fun ts=>zp (Jd (zK) (Z4 20) (zD) (en0 2 ts))
noncomputable def JO (c_need_worth:List T->R T) (c_place_of:List T->R T):En->RS:=
  zL (WM (zc 2 c_need_worth (z9 (vE 0) (z9 (vE 1) (zh)))))
  (Zb (zc 2 c_place_of (z9 (vE 0) (z9 (vE 1) (zh)))))
noncomputable def jT:List T->R T:=fun ts=>zp (JO (zK) (Z4 20) (en0 2 ts))
noncomputable def xL (c_number_of:List T->R T) (c_all_worths:List T->R T) (c__law_pick:List T->R T) (c__law_all:List T->R T) (c__law_small:List T->R T) (c_next_worth:List T->R T) (c_worth_ahead:List T->R T) (c_between:List T->R T) (c_middle:List T->R T):En->RS:=
  zL (ZC 1 (zc 3 c__law_small (z9 (vE 0) (z9 (cE (.int 10)) (z9 (cE (.int 60)) (zh))))))
  (zL (ZC 2 (zc 1 c__law_all (z9 (vE 1) (zh))))
  (zL (ifS (Zp neC (zc 1 c_all_worths (z9 (vE 1) (zh))) (vB 2)) (Zb (cE (.bl false))) (nxS))
  (zL (wP (Xp (vE 2) (slE (vE 2) (WL (cE (.int 1))) (noO))) (jk 3 4) (ifS (orT (Zp neC (zc 2 c_next_worth (z9 (vE 1) (z9 (vE 3) (zh)))) (vB 4)) (Zp neC (zc 2 c_worth_ahead (z9 (vE 1) (z9 (vE 4) (zh)))) (vB 3))) (Zb (cE (.bl false))) (nxS)))
  (zL (ifS (orT (Zp uX (zc 2 c_worth_ahead (z9 (vE 1) (z9 (zg ixT (vE 2) (cE (.int 0))) (zh)))) (cE .non)) (Zp uX (zc 2 c_next_worth (z9 (vE 1) (z9 (zg ixT (vE 2) (qZ (cE (.int 1)))) (zh)))) (cE .non))) (Zb (cE (.bl false))) (nxS))
  (zL (wP (J7 (cE (.int 3))) (zP 5) (zL (gz 3 4 (z9 (zc 3 c__law_pick (z9 (vE 0) (z9 (vE 5) (z9 (ap1 JF (vB 2)) (zh))))) (z9 (zc 3 c__law_pick (z9 (vE 0) (z9 (zg zF (cE (.int 3)) (vE 5)) (z9 (ap1 JF (vB 2)) (zh))))) (zh))))
  (ifS (Zp neC (zc 3 c_between (z9 (vE 1) (z9 (zg ixT (vE 2) (vE 3)) (z9 (zg ixT (vE 2) (vE 4)) (zh))))) (slE (vE 2) (WL (vE 3)) (WL (zg zF (vE 4) (cE (.int 1)))))) (Zb (cE (.bl false))) (nxS))))
  (zL (ZC 6 (Gs vL (vB 2) (zc 1 c_middle (z9 (vE 1) (zh)))))
  (zL (ifS (orT (Zp neC (zc 2 c_number_of (z9 (vE 1) (z9 (zc 1 c_middle (z9 (vE 1) (zh))) (zh)))) (vB 6)) (Zp v8 (zg uV (zg uV (ap1 JF (vB 2)) (cE (.int 1))) (zg Zq (cE (.int 2)) (vE 6))) (wk (z9 (cE (.int 0)) (z9 (cE (.int 1)) (zh)))))) (Zb (cE (.bl false))) (nxS))
  (Zb (yd eqC (zc 3 c_between (z9 (vE 1) (z9 (zg ixT (vE 2) (cE (.int 0))) (z9 (zg ixT (vE 2) (qZ (cE (.int 1)))) (zh))))) (vB 2))))))))))
noncomputable def U0:List T->R T:=fun ts=>zp (xL (jT) (jx) (zm) (zB 8) (ZE) (Zj) (Z7) (Jx) (JM) (en0 7 ts))
end G
namespace G
open PySem L2 PV
noncomputable abbrev scr (ns:List Int):T:= .fz (ns.map T.int)
theorem kU (ns:List Int) (k:Int) (h0:0<=k):∃ c,jS [scr ns, .int k]= .ok (.int c):=by
 have e1:jS [scr ns, .int k]=zp (if decide (k < ((ns.map T.int).length:Int))=true then (atT (ns.map T.int) k).s (fun t=> .rt t) else
   match (eqC (scr ns) (.lst [])).s (fun b=>if b=true then RS.rt (.int 0) else .nx [.vl (scr ns), .vl (.int k)]) with
   | .nx ρ' =>Zb (zg zF (zg Zq (zg ixT (vE 0) (zg uR (vE 1) (ap1 JF (vB 0)))) (cE (.int 31))) (vE 1)) ρ'
   | r=>r):=by
  show zp (match (if decide (k < ((ns.map T.int).length:Int))=true then (atT (ns.map T.int) k).s (fun t=>RS.rt t) else .nx [.vl (scr ns), .vl (.int k)]) with
   | .nx ρ' =>_
   | r=>r)=_
  cases decide (k < ((ns.map T.int).length:Int)) with
  | true=>
   rw [if_pos rfl,if_pos rfl]
   unfold atT
   cases atI (ns.map T.int) k <;> rfl
  | false=>rfl
 rw [e1,List.length_map]
 by_cases hk:k < (ns.length:Int)
 ·obtain ⟨v,hv⟩:∃ v,ns[k.toNat]? =some v:=⟨ns[k.toNat]'(by omega),List.getElem?_eq_getElem (by omega)⟩
  have ea:atI (ns.map T.int) k=some (.int v):=by
   have:k=((k.toNat:Nat):Int):=by omega
   rw [this]
   exact JX (by rw [List.getElem?_map,hv]; rfl)
  rw [decide_eq_true hk,if_pos rfl]
  exact ⟨v,by unfold atT; rw [ea]; rfl⟩
 ·rw [decide_eq_false hk,if_neg Bool.false_ne_true]
  cases ns with
  | nil=>exact ⟨0,rfl⟩
  | cons x xs=>
   have hm0:=Int.emod_nonneg k (show (((x :: xs).length:Nat):Int) ≠ 0 by simp only [List.length_cons]; omega)
   have hm1:=Int.emod_lt_of_pos k (show (0:Int) < (((x :: xs).length:Nat):Int) by simp only [List.length_cons]; omega)
   obtain ⟨v,hv⟩:∃ v,(x :: xs)[(k % (((x :: xs).length:Nat):Int)).toNat]? =some v:=⟨_,List.getElem?_eq_getElem (by omega)⟩
   have ea:atI ((x :: xs).map T.int) (k % (((x :: xs).length:Nat):Int))=some (.int v):=by
    have e:k % (((x :: xs).length:Nat):Int)=(((k % (((x :: xs).length:Nat):Int)).toNat:Nat):Int):=by omega
    rw [e]
    exact JX (by rw [List.getElem?_map,hv]; rfl)
   have cm:yc v 31:= .inr ⟨by decide,by decide⟩
   have hp:(0:Int) < (((x :: xs).map T.int).length:Int):=by simp only [List.length_map,List.length_cons]; omega
   refine ⟨v*31+k, ?_⟩
   show zp (((((if 0 < (((x :: xs).map T.int).length:Int) then R.ok (T.int (k % (((x :: xs).map T.int).length:Int))) else .bad).bind fun y=>ixT (scr (x :: xs)) y).bind fun a=>Zq a (.int 31)).bind fun a=>zF a (.int k)).s fun t=> .rt t)=_
   rw [if_pos hp]
   show zp ((((atT ((x :: xs).map T.int) (k % (((x :: xs).map T.int).length:Int))).bind fun a=>Zq a (.int 31)).bind fun a=>zF a (.int k)).s fun t=> .rt t)=_
   rw [List.length_map]
   unfold atT
   rw [ea]
   show zp ((((if yc v 31 then R.ok (T.int (v*31)) else .bad)).bind fun a=>zF a (.int k)).s fun t=> .rt t)=_
   rw [if_pos cm]
   rfl
theorem ZF (ns:List Int) (k m:Int) (h0:0<=k) (hm:0 < m):∃ p,zm [scr ns, .int k, .int m]= .ok (.int p)/\0<=p/\p < m:=by
 obtain ⟨c,hc⟩:=kU ns k h0
 have cm1:yc 6151 (k+1):= .inl ⟨by decide,by decide⟩
 have cm2:yc (c+6151*(k+1)) 40692:= .inr ⟨by decide,by decide⟩
 generalize hd:(c+6151*(k+1))*40692 % 2147483399=d
 have hd0:0<=d:=by rw [← hd]; exact Int.emod_nonneg _ (by decide)
 have hd1:d < 2147483399:=by rw [← hd]; exact Int.emod_lt_of_pos _ (by decide)
 have cm3:yc d d:= .inl ⟨by omega,by omega⟩
 refine ⟨(d*d+d / 31) % 2147483629 % m, ?_,Int.emod_nonneg _ (by omega),Int.emod_lt_of_pos _ hm⟩
 have e1:zm [scr ns, .int k, .int m]=zp (match ((((((jS [scr ns, .int k]).bind fun x=>(Zq (.int 6151) (.int (k+1))).bind fun y=>zF x y).bind fun x=>Zq x (.int 40692)).bind fun x=>uR x (.int 2147483399))).s fun t=>RS.nx [.vl (scr ns), .vl (.int k), .vl (.int m), .vl t]) with
   | .nx ρ' =>Zb (zg uR (zg uR (zg zF (zg Zq (vE 3) (vE 3)) (zg WI (vE 3) (cE (.int 31)))) (cE (.int 2147483629))) (vE 2)) ρ'
   | r=>r):=rfl
 rw [e1,hc]
 show zp (match (((((if yc 6151 (k+1) then R.ok (T.int (6151*(k+1))) else .bad).bind fun y=>zF (.int c) y).bind fun x=>Zq x (.int 40692)).bind fun x=>uR x (.int 2147483399)).s fun t=>RS.nx [.vl (scr ns), .vl (.int k), .vl (.int m), .vl t]) with
   | .nx ρ' =>_
   | r=>r)=_
 rw [if_pos cm1]
 show zp (match ((((if yc (c+6151*(k+1)) 40692 then R.ok (T.int ((c+6151*(k+1))*40692)) else .bad)).bind fun x=>uR x (.int 2147483399)).s fun t=>RS.nx [.vl (scr ns), .vl (.int k), .vl (.int m), .vl t]) with
   | .nx ρ' =>_
   | r=>r)=_
 rw [if_pos cm2]
 show zp (Zb (zg uR (zg uR (zg zF (zg Zq (vE 3) (vE 3)) (zg WI (vE 3) (cE (.int 31)))) (cE (.int 2147483629))) (vE 2)) [.vl (scr ns), .vl (.int k), .vl (.int m), .vl (.int ((c+6151*(k+1))*40692 % 2147483399))])=_
 rw [hd]
 show zp (((((if yc d d then R.ok (T.int (d*d)) else .bad).bind fun x=>zF x (.int (d / 31))).bind fun x=>uR x (.int 2147483629)).bind fun x=>uR x (.int m)).s fun t=>RS.rt t)=_
 rw [if_pos cm3]
 show zp ((if 0 < m then R.ok (T.int ((d*d+d / 31) % 2147483629 % m)) else .bad).s fun t=>RS.rt t)=_
 rw [if_pos hm]
 rfl
end G
namespace G
open PySem L2 PV
theorem vU {ft:En->R Bool} {fe:En->R T}:∀ (ts:List T) (ρ:En) (x:Sl),Z6 (zP 0) ft fe ts (ρ.set 0 x)=Z6 (zP 0) ft fe ts ρ
 | [],_,_=>rfl
 | t :: ts,ρ,x=>by
  unfold Z6 zP
  rw [List.set_set]
theorem Wv {ft:En->R Bool} {fe:En->R T} {p:T->Bool} {h:T->T}:∀ (ts:List T) (ρ:En),(∀ t∈ts,ft (ρ.set 0 (.vl t))= .ok (p t)/\(p t=true->fe (ρ.set 0 (.vl t))= .ok (h t)))->Z6 (zP 0) ft fe ts ρ= .ok ((ts.filter p).map h)
 | [],_,_=>rfl
 | t :: ts,ρ,H=>by
  obtain ⟨h1,h2⟩:=H t List.mem_cons_self
  have ih:=Wv ts ρ fun u hu=>H u (List.mem_cons_of_mem _ hu)
  have e:Z6 (zP 0) ft fe (t :: ts) ρ=(ft (ρ.set 0 (.vl t))).bind fun k=>if k=true then (fe (ρ.set 0 (.vl t))).bind fun v=>(Z6 (zP 0) ft fe ts (ρ.set 0 (.vl t))).bind fun vs=> .ok (v :: vs) else Z6 (zP 0) ft fe ts (ρ.set 0 (.vl t)):=rfl
  rw [e,h1,vU,ih]
  show (if p t=true then _ else _)=_
  cases hp:p t with
  | true=>rw [if_pos rfl,h2 hp,List.filter_cons_of_pos hp]; rfl
  | false=>rw [if_neg Bool.false_ne_true,List.filter_cons_of_neg (by rw [hp]; exact Bool.false_ne_true)]
theorem vV {fe:En->R T} {h:T->T} (ts:List T) (ρ:En) (H:∀ t∈ts,fe (ρ.set 0 (.vl t))= .ok (h t)):Z6 (zP 0) j8 fe ts ρ= .ok (ts.map h):=by
 have:=Wv (ft:=j8) (fe:=fe) (p:=fun _=>true) (h:=h) ts ρ fun t ht=>⟨rfl,fun _=>H t ht⟩
 rw [this,List.filter_eq_self.mpr (fun _ _=>rfl)]
theorem ZH {fe:En->R T} {h:T->T} {k:Nat} {js:List Nat} {ρ:En} (ts:List T) (hl:ts.length<=bnd) (H:∀ t∈ts,fe ((qh k js ρ).set 0 (.vl t))= .ok (h t)):Zc (zP 0) j8 fe k js ρ ts= .ok (ts.map h):=by
 unfold Zc
 rw [if_pos hl,vV ts _ H]
 rfl
theorem u3 (p:T->Bool):∀ ts:List T,Yi (ts.map fun t=>T.bl (p t))=some (ts.all p)
 | []=>rfl
 | t :: ts=>by
  show (match Yi (ts.map fun t=>T.bl (p t)) with | some j=>some (p t && j) | none=>none)=_
  rw [u3 p ts]; rfl
noncomputable def isW:T->Bool
 | .int _=>true
 | _=>false
theorem qq (t:T):Z1 [t]= .ok (.bl (isW t)):=by cases t <;> rfl
noncomputable def Q6 (a b:Nat):T->Bool
 | .tup xs=>decide (a<=xs.length) && decide (xs.length<=b)
 | _=>false
theorem jU (t:T) (a b:Nat):zq [t, .int a, .int b]= .ok (.bl (Q6 a b t)):=by
 cases t with
 | tup xs=>
  show zp ((if decide ((a:Int)<=(xs.length:Int))=true then R.ok (T.bl (decide ((xs.length:Int)<=(b:Int)))) else .ok (.bl false)).s fun t=> .rt t)=_
  have e1:decide ((a:Int)<=(xs.length:Int))=decide (a<=xs.length):=by simp
  have e2:decide ((xs.length:Int)<=(b:Int))=decide (xs.length<=b):=by simp
  rw [e1,e2]
  show _=R.ok (T.bl (decide (a<=xs.length) && decide (xs.length<=b)))
  cases decide (a<=xs.length) <;> rfl
 | _=>rfl
noncomputable def Ww (lo hi:Int):T->T->Bool
 | .int i, .int j=>decide (lo<=i) && decide (i<=j) && decide (j<=hi)
 | _,_=>false
theorem vW (t u:T) (lo hi:Int):wV [t,u, .int lo, .int hi]= .ok (.bl (Ww lo hi t u)):=by
 cases t with
 | int i=>
  cases u with
  | int j=>
   show zp ((if decide (lo<=i)=true then (if decide (i<=j)=true then R.ok (T.bl (decide (j<=hi))) else .ok (.bl false)) else .ok (.bl false)).s fun t=> .rt t)=_
   show _=R.ok (T.bl (decide (lo<=i) && decide (i<=j) && decide (j<=hi)))
   cases decide (lo<=i) <;> cases decide (i<=j) <;> rfl
  | _=>rfl
 | _=>cases u <;> rfl
noncomputable def jf (c:Nat):Bool:=decide (97<=c) && decide (c<=122)
noncomputable def jI:T->Bool
 | .str x=>decide (1<=x.length) && decide (x.length<=3) && x.cps.toList.all jf
 | _=>false
theorem Xt (a b:Nat):decide ([a] < [b])=decide (a < b):=by
 by_cases h:a < b
 ·rw [decide_eq_true h]; exact decide_eq_true (List.Lex.rel h)
 ·rw [decide_eq_false h]
  refine decide_eq_false fun z=> ?_
  cases z with
  | rel h' =>exact h h'
  | cons h' =>cases h'
theorem kW (c:Nat) (ρ:En):chE leC leC (cE (.str "a")) (vB 0) (cE (.str "z")) ((Sl.vl (.str ⟨#[c]⟩)) :: ρ)= .ok (.bl (jf c)):=by
 have e1:leC (.str "a") (.str ⟨#[c]⟩)= .ok (decide (97<=c)):=by
  show R.ok (!decide ([c] < [97]))=_
  rw [Xt]
  by_cases h:c < 97
  ·rw [decide_eq_true h,decide_eq_false (by omega)]; rfl
  ·rw [decide_eq_false h,decide_eq_true (by omega)]; rfl
 have e2:leC (.str ⟨#[c]⟩) (.str "z")= .ok (decide (c<=122)):=by
  show R.ok (!decide ([122] < [c]))=_
  rw [Xt]
  by_cases h:122 < c
  ·rw [decide_eq_true h,decide_eq_false (by omega)]; rfl
  ·rw [decide_eq_false h,decide_eq_true (by omega)]; rfl
 show (leC (.str "a") (.str ⟨#[c]⟩)).bind (fun k=>if k=true then (leC (.str ⟨#[c]⟩) (.str "z")).bind fun k' =>R.ok (T.bl k') else R.ok (T.bl false))=_
 rw [e1,e2]
 unfold jf
 show (if decide (97<=c)=true then R.ok (T.bl (decide (c<=122))) else .ok (.bl false))=_
 cases decide (97<=c) <;> rfl
noncomputable def gR:T->Prop
 | .str x=>x.length<=bnd
 | _=>True
theorem kX (t:T) (ht:gR t):Ju [t]= .ok (.bl (jI t)):=by
 cases t with
 | str x=>
  have hx:x.length<=bnd:=ht
  have e0:JF (.str x)= .ok (.int x.length):=if_pos hx
  have ec:Zc (zP 0) j8 (chE leC leC (cE (.str "a")) (vB 0) (cE (.str "z"))) 1 [] [.vl (.str x)] (wE x)= .ok (x.cps.toList.map fun c=>T.bl (jf c)):=by
   have hs:(wE x).length<=bnd:=by unfold wE; rw [List.length_map,Array.length_toList]; exact hx
   have:=ZH (fe:=chE leC leC (cE (.str "a")) (vB 0) (cE (.str "z"))) (h:=fun t=>match t with | .str y=>T.bl (jf (y.cps.toList.headD 0)) | t=>t) (k:=1) (js:=[]) (ρ:=[.vl (.str x)]) (wE x) hs fun t ht=>by
    unfold wE at ht
    obtain ⟨c,_,rfl⟩:=List.mem_map.mp ht
    exact kW c []
   rw [this]
   unfold wE
   rw [List.map_map]
   rfl
  have ea:Yi (x.cps.toList.map fun c=>T.bl (jf c))=some (x.cps.toList.all jf):=by
   have:=u3 (fun t=>match t with | .str y=>jf (y.cps.toList.headD 0) | _=>true) (wE x)
   unfold wE at this
   rw [List.map_map,List.all_map] at this
   exact this
  have e1:Ju [.str x]=zp (match ((((JF (.str x)).bind fun y=>(leC (.int 1) y).bind fun k=>if k=true then leC y (.int 3) else .ok false).bind fun b=> .ok (!b)).s fun k=>if k=true then RS.rt (.bl false) else .nx [.vl (.str x)]) with
    | .nx ρ' =>Zb (ap1 Xf (jw (WN (vE 0)) (zP 0) (j8) (chE leC leC (cE (.str "a")) (vB 0) (cE (.str "z"))) 1 [])) ρ'
    | r=>r):=rfl
  rw [e1,e0]
  have c1:decide ((1:Int)<=(x.length:Int))=decide (1<=x.length):=by
   by_cases h:1<=x.length
   ·rw [decide_eq_true h]; exact decide_eq_true (by omega)
   ·rw [decide_eq_false h]; exact decide_eq_false (by omega)
  have c2:decide ((x.length:Int)<=(3:Int))=decide (x.length<=3):=by
   by_cases h:x.length<=3
   ·rw [decide_eq_true h]; exact decide_eq_true (by omega)
   ·rw [decide_eq_false h]; exact decide_eq_false (by omega)
  show zp (match ((((if decide ((1:Int)<=(x.length:Int))=true then R.ok (decide ((x.length:Int)<=(3:Int))) else .ok false)).bind fun b=> .ok (!b)).s fun k=>if k=true then RS.rt (.bl false) else .nx [.vl (.str x)]) with
    | .nx ρ' =>_
    | r=>r)=_
  rw [c1,c2]
  show _=R.ok (T.bl (decide (1<=x.length) && decide (x.length<=3) && x.cps.toList.all jf))
  cases decide (1<=x.length) with
  | false=>rfl
  | true=>
   cases decide (x.length<=3) with
   | false=>rfl
   | true=>
    show zp ((((Zc (zP 0) j8 (chE leC leC (cE (.str "a")) (vB 0) (cE (.str "z"))) 1 [] [.vl (.str x)] (wE x)).bind fun vs=> .ok (.lst vs)).bind Xf).s fun t=> .rt t)=_
    rw [ec]
    show zp ((match Yi (x.cps.toList.map fun c=>T.bl (jf c)) with | some k=>R.ok (T.bl k) | none=> .bad).s fun t=> .rt t)=_
    rw [ea]
    rfl
 | _=>rfl
end G
namespace G
open PySem L2 PV
theorem bOk {α β:Type} (a:α) (f:α->R β):(R.ok a).bind f=f a:=rfl
theorem jA {α:Type} (a:α) (f:α->RS):(R.ok a).s f=f a:=rfl
theorem wy (r:R T):zp (r.s fun t=> .rt t)=r:=by cases r <;> rfl
theorem jl (f:En->R T) (ρ:En):Zb f ρ=(f (frz ρ)).s fun t=> .rt t:=rfl
theorem ZV {g:List T->R T} {f:En->R T} {ρ:En}:zc 1 g (z9 f zh) ρ=(f ρ).bind fun x=>g [x]:=by
 unfold zc z9 zh
 cases f ρ <;> rfl
theorem Zd {g:List T->R T} {f f' :En->R T} {ρ:En}:zc 2 g (z9 f (z9 f' zh)) ρ=(f ρ).bind fun x=>(f' ρ).bind fun y=>g [x,y]:=by
 unfold zc z9 zh
 cases f ρ with
 | ok a=>cases f' ρ <;> rfl
 | ex c=>rfl
 | bad=>rfl
theorem jz {g:List T->R T} {f f' f'' :En->R T} {ρ:En}:zc 3 g (z9 f (z9 f' (z9 f'' zh))) ρ=(f ρ).bind fun x=>(f' ρ).bind fun y=>(f'' ρ).bind fun z=>g [x,y,z]:=by
 unfold zc z9 zh
 cases f ρ with
 | ok a=>
  cases f' ρ with
  | ok b=>cases f'' ρ <;> rfl
  | ex c=>rfl
  | bad=>rfl
 | ex c=>rfl
 | bad=>rfl
theorem z0g {g:List T->R T} {f f' f'' f3:En->R T} {ρ:En}:zc 4 g (z9 f (z9 f' (z9 f'' (z9 f3 zh)))) ρ=(f ρ).bind fun x=>(f' ρ).bind fun y=>(f'' ρ).bind fun z=>(f3 ρ).bind fun w=>g [x,y,z,w]:=by
 unfold zc z9 zh
 cases f ρ with
 | ok a=>
  cases f' ρ with
  | ok b=>
   cases f'' ρ with
   | ok c=>cases f3 ρ <;> rfl
   | ex c=>rfl
   | bad=>rfl
  | ex c=>rfl
  | bad=>rfl
 | ex c=>rfl
 | bad=>rfl
noncomputable def Gw (r k:R T):R T:=r.bind fun x=>match x with
 | .bl true=>k
 | .bl false=> .ok (.bl false)
 | _=> .bad
theorem Ug (f g:En->R T) (ρ:En):uY f g ρ=Gw (f ρ) (g ρ):=rfl
theorem jD (a:Bool) (k:R T):Gw (.ok (.bl a)) k=if a=true then k else .ok (.bl false):=by cases a <;> rfl
theorem v0 {t:T} {ρ:En}:vE 0 (.vl t :: ρ)= .ok t:=rfl
theorem v1 {t:T} {a:Sl} {ρ:En}:vE 1 (a :: .vl t :: ρ)= .ok t:=rfl
theorem w0 {t:T} {ρ:En}:vB 0 (.vl t :: ρ)= .ok t:=rfl
theorem w1 {t:T} {a:Sl} {ρ:En}:vB 1 (a :: .vl t :: ρ)= .ok t:=rfl
theorem jg {t:T} {ρ:En}:cE t ρ= .ok t:=rfl
theorem zt {g:T->T->R T} {f f' :En->R T} {ρ:En}:zg g f f' ρ=(f ρ).bind fun x=>(f' ρ).bind fun y=>g x y:=rfl
theorem w4 {t:T} {ρ:En}:frz (.vl t :: ρ)= .vl t :: frz ρ:=rfl
theorem U1 {ρ:En}:frz (.un :: ρ)= .un :: frz ρ:=rfl
theorem wv:frz []=[]:=rfl
theorem kY {g g' :T->T->R Bool} {fa fb fc:En->R T} {ρ:En}:chE g g' fa fb fc ρ=(fa ρ).bind fun x=>(fb ρ).bind fun y=>(g x y).bind fun k=>if k=true then (fc ρ).bind fun z=>(g' y z).bind fun k' => .ok (.bl k') else .ok (.bl false):=rfl
theorem WQ {g:T->R T} {f:En->R T} {ρ:En}:ap1 g f ρ=(f ρ).bind g:=rfl
theorem vX {i j:Int}:leC (.int i) (.int j)= .ok (decide (i<=j)):=rfl
theorem uk {g:T->T->R Bool} {f f' :En->R T} {ρ:En}:yd g f f' ρ=(f ρ).bind fun x=>(f' ρ).bind fun y=>(g x y).bind fun b=> .ok (.bl b):=rfl
theorem Q7 {xs:List T}:JF (.tup xs)= .ok (.int xs.length):=rfl
theorem gS {xs:List T}:JF (.lst xs)= .ok (.int xs.length):=rfl
mutual
noncomputable def sOk:T->Prop
 | .str x=>x.length<=bnd
 | .tup xs=>Yj xs
 | .lst xs=>Yj xs
 | .fz xs=>Yj xs
 | _=>True
noncomputable def Yj:List T->Prop
 | []=>True
 | t :: ts=>sOk t/\Yj ts
end
theorem W0:∀ {ts:List T} {t:T},Yj ts->t∈ts->sOk t
 | u :: ts,t,h,hm=>by
  have h' :sOk u/\Yj ts:=by simpa only [Yj] using h
  rcases List.mem_cons.mp hm with rfl | hm
  ·exact h'.1
  ·exact W0 h'.2 hm
theorem sOk.str {t:T} (h:sOk t):gR t:=by
 cases t with
 | str x=>
  have h' :x.length<=bnd:=by simpa only [sOk] using h
  exact h'
 | _=>trivial
theorem UK {xs:List T} (h:sOk (.tup xs)):Yj xs:=by simpa only [sOk] using h
noncomputable def zO:T->Bool
 | .tup [w, .int i]=>jI w && decide (1<=i) && decide (i<=20)
 | _=>false
theorem vY (t:T) (ht:sOk t):j2 [t]= .ok (.bl (zO t)):=by
 have e:j2 [t]=zp (JK Z1 zq Ju [.vl t]):=rfl
 rw [e,JK]
 simp only [jl,wy,w4,wv,Ug,jz,ZV,v0,jg,bOk,zt,kY]
 rw [show zq [t, .int 2, .int 2]= .ok (.bl (Q6 2 2 t)) from jU t 2 2,jD]
 cases t with
 | tup xs=>
  match xs,ht with
  | [],_=>rfl
  | [_],_=>rfl
  | _ :: _ :: _ :: _,_=>simp [Q6,zO]
  | [w,n],ht=>
   have hw:sOk w:=W0 (UK ht) (by simp)
   show (if true=true then Gw (Ju [w]) (Gw (Z1 [n]) ((leC (.int 1) n).bind fun k=>if k=true then (leC n (.int 20)).bind fun k' =>R.ok (T.bl k') else .ok (.bl false))) else _)=_
   rw [if_pos rfl,kX w hw.str,qq,jD,jD]
   cases n with
   | int i=>
    show (if jI w=true then (if true=true then (if decide (1<=i)=true then R.ok (T.bl (decide (i<=20))) else .ok (.bl false)) else _) else _)=R.ok (T.bl (jI w && decide (1<=i) && decide (i<=20)))
    cases jI w <;> cases decide (1<=i) <;> rfl
   | _=>
    show (if jI w=true then (if false=true then _ else R.ok (T.bl false)) else R.ok (T.bl false))=R.ok (T.bl false)
    cases jI w <;> rfl
 | _=>rfl
end G
namespace G
open PySem L2 PV
theorem Zy (f g:En->RS) (ρ:En):zL f g ρ=match f ρ with | .nx ρ' =>g ρ' | r=>r:=rfl
theorem Jy (g:En->R Bool) (f1 f2:En->RS) (ρ:En):ifS g f1 f2 ρ=(g ρ).s fun k=>if k=true then f1 ρ else f2 ρ:=rfl
theorem Q8 (f g:En->R Bool) (ρ:En):orT f g ρ=(f ρ).bind fun x=>if x=true then .ok true else g ρ:=rfl
theorem Uh (f:En->R Bool) (ρ:En):Qw f ρ=(f ρ).bind fun x=> .ok (!x):=rfl
theorem qr (f:En->R T) (ρ:En):VM f ρ=(f ρ).bind tru:=rfl
theorem yG (k:Bool):tru (.bl k)= .ok k:=rfl
theorem Wx (i:Nat) (f:En->R T) (ρ:En):ZC i f ρ=(f ρ).s fun t=> .nx (ρ.set i (.vl t)):=rfl
theorem Zg {g:T->T->R Bool} {f f' :En->R T} {ρ:En}:Zp g f f' ρ=(f ρ).bind fun x=>(f' ρ).bind fun y=>g x y:=rfl
theorem jh {fi:En->R (List T)} {g:T->En->R En} {ft:En->R Bool} {fe:En->R T} {k:Nat} {js:List Nat} {ρ:En}:jw fi g ft fe k js ρ=(fi ρ).bind fun ts=>(Zc g ft fe k js ρ ts).bind fun vs=> .ok (.lst vs):=rfl
theorem Wy {f:En->R T} {ρ:En}:WN f ρ=(f ρ).bind uh:=rfl
noncomputable def ZS:T->Str
 | .tup (.str w :: _)=>w
 | _=>⟨#[]⟩
noncomputable def qt:T->Bool
 | .tup cs=>decide (1<=cs.length) && decide (cs.length<=4) && cs.all zO && decide ((dd [] (cs.map ZS)).length=cs.length)
 | _=>false
theorem yH {c:T} (h:zO c=true):∃ w n,c= .tup [.str w,n]:=by
 unfold zO at h
 split at h
 ·rename_i w i
  cases w with
  | str x=>exact ⟨x,_,rfl⟩
  | _=>cases h
 ·cases h
theorem Ui:∀ {cs:List T},cs.all zO=true->Qy (cs.map fun c=>T.str (ZS c))=some (cs.map ZS)
 | [],_=>rfl
 | c :: cs,h=>by
  rw [List.all_cons,Bool.and_eq_true] at h
  have ih:=Ui h.2
  show (match Qy (cs.map fun c=>T.str (ZS c)) with | some ys=>some (ZS c :: ys) | none=>none)=_
  rw [ih]; rfl
theorem Q9 (t:T) (ht:sOk t):jd [t]= .ok (.bl (qt t)):=by
 have e:jd [t]=zp (jL zq j2 [.vl t, .un]):=rfl
 rw [e,jL]
 simp only [Zy,Jy,Q8,Uh,qr,jz,v0,jg,bOk]
 rw [show zq [t, .int 1, .int 4]= .ok (.bl (Q6 1 4 t)) from jU t 1 4]
 simp only [bOk,yG]
 cases t with
 | tup cs=>
  have hl:Q6 1 4 (.tup cs)=(decide (1<=cs.length) && decide (cs.length<=4)):=rfl
  rw [hl]
  show _=R.ok (T.bl (decide (1<=cs.length) && decide (cs.length<=4) && cs.all zO && decide ((dd [] (cs.map ZS)).length=cs.length)))
  cases h14:(decide (1<=cs.length) && decide (cs.length<=4)) with
  | false=>rfl
  | true=>
   rw [Bool.and_eq_true,decide_eq_true_eq,decide_eq_true_eq] at h14
   have hb:cs.length<=bnd:=Nat.le_trans h14.2 (by decide)
   have ec:Zc (zP 0) j8 (zc 1 j2 (z9 (vE 0) zh)) 1 [] [.vl (.tup cs), .un] cs= .ok (cs.map fun c=>T.bl (zO c)):=
    ZH (h:=fun c=>T.bl (zO c)) cs hb fun c hc=>by
     show zc 1 j2 (z9 (vE 0) zh) [.vl c]=_
     rw [ZV,v0,bOk]
     exact vY c (W0 (UK ht) hc)
   simp only [Bool.not_true,Bool.false_eq_true,if_false,WQ,jh,Wy,v0,bOk,uh,ec]
   have ea:Xf (.lst (cs.map fun c=>T.bl (zO c)))= .ok (.bl (cs.all zO)):=by
    show (match Yi (cs.map fun c=>T.bl (zO c)) with | some k=>R.ok (T.bl k) | none=> .bad)=_
    rw [u3]
   rw [ea]
   simp only [bOk,yG,jA]
   cases hall:cs.all zO with
   | false=>rfl
   | true=>
    have ew:Zc (zP 0) j8 (zg ixT (vE 0) (cE (.int 0))) 1 [] [.vl (.tup cs), .un] cs= .ok (cs.map fun c=>T.str (ZS c)):=
     ZH (h:=fun c=>T.str (ZS c)) cs hb fun c hc=>by
      obtain ⟨w,n,rfl⟩:=yH (List.all_eq_true.mp hall c hc)
      rfl
    simp only [Bool.not_true,Bool.false_eq_true,if_false,nxS,Wx,jh,Wy,v0,bOk,uh,ew,jA,jl]
    show zp (((xy (.lst (cs.map fun c=>T.str (ZS c)))).bind fun x=>(JF (.lst (cs.map fun c=>T.str (ZS c)))).bind fun y=>(eqC x y).bind fun b=>R.ok (T.bl b)).s fun t=> .rt t)=_
    have el:xy (.lst (cs.map fun c=>T.str (ZS c)))= .ok (.int (dd [] (cs.map ZS)).length):=by
     show (match Qy (cs.map fun c=>T.str (ZS c)) with | some ys=>if (cs.map fun c=>T.str (ZS c)).length+1 < 4096 then R.ok (T.int (dd [] ys).length) else .bad | none=> .bad)=_
     rw [Ui hall]
     exact if_pos (by rw [List.length_map]; omega)
    rw [el,gS,List.length_map,wy]
    show R.ok (T.bl (((dd [] (cs.map ZS)).length:Int) == (cs.length:Int)))=_
    congr 2
    by_cases hq:(dd [] (cs.map ZS)).length=cs.length
    ·rw [decide_eq_true hq,hq]; simp
    ·rw [decide_eq_false hq]
     simp only [Bool.true_and,beq_eq_false_iff_ne]
     omega
 | _=>rfl
end G
namespace G
open PySem L2 PV
noncomputable def isS (w:Str):T->Bool
 | .str s=>s == w
 | _=>false
theorem eqS (h:T) (w:Str):eqC h (.str w)= .ok (isS w h):=by cases h <;> rfl
theorem eqI (i j:Int):eqC (.int i) (.int j)= .ok (i == j):=rfl
theorem at0 {h:T} {r:List T}:ixT (.tup (h :: r)) (.int 0)= .ok h:=by
 show atT (h :: r) 0=_
 unfold atT
 rw [show atI (h :: r) 0=some h from JX (j:=0) rfl]
theorem at1 {h a:T} {r:List T}:ixT (.tup (h :: a :: r)) (.int 1)= .ok a:=by
 show atT (h :: a :: r) 1=_
 unfold atT
 rw [show atI (h :: a :: r) 1=some a from JX (j:=1) rfl]
theorem at2 {h a b:T} {r:List T}:ixT (.tup (h :: a :: b :: r)) (.int 2)= .ok b:=by
 show atT (h :: a :: b :: r) 2=_
 unfold atT
 rw [show atI (h :: a :: b :: r) 2=some b from JX (j:=2) rfl]
theorem at3 {h a b c:T} {r:List T}:ixT (.tup (h :: a :: b :: c :: r)) (.int 3)= .ok c:=by
 show atT (h :: a :: b :: c :: r) 3=_
 unfold atT
 rw [show atI (h :: a :: b :: c :: r) 3=some c from JX (j:=3) rfl]
noncomputable def ul (k:T->Bool):T->Bool
 | .tup ks=>decide (1<=ks.length) && decide (ks.length<=3) && ks.all k
 | _=>false
noncomputable def yI:List T->Bool
 | [a,b]=>Ww (-20) 20 a b
 | _=>false
noncomputable def vZ:List T->Bool
 | [c]=>qt c
 | _=>false
noncomputable def gT (k:T->Bool):List T->Bool
 | [c]=>ul k c
 | _=>false
noncomputable def V0 (k:T->Bool):List T->Bool
 | [c,a,b]=>Ww 0 3 a b && k c
 | _=>false
noncomputable def Qa (k:T->Bool):T->Bool
 | .tup (h :: r)=>if isS "whole" h=true then yI r else if isS "pick" h=true then vZ r else if isS "row" h=true then gT k r else if isS "many" h=true then V0 k r else false
 | _=>false
noncomputable def isK:Nat->T->Bool
 | 0,_=>false
 | d+1,t=>Qa (isK d) t
theorem V1 {α:Type} (xs:List α) (n:Nat):((xs.length:Int) == (n:Int))=decide (xs.length=n):=by
 by_cases h:xs.length=n
 ·rw [decide_eq_true h,h]; simp
 ·rw [decide_eq_false h,beq_eq_false_iff_ne]; omega
theorem gU {f:En->R T} {ρ:En}:qZ f ρ=(f ρ).bind fun x=>match x with | .int i=> .ok (.int (-i)) | _=> .bad:=rfl
theorem Jz {i j:Int}:uV (.int i) (.int j)= .ok (.int (i - j)):=rfl
set_option maxHeartbeats 1000000 in
theorem kZ {n:Nat} {d:Nat} {k:T->Bool} (H0:∀ t,sOk t->zk n 0 [t, .int d]= .ok (.bl (k t))) (H1:∀ t,sOk t->zk n 1 [t, .int d]= .ok (.bl (ul k t))) (t:T) (ht:sOk t):
  zk (n+1) 0 [t, .int ((d+1:Nat):Int)]= .ok (.bl (Qa k t)):=by
 have e:zk (n+1) 0 [t, .int ((d+1:Nat):Int)]=zp (ZY wV (zk n 0) jd (zk n 1) [.vl t, .vl (.int ((d+1:Nat):Int))]):=rfl
 have hL:(((d+1:Nat):Int) == 0)=false:=by rw [beq_eq_false_iff_ne]; omega
 have hL1:((d+1:Nat):Int) - 1=(d:Int):=by omega
 rw [e,ZY]
 simp only [Zy,Jy,Q8,Uh,qr,Zg,w0,w1,jg,bOk,eqI,hL,Bool.false_eq_true,if_false,WQ]
 cases t with
 | tup xs=>
  cases xs with
  | nil=>rfl
  | cons h r=>
   have hs:=UK ht
   have hm:∀ u∈r,sOk u:=fun u hu=>W0 hs (List.mem_cons_of_mem _ hu)
   have z0:(((h :: r).length:Int) == 0)=false:=by rw [beq_eq_false_iff_ne]; simp only [List.length_cons]; omega
   have ti:ko "tuple" (.tup (h :: r))= .ok (.bl true):=rfl
   simp only [ti,bOk,yG,Bool.not_true,Bool.false_eq_true,if_false,Q7,eqI,z0,jA,nxS,zt,v0,v1,jg,at0,eqS,jl,w4,wv,Ug,uk,WQ,w0,z0g,ZV,Zd,gU,Jz,hL1]
   show _=R.ok (T.bl (if isS "whole" h=true then yI r else if isS "pick" h=true then vZ r else if isS "row" h=true then gT k r else if isS "many" h=true then V0 k r else false))
   have l3:(((h :: r).length:Int) == 3)=decide ((h :: r).length=3):=V1 (h :: r) 3
   have l2:(((h :: r).length:Int) == 2)=decide ((h :: r).length=2):=V1 (h :: r) 2
   have l4:(((h :: r).length:Int) == 4)=decide ((h :: r).length=4):=V1 (h :: r) 4
   simp only [l2,l3,l4,jD]
   cases isS "whole" h with
   | true=>
    simp only [if_true]
    match r,hm with
    | [],_=>rfl
    | [_],_=>rfl
    | _ :: _ :: _ :: _,_=>simp [yI,jA,zp]
    | [a,b],_=>
     simp only [at1,at2,bOk,vW]
     rfl
   | false=>
    simp only [Bool.false_eq_true,if_false,v0,v1,w0,bOk,at0,jA,w4,wv,Q7,eqI,l2,l4,jD,Jz,hL1]
    cases isS "pick" h with
    | true=>
     simp only [if_true]
     match r,hm with
     | [],_=>rfl
     | _ :: _ :: _,_=>simp [vZ,jA,zp]
     | [c],hm=>
      simp only [at1,bOk,Q9 c (hm c (by simp))]
      rfl
    | false=>
     simp only [Bool.false_eq_true,if_false,v0,v1,w0,bOk,at0,jA,w4,wv,Q7,eqI,l2,l4,jD,Jz,hL1]
     cases isS "row" h with
     | true=>
      simp only [if_true]
      match r,hm with
      | [],_=>rfl
      | _ :: _ :: _,_=>simp [gT,jA,zp]
      | [c],hm=>
       simp only [at1,bOk,H1 c (hm c (by simp))]
       rfl
     | false=>
      simp only [Bool.false_eq_true,if_false,v0,v1,w0,bOk,at0,jA,w4,wv,Q7,eqI,l2,l4,jD,Jz,hL1]
      cases isS "many" h with
      | true=>
       simp only [if_true]
       match r,hm with
       | [],_=>rfl
       | [_],_=>rfl
       | [_,_],_=>rfl
       | _ :: _ :: _ :: _ :: _,_=>simp [V0,jA,zp]
       | [c,a,b],hm=>
        simp only [at1,at2,at3,bOk,vW,H0 c (hm c (by simp)),jD]
        show zp (match (if Ww 0 3 a b=true then R.ok (T.bl (k c)) else .ok (.bl false)).s (fun t=>RS.rt t) with | .nx _=>RS.rt (T.bl false) | r=>r)=R.ok (T.bl (Ww 0 3 a b && k c))
        cases Ww 0 3 a b <;> rfl
      | false=>rfl
 | _=>rfl
theorem gW {n:Nat} {d:Nat} {k:T->Bool} (H0:∀ t,sOk t->zk n 0 [t, .int d]= .ok (.bl (k t))) (t:T) (ht:sOk t):zk (n+1) 1 [t, .int d]= .ok (.bl (ul k t)):=by
 have e:zk (n+1) 1 [t, .int d]=zp (Zx zq (zk n 0) [.vl t, .vl (.int d)]):=rfl
 rw [e,Zx]
 simp only [jl,wy,w4,wv,Ug,jz,v0,jg,bOk]
 rw [show zq [t, .int 1, .int 3]= .ok (.bl (Q6 1 3 t)) from jU t 1 3,jD]
 cases t with
 | tup ks=>
  show (if (decide (1<=ks.length) && decide (ks.length<=3))=true then _ else _)=R.ok (T.bl (decide (1<=ks.length) && decide (ks.length<=3) && ks.all k))
  cases h13:(decide (1<=ks.length) && decide (ks.length<=3)) with
  | false=>rfl
  | true=>
   rw [Bool.and_eq_true,decide_eq_true_eq,decide_eq_true_eq] at h13
   have hb:ks.length<=bnd:=Nat.le_trans h13.2 (by decide)
   have ec:Zc (zP 0) j8 (zc 2 (zk n 0) (z9 (vE 0) (z9 (vE 1) zh))) 1 [1] [.vl (.tup ks), .vl (.int d)] ks= .ok (ks.map fun c=>T.bl (k c)):=
    ZH (h:=fun c=>T.bl (k c)) ks hb fun c hc=>by
     show zc 2 (zk n 0) (z9 (vE 0) (z9 (vE 1) zh)) [.vl c, .vl (.int d)]=_
     rw [Zd,v0,v1,bOk,bOk]
     exact H0 c (W0 (UK ht) hc)
   simp only [if_true,WQ,jh,Wy,v0,bOk,uh,ec]
   show (match Yi (ks.map fun c=>T.bl (k c)) with | some k=>R.ok (T.bl k) | none=> .bad)=_
   rw [u3]
   rfl
 | _=>rfl
theorem Yw:∀ (d n:Nat),2*d+1<=n->∀ t,sOk t->zk n 0 [t, .int d]= .ok (.bl (isK d t))
 | 0,n+1,_,t,_=>rfl
 | d+1,n+2,h,t,ht=>kZ (n:=n+1) (fun u hu=>Yw d (n+1) (by omega) u hu) (fun u hu=>gW (fun v hv=>Yw d n (by omega) v hv) u hu) t ht
theorem Qb (t:T) (ht:sOk t):Jv [t]= .ok (.bl (isK 3 t)):=by
 have e:Jv [t]=zp (wY (jC 20) [.vl t]):=rfl
 rw [e,wY]
 simp only [jl,wy,w4,wv,Zd,v0,jg,bOk]
 exact Yw 3 20 (by omega) t ht
end G
namespace G
open PySem L2 PV
noncomputable def inR (lo hi:Int):T->Bool
 | .int i=>decide (lo<=i) && decide (i<=hi)
 | _=>false
theorem yJ:∀ (ws acc:List Str),(dd acc ws).length<=acc.length+ws.length
 | [],acc=>Nat.le_refl _
 | w :: ws,acc=>by
  unfold dd
  have:=yJ ws (if w∈acc then acc else acc++[w])
  by_cases h:w∈acc
  ·rw [if_pos h] at this ⊢; simp only [List.length_cons]; omega
  ·rw [if_neg h] at this ⊢; rw [List.length_append,List.length_singleton] at this; simp only [List.length_cons]; omega
theorem UL:∀ (ws acc:List Str),((dd acc ws).length=acc.length+ws.length)↔∀ (k:Nat) (w:Str),ws[k]? =some w->w ∉ acc++ws.take k
 | [],acc=>by simp [dd]
 | w :: ws,acc=>by
  unfold dd
  by_cases h:w∈acc
  ·rw [if_pos h]
   have:=yJ ws acc
   constructor
   ·intro e; simp only [List.length_cons] at e; omega
   ·intro H; exact absurd (List.mem_append_left _ h) (H 0 w rfl)
  ·rw [if_neg h]
   have ih:=UL ws (acc++[w])
   rw [List.length_append,List.length_singleton] at ih
   rw [show acc.length+(w :: ws).length=acc.length+1+ws.length by simp only [List.length_cons]; omega,ih]
   constructor
   ·intro H k v e
    cases k with
    | zero=>simp at e; subst e; simpa using h
    | succ k=>
     have:=H k v (by simpa using e)
     simpa [List.append_assoc] using this
   ·intro H k v e
    have:=H (k+1) v (by simpa using e)
    simpa [List.append_assoc] using this
end G
namespace G
open PySem L2 PV
theorem ltI (i j:Int):ltC (.int i) (.int j)= .ok (decide (i < j)):=rfl
theorem v2 {t:T} {a b:Sl} {ρ:En}:vE 2 (a :: b :: .vl t :: ρ)= .ok t:=rfl
theorem v3 {t:T} {a b c:Sl} {ρ:En}:vE 3 (a :: b :: c :: .vl t :: ρ)= .ok t:=rfl
theorem w2 {t:T} {a b:Sl} {ρ:En}:vB 2 (a :: b :: .vl t :: ρ)= .ok t:=rfl
theorem w3 {t:T} {a b c:Sl} {ρ:En}:vB 3 (a :: b :: c :: .vl t :: ρ)= .ok t:=rfl
theorem w5 {t:T} {a b c d e:Sl} {ρ:En}:vB 5 (a :: b :: c :: d :: e :: .vl t :: ρ)= .ok t:=rfl
theorem v4 {t:T} {a b c d:Sl} {ρ:En}:vE 4 (a :: b :: c :: d :: .vl t :: ρ)= .ok t:=rfl
end G
namespace G
open PySem L2 PV
theorem qu (w:Str):∀ ws:List Str,Q0 (fun y=>eqF 30 y (.str w)) (ws.map T.str)=some (decide (w∈ws))
 | []=>rfl
 | x :: ws=>by
  have ih:=qu w ws
  show (match Q0 (fun y=>eqF 30 y (.str w)) (ws.map T.str) with | none=>none | some c=>some ((x == w) || c))=_
  rw [ih]
  show some ((x == w) || decide (w∈ws))=_
  congr 1
  by_cases h:x=w
  ·subst h; simp
  ·have h' :¬ w=x:=fun z=>h z.symm
   simp [h,h']
end G
namespace G
open PySem L2 PV
end G
namespace G
open PySem L2 PV
end G
namespace G
open PySem L2 PV
theorem gtI (i j:Int):gtC (.int i) (.int j)= .ok (decide (i > j)):=rfl
theorem ZI (i j:Int):zF (.int i) (.int j)= .ok (.int (i+j)):=rfl
theorem gX (p:Int) (h0:0<=p) (h1:p < 26):ixT (.str "abcdefghijklmnopqrstuvwxyz") (.int p)= .ok (.str ⟨#[97+p.toNat]⟩):=by
 have h:p=0\/p=1\/p=2\/p=3\/p=4\/p=5\/p=6\/p=7\/p=8\/p=9\/p=10\/p=11\/p=12\/p=13\/p=14\/p=15\/p=16\/p=17\/p=18\/p=19\/p=20\/p=21\/p=22\/p=23\/p=24\/p=25:=by omega
 rcases h with rfl|rfl|rfl|rfl|rfl|rfl|rfl|rfl|rfl|rfl|rfl|rfl|rfl|rfl|rfl|rfl|rfl|rfl|rfl|rfl|rfl|rfl|rfl|rfl|rfl|rfl <;> rfl
noncomputable abbrev Gx:En->R T:=zg ixT (vE 3) (zc 3 zm (z9 (vE 1) (z9 (zg zF (zg zF (vE 2) (cE (.int 2))) (vE 0)) (z9 (cE (.int 26)) (zh)))))
theorem gY (ns:List Int) (k:Int) (h0:0<=k) (j:Nat):∃ c:Nat,(97<=c/\c<=122)/\Gx [.vl (.int (j:Int)), .vl (scr ns), .vl (.int k), .vl (.str "abcdefghijklmnopqrstuvwxyz")]= .ok (.str ⟨#[c]⟩):=by
 obtain ⟨p,e,p0,p1⟩:=ZF ns (k+2+j) 26 (by omega) (by omega)
 refine ⟨97+p.toNat,⟨by omega,by omega⟩, ?_⟩
 simp only [Gx,zt,v3,bOk,jz,v1,v2,v0,jg,ZI,e]
 exact gX p p0 p1
theorem Qc (ns:List Int) (k:Int) (h0:0<=k):∃ w:Str,Zt [scr ns, .int k]= .ok (.str w)/\jI (.str w)=true:=by
 have e:Zt [scr ns, .int k]=zp (jr zm [.vl (scr ns), .vl (.int k), .un]):=rfl
 obtain ⟨p,e0,p0,p1⟩:=ZF ns k 6 h0 (by omega)
 have hset:∀ t,([Sl.vl (scr ns),Sl.vl (.int k), .un]:En).set 2 (.vl t)=[Sl.vl (scr ns),Sl.vl (.int k), .vl t]:=fun _=>rfl
 rw [e,jr]
 simp only [Zy,Jy,Wx,jg,jA,hset,Zg,jz,v0,v1,bOk,e0,gtI]
 cases hp:decide (p > 0) with
 | true=>
  obtain ⟨q,e1,q0,q1⟩:=ZF ns (k+1) 4 (by omega) (by omega)
  simp only [if_true,jl,w4,wv,zt,jz,v0,v1,jg,bOk,ZI,e1]
  have hq:q=0\/q=1\/q=2\/q=3:=by omega
  rcases hq with rfl | rfl | rfl | rfl
  ·exact ⟨"a",rfl,by decide⟩
  ·exact ⟨"b",rfl,by decide⟩
  ·exact ⟨"ab",rfl,by decide⟩
  ·exact ⟨"cab",rfl,by decide⟩
 | false=>
  obtain ⟨q,e1,q0,q1⟩:=ZF ns (k+1) 3 (by omega) (by omega)
  simp only [Bool.false_eq_true,if_false,nxS,jl,wy,w4,wv,WQ,jh]
  obtain ⟨g,hg⟩:=Classical.skolem.mp (gY ns k h0)
  have ei:J7 (zg zF (cE (.int 1)) (zc 3 zm (z9 (vE 0) (z9 (zg zF (vE 1) (cE (.int 1))) (z9 (cE (.int 3)) (zh)))))) [Sl.vl (scr ns),Sl.vl (.int k), .vl (.str "abcdefghijklmnopqrstuvwxyz")]= .ok (rng 0 (1+q).toNat):=by
   unfold J7
   simp only [zt,jz,v0,v1,jg,bOk,ZI,e1]
   rw [if_pos ⟨by omega,by omega⟩]
  have ec:∀ n:Nat,n<=3->Zc (zP 0) j8 Gx 1 [0,1,2] [Sl.vl (scr ns),Sl.vl (.int k), .vl (.str "abcdefghijklmnopqrstuvwxyz")] (rng 0 n)= .ok ((rng 0 n).map fun t=>match t with | .int j=> .str ⟨#[g j.toNat]⟩ | t=>t):=fun n hn=>
   ZH (rng 0 n) (by unfold rng; rw [List.length_map,List.length_range]; exact Nat.le_trans hn (by decide)) fun t ht=>by
    unfold rng at ht
    obtain ⟨j,_,rfl⟩:=List.mem_map.mp ht
    show Gx [.vl (.int (0+(j:Int))), .vl (scr ns), .vl (.int k), .vl (.str "abcdefghijklmnopqrstuvwxyz")]= .ok (.str ⟨#[g (0+(j:Int)).toNat]⟩)
    rw [Int.zero_add,Int.toNat_natCast]
    exact (hg j).2
  rw [ei,bOk,ec _ (by omega),bOk,bOk]
  have hw:∀ j,jf (g j)=true:=fun j=>by
   obtain ⟨a,b⟩:=(hg j).1
   unfold jf
   rw [decide_eq_true a,decide_eq_true b]; rfl
  have hq:q=0\/q=1\/q=2:=by omega
  rcases hq with rfl | rfl | rfl
  ·refine ⟨⟨#[g 0]⟩,rfl, ?_⟩
   show (jf (g 0) && true)=true
   rw [hw 0]; rfl
  ·refine ⟨⟨#[g 0,g 1]⟩,rfl, ?_⟩
   show (jf (g 0) && (jf (g 1) && true))=true
   rw [hw 0,hw 1]; rfl
  ·refine ⟨⟨#[g 0,g 1,g 2]⟩,rfl, ?_⟩
   show (jf (g 0) && (jf (g 1) && (jf (g 2) && true)))=true
   rw [hw 0,hw 1,hw 2]; rfl
end G
namespace G
open PySem L2 PV
theorem z0h (j:Int):Zq (.int 5) (.int j)= .ok (.int (5*j)):=by
 show (if yc 5 j then R.ok (T.int (5*j)) else .bad)=_
 rw [if_pos (.inl ⟨by decide,by decide⟩)]
theorem Kn {f g:En->R T} {ρ:En} {x y:T} (hf:f ρ= .ok x) (hg:g ρ= .ok y):wk (z9 f (z9 g zh)) ρ= .ok (.tup [x,y]):=by
 unfold wk z9 zh
 rw [hf,hg]; rfl
theorem tup3 {f g h:En->R T} {ρ:En} {x y z:T} (hf:f ρ= .ok x) (hg:g ρ= .ok y) (hh:h ρ= .ok z):wk (z9 f (z9 g (z9 h zh))) ρ= .ok (.tup [x,y,z]):=by
 unfold wk z9 zh
 rw [hf,hg,hh]; rfl
theorem tup4 {f g h i:En->R T} {ρ:En} {x y z w:T} (hf:f ρ= .ok x) (hg:g ρ= .ok y) (hh:h ρ= .ok z) (hi:i ρ= .ok w):wk (z9 f (z9 g (z9 h (z9 i zh)))) ρ= .ok (.tup [x,y,z,w]):=by
 unfold wk z9 zh
 rw [hf,hg,hh,hi]; rfl
noncomputable def Dst (ws:List Str):Prop:=∀ (k:Nat) (w:Str),ws[k]? =some w->w ∉ ws.take k
theorem Dst.add {ws:List Str} (h:Dst ws) {w:Str} (hw:w ∉ ws):Dst (ws++[w]):=fun k x hx=>by
 by_cases hk:k < ws.length
 ·rw [List.getElem?_append_left hk] at hx
  rw [List.take_append_of_le_length (by omega)]
  exact h k x hx
 ·rw [List.getElem?_append_right (by omega)] at hx
  have hk' :k=ws.length:=by
   rcases Nat.lt_or_ge (k - ws.length) 1 with z | z
   ·omega
   ·rw [List.getElem?_eq_none (by simpa using z)] at hx; cases hx
  subst hk'
  rw [Nat.sub_self] at hx
  cases hx
  rw [List.take_left']
  ·exact hw
  ·rfl
noncomputable abbrev yK:En->RS:=zL (ZC 5 (zc 2 Zt (z9 (vE 0) (z9 (zg zF (zg zF (vE 1) (cE (.int 5))) (zg Zq (cE (.int 5)) (vE 4))) (zh)))))
  (ifS (Zp v8 (vB 5) (vB 3)) (xr 3 (vE 5)) (nxS))
theorem um (ns:List Int) (k:Int) (h0:0<=k):∀ (js:List Nat) (ws:List Str) (x4 x5:Sl),js.length+ws.length<=4->Dst ws->(∀ w∈ws,jI (.str w)=true)->
  ∃ ws' y4 y5,jq (zP 4) yK (js.map fun (j:Nat)=>T.int (0+(j:Int))) [.vl (scr ns), .vl (.int k), .un, .ow (ws.map T.str),x4,x5]= .nx [.vl (scr ns), .vl (.int k), .un, .ow (ws'.map T.str),y4,y5]/\ws'.length<=4/\Dst ws' /\(∀ w∈ws',jI (.str w)=true)/\(0 < js.length+ws.length->0 < ws'.length)
 | [],ws,x4,x5,hl,hd,hw=>⟨ws,x4,x5,rfl,by simpa using hl,hd,hw,fun h=>by simpa using h⟩
 | j :: js,ws,x4,x5,hl,hd,hw=>by
  obtain ⟨w,ew,hw'⟩:=Qc ns (k+5+5*(0+(j:Int))) (by omega)
  have hl' :js.length+ws.length+1<=4:=by simpa [List.length_cons,Nat.add_right_comm] using hl
  have e:jq (zP 4) yK ((j :: js).map fun (j:Nat)=>T.int (0+(j:Int))) [.vl (scr ns), .vl (.int k), .un, .ow (ws.map T.str),x4,x5]=match yK [.vl (scr ns), .vl (.int k), .un, .ow (ws.map T.str), .vl (.int (0+(j:Int))),x5] with
   | .nx ρ2=>jq (zP 4) yK (js.map fun (j:Nat)=>T.int (0+(j:Int))) ρ2
   | .ct ρ2=>jq (zP 4) yK (js.map fun (j:Nat)=>T.int (0+(j:Int))) ρ2
   | .bk ρ2=> .nx ρ2
   | r=>r:=rfl
  have eb:yK [.vl (scr ns), .vl (.int k), .un, .ow (ws.map T.str), .vl (.int (0+(j:Int))),x5]= .nx [.vl (scr ns), .vl (.int k), .un, .ow ((if w∈ws then ws else ws++[w]).map T.str), .vl (.int (0+(j:Int))), .vl (.str w)]:=by
   have w3o:∀ (a b c:Sl) (ts:List T) (ρ:En),vB 3 (a :: b :: c :: .ow ts :: ρ)= .ok (.lst ts):=fun _ _ _ _ _=>rfl
   have hset:∀ t,([.vl (scr ns), .vl (.int k), .un, .ow (ws.map T.str), .vl (.int (0+(j:Int))),x5]:En).set 5 (.vl t)=[.vl (scr ns), .vl (.int k), .un, .ow (ws.map T.str), .vl (.int (0+(j:Int))), .vl t]:=fun _=>rfl
   have en:v8 (.str w) (.lst (ws.map T.str))= .ok (!decide (w∈ws)):=by
    show ((match Q0 (fun y=>eqF 30 y (.str w)) (ws.map T.str) with | some b=>R.ok b | none=> .bad)).bind (fun b=>R.ok (!b))=_
    rw [qu]; rfl
   simp only [yK,Zy,Wx,Zd,v0,v1,v4,zt,jg,bOk,ZI,z0h,ew,jA,hset,Jy,Zg,w5,w3o,en]
   by_cases hm:w∈ws
   ·rw [decide_eq_true hm,if_pos hm]; rfl
   ·rw [decide_eq_false hm,if_neg hm]
    have hb:(ws.map T.str).length < bnd:=by rw [List.length_map]; exact Nat.lt_of_le_of_lt (show ws.length<=4 by omega) (by decide)
    show (if (ws.map T.str).length < bnd then RS.nx _ else .bad)=_
    rw [if_pos hb,List.map_append]
    rfl
  rw [e,eb]
  by_cases hm:w∈ws
  ·rw [if_pos hm]
   obtain ⟨ws',y4,y5,r1,r2,r3,r4,r5⟩:=um ns k h0 js ws (.vl (.int (0+(j:Int)))) (.vl (.str w)) (by omega) hd hw
   exact ⟨ws',y4,y5,r1,r2,r3,r4,fun _=>r5 (by have:=List.length_pos_of_mem hm; omega)⟩
  ·rw [if_neg hm]
   obtain ⟨ws',y4,y5,r1,r2,r3,r4,r5⟩:=um ns k h0 js (ws++[w]) (.vl (.int (0+(j:Int)))) (.vl (.str w)) (by simp only [List.length_append,List.length_cons,List.length_nil]; omega) (hd.add hm) (fun x hx=>by
    rcases List.mem_append.mp hx with z | z
    ·exact hw x z
    ·rw [List.mem_singleton.mp z]; exact hw')
   exact ⟨ws',y4,y5,r1,r2,r3,r4,fun _=>r5 (by simp only [List.length_append,List.length_cons,List.length_nil]; omega)⟩
noncomputable abbrev gZ:En->R T:=wk (z9 (vE 1) (z9 (zg zF (cE (.int 1)) (zc 3 zm (z9 (vE 2) (z9 (zg zF (zg zF (vE 3) (cE (.int 30))) (vE 0)) (z9 (cE (.int 20)) (zh)))))) (zh)))
theorem qv (ns:List Int) (k:Int) (h0:0<=k):∀ (ws:List Str) (i:Nat) (x0 x1:Sl),(∀ w∈ws,jI (.str w)=true)->∃ cs:List T,Z6 (jk 0 1) j8 gZ (((ws.map T.str).zipIdx i).map fun p=>T.tup [.int (p.2:Nat),p.1]) [x0,x1, .vl (scr ns), .vl (.int k)]= .ok cs/\cs.all zO=true/\cs.map ZS=ws
 | [],i,x0,x1,_=>⟨[],rfl,rfl,rfl⟩
 | w :: ws,i,x0,x1,hw=>by
  obtain ⟨p,e,p0,p1⟩:=ZF ns (k+30+i) 20 (by omega) (by omega)
  obtain ⟨cs,r1,r2,r3⟩:=qv ns k h0 ws (i+1) (.vl (.int (i:Int))) (.vl (.str w)) fun x hx=>hw x (List.mem_cons_of_mem _ hx)
  have ec:gZ [.vl (.int (i:Int)), .vl (.str w), .vl (scr ns), .vl (.int k)]= .ok (.tup [.str w, .int (1+p)]):=by
   have ea:zc 3 zm (z9 (vE 2) (z9 (zg zF (zg zF (vE 3) (cE (.int 30))) (vE 0)) (z9 (cE (.int 20)) (zh)))) [.vl (.int (i:Int)), .vl (.str w), .vl (scr ns), .vl (.int k)]= .ok (.int p):=by
    simp only [jz,v2,v3,v0,zt,jg,bOk,ZI,e]
   have eb:zg zF (cE (.int 1)) (zc 3 zm (z9 (vE 2) (z9 (zg zF (zg zF (vE 3) (cE (.int 30))) (vE 0)) (z9 (cE (.int 20)) (zh))))) [.vl (.int (i:Int)), .vl (.str w), .vl (scr ns), .vl (.int k)]= .ok (.int (1+p)):=by
    rw [zt,ea]; rfl
   exact Kn v1 eb
  refine ⟨.tup [.str w, .int (1+p)] :: cs, ?_, ?_, ?_⟩
  ·show ((gZ [.vl (.int (i:Int)), .vl (.str w), .vl (scr ns), .vl (.int k)]).bind fun v=>(Z6 (jk 0 1) j8 gZ (((ws.map T.str).zipIdx (i+1)).map fun p=>T.tup [.int (p.2:Nat),p.1]) [.vl (.int (i:Int)), .vl (.str w), .vl (scr ns), .vl (.int k)]).bind fun vs=>R.ok (v :: vs))=_
   rw [ec,r1]; rfl
  ·rw [List.all_cons,r2,Bool.and_true]
   show (jI (.str w) && decide (1<=1+p) && decide (1+p<=20))=true
   rw [hw w List.mem_cons_self,decide_eq_true (by omega),decide_eq_true (by omega)]; rfl
  ·rw [List.map_cons,r3]; rfl
end G
namespace G
open PySem L2 PV
theorem Xu (i j:Int):vo (.int i) (.int j)= .ok (.int (if j < i then j else i)):=rfl
theorem K0 (ns:List Int) (k:Int) (h0:0<=k):∃ t,Zr [scr ns, .int k]= .ok t/\∀ d,isK (d+1) t=true:=by
 have e:Zr [scr ns, .int k]=zp (ZX zm Zt [.vl (scr ns), .vl (.int k), .un, .un, .un, .un]):=rfl
 obtain ⟨p,e0,p0,p1⟩:=ZF ns k 3 h0 (by omega)
 rw [e,ZX,Zy]
 simp only [Jy,Zg,jz,v0,v1,jg,bOk,e0,gtI,jA]
 cases hp:decide (p > 0) with
 | true=>
  obtain ⟨q,e1,q0,q1⟩:=ZF ns (k+1) 7 (by omega) (by omega)
  obtain ⟨q3,e3,_,_⟩:=ZF ns (k+3) 8 (by omega) (by omega)
  obtain ⟨q4,e4,a4,b4⟩:=ZF ns (k+4) 3 (by omega) (by omega)
  obtain ⟨q2,e2,a2,b2⟩:=ZF ns (k+2) 4 (by omega) (by omega)
  have hset:∀ t x,([.vl (scr ns), .vl (.int k),x, .un, .un, .un]:En).set 2 (.vl t)=[.vl (scr ns), .vl (.int k), .vl t, .un, .un, .un]:=fun _ _=>rfl
  have fin:∀ low:Int, -20<=low->low<=20->∃ t,zp (Zb (wk (z9 (cE (.str "whole")) (z9 (vE 2) (z9 (zg vo (cE (.int 20)) (zg zF (vE 2) (zc 3 zm (z9 (vE 0) (z9 (zg zF (vE 1) (cE (.int 2))) (z9 (cE (.int 4)) (zh))))))) (zh))))) [.vl (scr ns), .vl (.int k), .vl (.int low), .un, .un, .un])= .ok t/\∀ d,isK (d+1) t=true:=by
   intro low hl1 hl2
   refine ⟨.tup [.str "whole", .int low, .int (if low+q2 < 20 then low+q2 else 20)], ?_,fun d=> ?_⟩
   ·rw [jl,wy]
    refine tup3 rfl rfl ?_
    simp only [w4,U1,wv,zt,v2,v0,v1,jz,jg,bOk,ZI,e2,Xu]
   ·show (decide (-20<=low) && decide (low<=_) && decide (_<=(20:Int)))=true
    rw [decide_eq_true hl1,decide_eq_true (by split <;> omega),decide_eq_true (by split <;> omega)]; rfl
  simp only [if_true,Zy,Wx,Jy,zt,jz,v0,v1,jg,bOk,ZI,e1,Jz,jA,hset,Zg,e3,eqI]
  cases hq:(q3 == 0) with
  | true=>
   have h3:q4=0\/q4=1\/q4=2:=by omega
   rcases h3 with rfl | rfl | rfl
   ·obtain ⟨t,r,s⟩:=fin (-20) (by omega) (by omega)
    refine ⟨t, ?_,s⟩
    rw [← r]
    simp only [if_true,e4,bOk]
    have hv:∀ ρ,(Wr (z9 (qZ (cE (.int 20))) (z9 (cE (.int 17)) (z9 (cE (.int 20)) (zh)))) ρ)= .ok (.lst [.int (-20), .int 17, .int 20]):=fun _=>rfl
    simp only [hv,bOk]
    have hx:ixT (.lst [.int (-20), .int 17, .int 20]) (.int 0)= .ok (.int (-20)):=rfl
    simp only [hx,jA,hset,jl]
    generalize wk _ _=z
    cases z <;> rfl
   ·obtain ⟨t,r,s⟩:=fin (17) (by omega) (by omega)
    refine ⟨t, ?_,s⟩
    rw [← r]
    simp only [if_true,e4,bOk]
    have hv:∀ ρ,(Wr (z9 (qZ (cE (.int 20))) (z9 (cE (.int 17)) (z9 (cE (.int 20)) (zh)))) ρ)= .ok (.lst [.int (-20), .int 17, .int 20]):=fun _=>rfl
    simp only [hv,bOk]
    have hx:ixT (.lst [.int (-20), .int 17, .int 20]) (.int 1)= .ok (.int (17)):=rfl
    simp only [hx,jA,hset,jl]
    generalize wk _ _=z
    cases z <;> rfl
   ·obtain ⟨t,r,s⟩:=fin (20) (by omega) (by omega)
    refine ⟨t, ?_,s⟩
    rw [← r]
    simp only [if_true,e4,bOk]
    have hv:∀ ρ,(Wr (z9 (qZ (cE (.int 20))) (z9 (cE (.int 17)) (z9 (cE (.int 20)) (zh)))) ρ)= .ok (.lst [.int (-20), .int 17, .int 20]):=fun _=>rfl
    simp only [hv,bOk]
    have hx:ixT (.lst [.int (-20), .int 17, .int 20]) (.int 2)= .ok (.int (20)):=rfl
    simp only [hx,jA,hset,jl]
    generalize wk _ _=z
    cases z <;> rfl
  | false=>
   obtain ⟨t,r,s⟩:=fin (q - 3) (by omega) (by omega)
   refine ⟨t, ?_,s⟩
   rw [← r]
   simp only [Bool.false_eq_true,if_false,nxS,jl]
   generalize wk _ _=z
   cases z <;> rfl
 | false=>
  obtain ⟨q,e1,q0,q1⟩:=ZF ns (k+1) 4 (by omega) (by omega)
  simp only [Bool.false_eq_true,if_false,nxS,Zy]
  have ei:J7 (zg zF (cE (.int 1)) (zc 3 zm (z9 (vE 0) (z9 (zg zF (vE 1) (cE (.int 1))) (z9 (cE (.int 4)) (zh)))))) [.vl (scr ns), .vl (.int k), .un, .ow [], .un, .un]= .ok (rng 0 (1+q).toNat):=by
   unfold J7
   simp only [zt,jz,v0,v1,jg,bOk,ZI,e1]
   rw [if_pos ⟨by omega,by omega⟩]
  have el:VN 3 zh [.vl (scr ns), .vl (.int k), .un, .un, .un, .un]= .nx [.vl (scr ns), .vl (.int k), .un, .ow [], .un, .un]:=rfl
  rw [el]
  have hn:(List.range (1+q).toNat).length=(1+q).toNat:=List.length_range
  obtain ⟨ws,y4,y5,r1,r2,r3,r4,r5⟩:=um ns k h0 (List.range (1+q).toNat) [] .un .un (by rw [hn,List.length_nil]; omega) (fun k w h=>by cases h) (fun w h=>by cases h)
  have hpos:0 < ws.length:=r5 (by rw [hn,List.length_nil]; omega)
  have ef:wP (J7 (zg zF (cE (.int 1)) (zc 3 zm (z9 (vE 0) (z9 (zg zF (vE 1) (cE (.int 1))) (z9 (cE (.int 4)) (zh))))))) (zP 4) yK [.vl (scr ns), .vl (.int k), .un, .ow [], .un, .un]= .nx [.vl (scr ns), .vl (.int k), .un, .ow (ws.map T.str),y4,y5]:=by
   unfold wP
   rw [ei,jA]
   exact r1
  obtain ⟨cs,s1,s2,s3⟩:=qv ns k h0 ws 0 .un .un r4
  have hcl:cs.length=ws.length:=by rw [← s3,List.length_map]
  refine ⟨.tup [.str "pick", .tup cs], ?_,fun d=> ?_⟩
  ·dsimp only
   rw [ef]
   dsimp only
   rw [jl,wy]
   refine Kn rfl ?_
   rw [WQ,jh]
   have ee:kC (vE 3) (frz [.vl (scr ns), .vl (.int k), .un, .ow (ws.map T.str),y4,y5])= .ok (uZ (ws.map T.str)):=rfl
   rw [ee,bOk]
   unfold Zc
   rw [if_pos (by unfold uZ; rw [List.length_map,List.length_zipIdx,List.length_map]; exact Nat.le_trans r2 (by decide))]
   have ec:Z6 (jk 0 1) j8 gZ (uZ (ws.map T.str)) (qh 2 [0,1] (frz [.vl (scr ns), .vl (.int k), .un, .ow (ws.map T.str),y4,y5]))= .ok cs:=s1
   rw [ec]
   rfl
  ·show (decide (1<=cs.length) && decide (cs.length<=4) && cs.all zO && decide ((dd [] (cs.map ZS)).length=cs.length))=true
   have hd:(dd [] (cs.map ZS)).length=cs.length:=by
    rw [s3,hcl]
    have:=(UL ws []).mpr (fun k w h=>by simpa using r3 k w h)
    simpa using this
   rw [decide_eq_true (by omega),decide_eq_true (by omega),s2,decide_eq_true hd]; rfl
end G
namespace G
open PySem L2 PV
theorem xM (c:Int) (j:Int) (hc:yc c j):Zq (.int c) (.int j)= .ok (.int (c*j)):=by
 show (if yc c j then R.ok (T.int (c*j)) else .bad)=_
 rw [if_pos hc]
theorem G1 (j:Int):Zq (.int 3) (.int j)= .ok (.int (3*j)):=xM _ _ (.inl ⟨by decide,by decide⟩)
theorem G2 (j:Int):Zq (.int 50) (.int j)= .ok (.int (50*j)):=xM _ _ (.inl ⟨by decide,by decide⟩)
noncomputable abbrev Gy (c:List T->R T):En->R T:=zc 3 c (z9 (vE 1) (z9 (zg zF (zg zF (zg Zq (cE (.int 3)) (vE 2)) (cE (.int 40))) (zg Zq (cE (.int 50)) (vE 0))) (z9 (zg uV (vE 3) (cE (.int 1))) (zh))))
theorem Yx (ns:List Int):∀ (d n:Nat),d<=n->1<=d->∀ k:Int,0<=k->∃ t,Zn n 0 [scr ns, .int k, .int (d:Int)]= .ok t/\isK d t=true
 | d+1,n+1,hn,_,k,h0=>by
  have e:Zn (n+1) 0 [scr ns, .int k, .int ((d+1:Nat):Int)]=zp (JJ zm Zr (Zn n 0) [.vl (scr ns), .vl (.int k), .vl (.int ((d+1:Nat):Int)), .un, .un, .un]):=rfl
  obtain ⟨p,e0,p0,p1⟩:=ZF ns k 5 h0 (by omega)
  obtain ⟨l,el,hl⟩:=K0 ns (k+1) (by omega)
  have hset:([.vl (scr ns), .vl (.int k), .vl (.int ((d+1:Nat):Int)), .un, .un, .un]:En).set 3 (.vl (.int p))=[.vl (scr ns), .vl (.int k), .vl (.int ((d+1:Nat):Int)), .vl (.int p), .un, .un]:=rfl
  rw [e,JJ]
  simp only [Zy,Wx,Jy,Q8,Zg,jz,Zd,v0,v1,v2,jg,bOk,e0,jA,hset,w2,w3,eqI,ltI,ZI,jl,w4,U1,wv,zt,el]
  have hd1:((((d+1:Nat):Int) == 1))=decide (d=0):=by
   by_cases h:d=0
   ·subst h; rfl
   ·rw [decide_eq_false h,beq_eq_false_iff_ne]; omega
  rw [hd1]
  by_cases hleaf:d=0\/p < 2
  ·refine ⟨l, ?_,hl d⟩
   rcases hleaf with h | h
   ·rw [decide_eq_true h]; rfl
   ·rw [decide_eq_true h]
    cases decide (d=0) <;> rfl
  ·have hd0:¬ d=0:=fun z=>hleaf (.inl z)
   have hp2:¬ p < 2:=fun z=>hleaf (.inr z)
   have hsub:((d+1:Nat):Int) - 1=(d:Int):=by omega
   rw [decide_eq_false hd0,decide_eq_false hp2]
   simp only [Bool.false_eq_true,if_false,jA,nxS,w3,v0,v1,v2,bOk,ltI,jg]
   cases hp:decide (p < 4) with
   | true=>
    obtain ⟨q,e1,q0,q1⟩:=ZF ns (k+1) 3 (by omega) (by omega)
    have hj:∀ j:Nat,∃ t,Gy (Zn n 0) [.vl (.int (0+(j:Int))), .vl (scr ns), .vl (.int k), .vl (.int ((d+1:Nat):Int))]= .ok t/\isK d t=true:=fun j=>by
     obtain ⟨t,r,s⟩:=Yx ns d n (by omega) (by omega) (3*k+40+50*(0+(j:Int))) (by omega)
     refine ⟨t, ?_,s⟩
     simp only [Gy,jz,v0,v1,v2,v3,zt,jg,bOk,G1,G2,ZI,Jz,hsub,r]
    obtain ⟨g,hg⟩:=Classical.skolem.mp hj
    have ei:J7 (zg zF (cE (.int 1)) (zc 3 zm (z9 (vE 0) (z9 (zg zF (vE 1) (cE (.int 1))) (z9 (cE (.int 3)) (zh)))))) [.vl (scr ns), .vl (.int k), .vl (.int ((d+1:Nat):Int)), .vl (.int p), .un, .un]= .ok (rng 0 (1+q).toNat):=by
     unfold J7
     simp only [zt,jz,v0,v1,jg,bOk,ZI,e1]
     rw [if_pos ⟨by omega,by omega⟩]
    have ec:Zc (zP 0) j8 (Gy (Zn n 0)) 1 [0,1,2] [.vl (scr ns), .vl (.int k), .vl (.int ((d+1:Nat):Int)), .vl (.int p), .un, .un] (rng 0 (1+q).toNat)= .ok ((rng 0 (1+q).toNat).map fun t=>match t with | .int j=>g j.toNat | t=>t):=
     ZH (rng 0 (1+q).toNat) (by unfold rng; rw [List.length_map,List.length_range]; exact Nat.le_trans (show (1+q).toNat<=3 by omega) (by decide)) fun t ht=>by
      unfold rng at ht
      obtain ⟨j,_,rfl⟩:=List.mem_map.mp ht
      show Gy (Zn n 0) [.vl (.int (0+(j:Int))), .vl (scr ns), .vl (.int k), .vl (.int ((d+1:Nat):Int))]= .ok (g (0+(j:Int)).toNat)
      rw [(hg j).1,Int.zero_add,Int.toNat_natCast]
    generalize hcs:((rng 0 (1+q).toNat).map fun t=>match t with | .int j=>g j.toNat | t=>t)=cs at ec
    have hlen:cs.length=(1+q).toNat:=by rw [← hcs]; unfold rng; rw [List.length_map,List.length_map,List.length_range]
    have hall:∀ t∈cs,isK d t=true:=fun t ht=>by
     rw [← hcs] at ht
     obtain ⟨u,hu,rfl⟩:=List.mem_map.mp ht
     unfold rng at hu
     obtain ⟨j,_,rfl⟩:=List.mem_map.mp hu
     exact (hg _).2
    refine ⟨.tup [.str "row", .tup cs], ?_, ?_⟩
    ·have hs4:([.vl (scr ns), .vl (.int k), .vl (.int ((d+1:Nat):Int)), .vl (.int p), .un, .un]:En).set 4 (.vl (.lst cs))=[.vl (scr ns), .vl (.int k), .vl (.int ((d+1:Nat):Int)), .vl (.int p), .vl (.lst cs), .un]:=rfl
     simp only [if_true,jh,ei,bOk,ec,jA,hs4,w4,U1,wv]
     rfl
    ·show (decide (1<=cs.length) && decide (cs.length<=3) && cs.all (isK d))=true
     rw [decide_eq_true (by omega),decide_eq_true (by omega),List.all_eq_true.mpr hall]; rfl
   | false=>
    obtain ⟨q,e1,q0,q1⟩:=ZF ns (k+1) 3 (by omega) (by omega)
    obtain ⟨q2,e2,_,_⟩:=ZF ns (k+2) 3 (by omega) (by omega)
    obtain ⟨t,r,s⟩:=Yx ns d n (by omega) (by omega) (3*k+40) (by omega)
    refine ⟨.tup [.str "many",t, .int q, .int (if q+q2 < 3 then q+q2 else 3)], ?_, ?_⟩
    ·have hs5:([.vl (scr ns), .vl (.int k), .vl (.int ((d+1:Nat):Int)), .vl (.int p), .un, .un]:En).set 5 (.vl (.int q))=[.vl (scr ns), .vl (.int k), .vl (.int ((d+1:Nat):Int)), .vl (.int p), .un, .vl (.int q)]:=rfl
     simp only [Bool.false_eq_true,if_false,v0,v1,zt,jg,bOk,ZI,e1,jA,hs5,w4,U1,wv,wy]
     refine tup4 rfl ?_ rfl ?_
     ·simp only [jz,v0,v1,v2,zt,jg,bOk,G1,ZI,Jz,hsub,r]
     ·have v5:∀ {t:T} {a b c d e:Sl} {ρ:En},vE 5 (a :: b :: c :: d :: e :: .vl t :: ρ)= .ok t:=rfl
      simp only [jz,v0,v1,v5,zt,jg,bOk,ZI,e2,Xu]
    ·show (Ww 0 3 (.int q) (.int _) && isK d t)=true
     rw [s,Bool.and_true]
     show (decide (0<=q) && decide (q<=_) && decide (_<=(3:Int)))=true
     rw [decide_eq_true (by omega),decide_eq_true (by split <;> omega),decide_eq_true (by split <;> omega)]; rfl
end G
namespace G
open PySem L2 PV
mutual
noncomputable def dep:T->Nat
 | .tup xs=>VP xs+1
 | .lst xs=>VP xs+1
 | _=>1
noncomputable def VP:List T->Nat
 | []=>0
 | t :: ts=>max (dep t) (VP ts)
end
mutual
noncomputable def siz:T->Nat
 | .tup xs=>VQ xs+1
 | .lst xs=>VQ xs+1
 | _=>1
noncomputable def VQ:List T->Nat
 | []=>0
 | t :: ts=>siz t+VQ ts
end
theorem Wz {w:Str} {t:T} (h:isS w t=true):t= .str w:=by
 cases t with
 | str s=>
  have:(s == w)=true:=h
  rw [eq_of_beq this]
 | _=>cases h
theorem Yy {lo hi:Int} {t:T} (h:inR lo hi t=true):∃ i,t= .int i:=by
 cases t with
 | int i=>exact ⟨i,rfl⟩
 | _=>cases h
theorem u4 {lo hi:Int} {a b:T} (h:Ww lo hi a b=true):∃ i j,a= .int i/\b= .int j:=by
 cases a with
 | int i=>
  cases b with
  | int j=>exact ⟨i,j,rfl,rfl⟩
  | _=>cases h
 | _=>cases h
structure Fit (D S:Nat) (t:T):Prop where
 so:sOk t
 dp:dep t<=D
 sz:siz t<=S
theorem Qd {c:T} (h:zO c=true):Fit 2 3 c:=by
 unfold zO at h
 split at h
 ·rename_i w i
  have hw:jI w=true:=by
   rw [Bool.and_eq_true,Bool.and_eq_true] at h
   exact h.1.1
  cases w with
  | str x=>
   have hx:(decide (1<=x.length) && decide (x.length<=3) && x.cps.toList.all jf)=true:=hw
   rw [Bool.and_eq_true,Bool.and_eq_true,decide_eq_true_eq,decide_eq_true_eq] at hx
   refine ⟨?_, ?_, ?_⟩
   ·simp only [sOk,Yj,and_true]
    exact Nat.le_trans hx.1.2 (by decide)
   ·simp [dep,VP]
   ·simp [siz,VQ]
  | _=>cases hw
 ·cases h
theorem z0i {D S:Nat}:∀ {cs:List T},(∀ c∈cs,Fit D S c)->Yj cs/\VP cs<=D/\VQ cs<=S*cs.length
 | [],_=>⟨by simp only [Yj],Nat.zero_le _,Nat.zero_le _⟩
 | c :: cs,h=>by
  obtain ⟨a,b,d⟩:=z0i (cs:=cs) fun x hx=>h x (List.mem_cons_of_mem _ hx)
  obtain ⟨x,y,z⟩:=h c List.mem_cons_self
  refine ⟨?_, ?_, ?_⟩
  ·simp only [Yj]; exact ⟨x,a⟩
  ·simp only [VP]; omega
  ·simp only [VQ,List.length_cons,Nat.mul_add,Nat.mul_one]; omega
theorem u5:∀ (d:Nat) (t:T),isK d t=true->Fit (2*d+2) (15*4 ^ d) t
 | 0,_,h=>by cases h
 | d+1,t,h=>by
  have hpow:4 ^ (d+1)=4*4 ^ d:=by rw [Nat.pow_succ,Nat.mul_comm]
  have hone:1<=4 ^ d:=Nat.pow_pos (by omega)
  have h:Qa (isK d) t=true:=h
  unfold Qa at h
  split at h
  ·rename_i hd r
   split at h
   ·rename_i e
    rw [Wz e]
    unfold yI at h
    split at h
    ·obtain ⟨i,j,rfl,rfl⟩:=u4 h
     refine ⟨by simp only [sOk,Yj,and_true]; decide,by simp only [dep,VP]; omega,by simp only [siz,VQ]; omega⟩
    ·cases h
   ·split at h
    ·rename_i e
     rw [Wz e]
     unfold vZ at h
     split at h
     ·rename_i c
      unfold qt at h
      split at h
      ·rename_i cs
       rw [Bool.and_eq_true,Bool.and_eq_true,Bool.and_eq_true,decide_eq_true_eq,decide_eq_true_eq] at h
       obtain ⟨a,b,z⟩:=z0i (D:=2) (S:=3) (cs:=cs) fun c hc=>Qd (List.all_eq_true.mp h.1.2 c hc)
       refine ⟨by simp only [sOk,Yj,and_true]; exact ⟨by decide,a⟩,by simp only [dep,VP]; omega,by simp only [siz,VQ]; omega⟩
      ·cases h
     ·cases h
    ·split at h
     ·rename_i e
      rw [Wz e]
      unfold gT at h
      split at h
      ·rename_i c
       unfold ul at h
       split at h
       ·rename_i cs
        rw [Bool.and_eq_true,Bool.and_eq_true,decide_eq_true_eq,decide_eq_true_eq] at h
        obtain ⟨a,b,z⟩:=z0i (D:=2*d+2) (S:=15*4 ^ d) (cs:=cs) fun c hc=>u5 d c (List.all_eq_true.mp h.2 c hc)
        have:15*4 ^ d*cs.length<=15*4 ^ d*3:=Nat.mul_le_mul_left _ h.1.2
        refine ⟨by simp only [sOk,Yj,and_true]; exact ⟨by decide,a⟩,by simp only [dep,VP]; omega,by simp only [siz,VQ]; omega⟩
       ·cases h
      ·cases h
     ·split at h
      ·rename_i e
       rw [Wz e]
       unfold V0 at h
       split at h
       ·rename_i c a b
        rw [Bool.and_eq_true] at h
        obtain ⟨i,j,rfl,rfl⟩:=u4 h.1
        obtain ⟨x,y,z⟩:=u5 d c h.2
        refine ⟨by simp only [sOk,Yj,and_true]; exact ⟨by decide,x⟩,by simp only [dep,VP]; omega,by simp only [siz,VQ]; omega⟩
       ·cases h
      ·cases h
  ·cases h
end G
namespace G
open PySem L2 PV
theorem tup1 {f:En->R T} {ρ:En} {x:T} (hf:f ρ= .ok x):wk (z9 f zh) ρ= .ok (.tup [x]):=by
 unfold wk z9 zh
 rw [hf]; rfl
end G
namespace G
open PySem L2 PV
end G
namespace G
open PySem L2 PV
theorem G4 {xs ys:List T} (h:xs.length+ys.length<=bnd):zF (.tup xs) (.tup ys)= .ok (.tup (xs++ys)):=if_pos h
end G
namespace G
open PySem L2 PV
theorem UM {xs:List T} {j:Nat} {x:T} (h:xs[j]? =some x):ixT (.lst xs) (.int (j:Int))= .ok x:=by
 show atT xs j=_
 unfold atT
 rw [JX h]
end G
namespace G
open PySem L2 PV
end G
namespace G
open PySem L2 PV
end G
namespace G
open PySem L2 PV
theorem Uj (ρ:En):nxS ρ= .nx ρ:=rfl
inductive Kd where
 | whole (lo hi:Int)
 | pick (cs:List (Str×Int))
 | row (ks:List Kd)
 | many (k:Kd) (lo hi:Nat)
noncomputable def Wf (c:Str×Int):T:= .tup [.str c.1, .int c.2]
mutual
noncomputable def Kd.t:Kd->T
 | .whole lo hi=> .tup [.str "whole", .int lo, .int hi]
 | .pick cs=> .tup [.str "pick", .tup (cs.map Wf)]
 | .row ks=> .tup [.str "row", .tup (Kd.ts ks)]
 | .many k lo hi=> .tup [.str "many",k.t, .int (lo:Int), .int (hi:Int)]
noncomputable def Kd.ts:List Kd->List T
 | []=>[]
 | k :: ks=>k.t :: Kd.ts ks
end
theorem Kd.ts_map:∀ ks:List Kd,Kd.ts ks=ks.map Kd.t
 | []=>by simp only [Kd.ts,List.map_nil]
 | k :: ks=>by simp only [Kd.ts,List.map_cons,Kd.ts_map ks]
noncomputable def Kd.Ok:Nat->Kd->Prop
 | 0,_=>False
 | _+1, .whole lo hi=> -20<=lo/\lo<=hi/\hi<=20
 | _+1, .pick cs=>1<=cs.length/\cs.length<=4/\(∀ c∈cs,jI (.str c.1)=true/\1<=c.2/\c.2<=20)/\Dst (cs.map (·.1))
 | d+1, .row ks=>1<=ks.length/\ks.length<=3/\∀ k∈ks,Kd.Ok d k
 | d+1, .many k lo hi=>lo<=hi/\hi<=3/\Kd.Ok d k
theorem V2 {c:T} (h:zO c=true):∃ p:Str×Int,c=Wf p/\jI (.str p.1)=true/\1<=p.2/\p.2<=20:=by
 unfold zO at h
 split at h
 ·rename_i w i
  rw [Bool.and_eq_true,Bool.and_eq_true,decide_eq_true_eq,decide_eq_true_eq] at h
  cases w with
  | str x=>exact ⟨(x,i),rfl,h.1.1,h.1.2,h.2⟩
  | _=>cases h.1.1
 ·cases h
theorem Yz {α:Type} {P:T->Prop} {Q:α->Prop} {f:α->T} (H:∀ t,P t->∃ a,t=f a/\Q a):∀ (ts:List T),(∀ t∈ts,P t)->∃ as:List α,ts=as.map f/\∀ a∈as,Q a
 | [],_=>⟨[],rfl,fun _ h=>nomatch h⟩
 | t :: ts,h=>by
  obtain ⟨a,rfl,ha⟩:=H t (h t List.mem_cons_self)
  obtain ⟨as,rfl,has⟩:=Yz H ts fun u hu=>h u (List.mem_cons_of_mem _ hu)
  exact ⟨a :: as,rfl,fun b hb=>by
   rcases List.mem_cons.mp hb with rfl | hb
   ·exact ha
   ·exact has b hb⟩
theorem YA:∀ (d:Nat) (t:T),isK d t=true->∃ k:Kd,t=k.t/\k.Ok d
 | 0,_,h=>by cases h
 | d+1,t,h=>by
  have h:Qa (isK d) t=true:=h
  unfold Qa at h
  split at h
  ·rename_i hd r
   split at h
   ·rename_i e
    rw [Wz e]
    unfold yI at h
    split at h
    ·obtain ⟨i,j,rfl,rfl⟩:=u4 h
     have h:(decide (-20<=i) && decide (i<=j) && decide (j<=20))=true:=h
     rw [Bool.and_eq_true,Bool.and_eq_true,decide_eq_true_eq,decide_eq_true_eq,decide_eq_true_eq] at h
     exact ⟨.whole i j,by simp only [Kd.t],h.1.1,h.1.2,h.2⟩
    ·cases h
   ·split at h
    ·rename_i e
     rw [Wz e]
     unfold vZ at h
     split at h
     ·rename_i c
      unfold qt at h
      split at h
      ·rename_i cs
       rw [Bool.and_eq_true,Bool.and_eq_true,Bool.and_eq_true,decide_eq_true_eq,decide_eq_true_eq,decide_eq_true_eq] at h
       obtain ⟨⟨⟨h1,h2⟩,h3⟩,h4⟩:=h
       obtain ⟨as,rfl,has⟩:=Yz (fun t ht=>V2 ht) cs fun c hc=>List.all_eq_true.mp h3 c hc
       rw [List.length_map] at h1 h2
       refine ⟨.pick as,by simp only [Kd.t],h1,h2,has, ?_⟩
       have e1:(as.map Wf).map ZS=as.map (·.1):=by rw [List.map_map]; rfl
       rw [e1] at h4
       have:=(UL (as.map (·.1)) []).mp (by rw [h4,List.length_map,List.length_map]; simp)
       exact fun k w hw hm=>this k w hw (by simpa using hm)
      ·cases h
     ·cases h
    ·split at h
     ·rename_i e
      rw [Wz e]
      unfold gT at h
      split at h
      ·rename_i c
       unfold ul at h
       split at h
       ·rename_i cs
        rw [Bool.and_eq_true,Bool.and_eq_true,decide_eq_true_eq,decide_eq_true_eq] at h
        obtain ⟨ks,rfl,hks⟩:=Yz (fun t ht=>YA d t ht) cs fun c hc=>List.all_eq_true.mp h.2 c hc
        rw [List.length_map] at h
        exact ⟨.row ks,by simp only [Kd.t,Kd.ts_map],h.1.1,h.1.2,hks⟩
       ·cases h
      ·cases h
     ·split at h
      ·rename_i e
       rw [Wz e]
       unfold V0 at h
       split at h
       ·rename_i c a b
        rw [Bool.and_eq_true] at h
        obtain ⟨h1,h2⟩:=h
        obtain ⟨i,j,rfl,rfl⟩:=u4 h1
        obtain ⟨k,rfl,hk⟩:=YA d c h2
        have h1:(decide (0<=i) && decide (i<=j) && decide (j<=3))=true:=h1
        rw [Bool.and_eq_true,Bool.and_eq_true,decide_eq_true_eq,decide_eq_true_eq,decide_eq_true_eq] at h1
        obtain ⟨⟨a1,a2⟩,a3⟩:=h1
        obtain ⟨m,rfl⟩:=Int.eq_ofNat_of_zero_le a1
        obtain ⟨n,rfl⟩:=Int.eq_ofNat_of_zero_le (Int.le_trans a1 a2)
        exact ⟨.many k m n,by simp only [Kd.t],by omega,by omega,hk⟩
       ·cases h
      ·cases h
  ·cases h
noncomputable def ZN (made:List (List T)):List (List T)->List (List T)
 | []=>made
 | ls :: r=>ZN (made.flatMap fun a=>ls.map fun x=>a++[x]) r
noncomputable abbrev yL (ls:List (List T)):List T:=(ZN [[]] ls).map T.tup
mutual
noncomputable def Kd.all:Kd->List T
 | .whole lo hi=>(List.range (hi+1 - lo).toNat).map fun (i:Nat)=>T.int (lo+(i:Int))
 | .pick cs=>cs.map fun c=>T.str c.1
 | .row ks=>yL (Kd.alls ks)
 | .many k lo hi=>(List.range (hi+1 - lo)).flatMap fun i=>yL (List.replicate (lo+i) k.all)
noncomputable def Kd.alls:List Kd->List (List T)
 | []=>[]
 | k :: ks=>k.all :: Kd.alls ks
end
theorem Kd.alls_map:∀ ks:List Kd,Kd.alls ks=ks.map Kd.all
 | []=>by simp only [Kd.alls,List.map_nil]
 | k :: ks=>by simp only [Kd.alls,List.map_cons,Kd.alls_map ks]
end G
namespace G
open PySem L2 PV
noncomputable def prd:List Nat->Nat
 | []=>1
 | n :: r=>n*prd r
theorem uo:∀ {ns:List Nat},(∀ n∈ns,1<=n)->1<=prd ns
 | [],_=>Nat.le_refl _
 | n :: ns,h=>Nat.mul_pos (h n List.mem_cons_self) (uo fun m hm=>h m (List.mem_cons_of_mem _ hm))
theorem u6 {α β:Type} (f:α->List β) (n:Nat):∀ as:List α,(∀ a∈as,(f a).length=n)->(as.flatMap f).length=as.length*n
 | [],_=>by simp
 | a :: as,h=>by
  rw [List.flatMap_cons,List.length_append,h a List.mem_cons_self,u6 f n as fun b hb=>h b (List.mem_cons_of_mem _ hb),List.length_cons,Nat.add_mul,Nat.one_mul,Nat.add_comm]
theorem uq:∀ (ls:List (List T)) (made:List (List T)),(ZN made ls).length=made.length*prd (ls.map (·.length))
 | [],made=>by simp [ZN,prd]
 | l :: ls,made=>by
  rw [ZN,uq ls,u6 _ l.length made fun a _=>List.length_map ..,List.map_cons,prd,Nat.mul_assoc]
noncomputable abbrev Xv:En->RS:=Km 3 (jw (WN (vE 2)) (zP 0) (j8) (zg zF (vE 1) (wk (z9 (vE 0) (zh)))) 1 [4])
theorem qw {L M:T} {l:List T} (hl:l.length<=bnd):∀ (as:List (List T)) (acc:List T) (x:Sl),(∀ a∈as,a.length<=1000)->acc.length+as.length*l.length<=bnd->
  ∃ y,jq (zP 4) Xv (as.map T.tup) [.vl L, .vl M, .vl (.lst l), .ow acc,x]= .nx [.vl L, .vl M, .vl (.lst l), .ow (acc++(as.flatMap fun a=>l.map fun x=>a++[x]).map T.tup),y]
 | [],acc,x,_,_=>⟨x,by simp [jq]⟩
 | a :: as,acc,x,ha,hb=>by
  have ha1:=ha a List.mem_cons_self
  have hb1:bnd=16777216:=rfl
  rw [List.length_cons,Nat.add_mul,Nat.one_mul] at hb
  have ec:Zc (zP 0) j8 (zg zF (vE 1) (wk (z9 (vE 0) (zh)))) 1 [4] [.vl L, .vl M, .vl (.lst l), .ow acc, .vl (.tup a)] l= .ok (l.map fun x=>T.tup (a++[x])):=
   ZH (h:=fun x=>T.tup (a++[x])) l hl fun x hx=>by
    show zg zF (vE 1) (wk (z9 (vE 0) (zh))) [.vl x, .vl (.tup a)]=_
    rw [zt,v1,bOk,tup1 v0,bOk]
    exact G4 (by rw [List.length_singleton]; omega)
  have eb:Xv [.vl L, .vl M, .vl (.lst l), .ow acc, .vl (.tup a)]= .nx [.vl L, .vl M, .vl (.lst l), .ow (acc++l.map fun x=>T.tup (a++[x])), .vl (.tup a)]:=by
   show ((jw _ _ _ _ _ _ _).s fun t=>match t with | .lst us=>if acc.length+us.length<=bnd then RS.nx _ else .bad | _=> .bad)=_
   rw [jh,Wy,v2,bOk]
   show (((Zc _ _ _ _ _ _ l).bind _).s _)=_
   rw [ec,bOk,jA]
   show (if _ then _ else _)=_
   rw [if_pos (by rw [List.length_map]; omega)]
   rfl
  obtain ⟨y,ih⟩:=qw hl as (acc++l.map fun x=>T.tup (a++[x])) (.vl (.tup a)) (fun b hb=>ha b (List.mem_cons_of_mem _ hb)) (by rw [List.length_append,List.length_map]; omega)
  refine ⟨y, ?_⟩
  have e:jq (zP 4) Xv ((a :: as).map T.tup) [.vl L, .vl M, .vl (.lst l), .ow acc,x]=match Xv [.vl L, .vl M, .vl (.lst l), .ow acc, .vl (.tup a)] with
   | .nx ρ2=>jq (zP 4) Xv (as.map T.tup) ρ2
   | .ct ρ2=>jq (zP 4) Xv (as.map T.tup) ρ2
   | .bk ρ2=> .nx ρ2
   | r=>r:=rfl
  rw [e,eb]
  dsimp only
  rw [ih,List.flatMap_cons,List.map_append,List.map_map,List.append_assoc]
  rfl
noncomputable abbrev yM:En->RS:=(zL (VN 3 (zh))
  (zL (wP (WN (vE 1)) (zP 4) Xv)
  (mvS 1 3)))
theorem yN {L:T} (m:Nat):∀ (ls:List (List T)) (made:List (List T)) (k:Nat) (x y z:Sl),(∀ a∈made,a.length<=k)->k+ls.length<=1000->(∀ l∈ls,1<=l.length)->made.length*prd (ls.map (·.length))<=bnd->1<=made.length->
  ∃ x' y' z',jq (zP 2) yM (ls.map T.lst) [.vl L, .vl (.lst (made.map T.tup)),x,y,z]= .nx [.vl L, .vl (.lst ((ZN made ls).map T.tup)),x',y',z']
 | [],made,k,x,y,z,_,_,_,_,_=>⟨x,y,z,by simp [jq,ZN]⟩
 | l :: ls,made,k,x,y,z,hk,hkl,hpos,hb,hm=>by
  have hpr:1<=prd (ls.map (·.length)):=uo fun n hn=>by
   obtain ⟨l',hl',rfl⟩:=List.mem_map.mp hn
   exact hpos l' (List.mem_cons_of_mem _ hl')
  rw [List.map_cons,prd,← Nat.mul_assoc] at hb
  have hb1:made.length*l.length<=bnd:=Nat.le_trans (Nat.le_mul_of_pos_right _ hpr) hb
  have hll:l.length<=bnd:=Nat.le_trans (Nat.le_mul_of_pos_left _ hm) hb1
  rw [List.length_cons] at hkl
  obtain ⟨w,er⟩:=qw (L:=L) (M:= .lst (made.map T.tup)) hll made [] z (fun a ha=>Nat.le_trans (hk a ha) (by omega)) (by rw [List.length_nil]; omega)
  rw [List.nil_append] at er
  have es:yM [.vl L, .vl (.lst (made.map T.tup)), .vl (.lst l),y,z]= .nx [.vl L, .vl (.lst ((made.flatMap fun a=>l.map fun x=>a++[x]).map T.tup)), .vl (.lst l), .vl (.lst ((made.flatMap fun a=>l.map fun x=>a++[x]).map T.tup)),w]:=by
   have e0:VN 3 (zh) [.vl L, .vl (.lst (made.map T.tup)), .vl (.lst l),y,z]= .nx [.vl L, .vl (.lst (made.map T.tup)), .vl (.lst l), .ow [],z]:=rfl
   have e1:wP (WN (vE 1)) (zP 4) Xv [.vl L, .vl (.lst (made.map T.tup)), .vl (.lst l), .ow [],z]= .nx [.vl L, .vl (.lst (made.map T.tup)), .vl (.lst l), .ow ((made.flatMap fun a=>l.map fun x=>a++[x]).map T.tup),w]:=er
   unfold yM
   rw [Zy,e0]
   dsimp only
   rw [Zy,e1]
   rfl
  obtain ⟨x',y',z',ih⟩:=yN (L:=L) m ls (made.flatMap fun a=>l.map fun x=>a++[x]) (k+1) (.vl (.lst l)) (.vl (.lst ((made.flatMap fun a=>l.map fun x=>a++[x]).map T.tup))) w (fun a ha=>by
   obtain ⟨b,hb,hx⟩:=List.mem_flatMap.mp ha
   obtain ⟨u,_,rfl⟩:=List.mem_map.mp hx
   have:=hk b hb
   rw [List.length_append,List.length_singleton]; omega) (by omega) (fun l' hl' =>hpos l' (List.mem_cons_of_mem _ hl')) (by
    rw [u6 _ l.length made fun a _=>List.length_map ..]; exact hb) (by
    rw [u6 _ l.length made fun a _=>List.length_map ..]; exact Nat.mul_pos hm (hpos l List.mem_cons_self))
  refine ⟨x',y',z', ?_⟩
  have e:jq (zP 2) yM ((l :: ls).map T.lst) [.vl L, .vl (.lst (made.map T.tup)),x,y,z]=match yM [.vl L, .vl (.lst (made.map T.tup)), .vl (.lst l),y,z] with
   | .nx ρ2=>jq (zP 2) yM (ls.map T.lst) ρ2
   | .ct ρ2=>jq (zP 2) yM (ls.map T.lst) ρ2
   | .bk ρ2=> .nx ρ2
   | r=>r:=rfl
  rw [e,es]
  exact ih
theorem V3 (ls:List (List T)) (hl:ls.length<=1000) (hpos:∀ l∈ls,1<=l.length) (hb:prd (ls.map (·.length))<=bnd):zf [.lst (ls.map T.lst)]= .ok (.lst (yL ls)):=by
 obtain ⟨x',y',z',er⟩:=yN (L:= .lst (ls.map T.lst)) 0 ls [[]] 0 .un .un .un (fun a ha=>by rw [List.mem_singleton.mp ha]; exact Nat.le_refl _) (by omega) hpos (by rw [List.length_singleton,Nat.one_mul]; exact hb) (Nat.le_refl _)
 have e:zf [.lst (ls.map T.lst)]=zp (jt [.vl (.lst (ls.map T.lst)), .un, .un, .un, .un]):=rfl
 have e0:ZC 1 (Wr (z9 (wk (zh)) (zh))) [.vl (.lst (ls.map T.lst)), .un, .un, .un, .un]= .nx [.vl (.lst (ls.map T.lst)), .vl (.lst [.tup []]), .un, .un, .un]:=rfl
 have e1:wP (WN (vE 0)) (zP 2) yM [.vl (.lst (ls.map T.lst)), .vl (.lst [.tup []]), .un, .un, .un]= .nx [.vl (.lst (ls.map T.lst)), .vl (.lst (yL ls)),x',y',z']:=er
 rw [e,jt,Zy,e0]
 dsimp only
 rw [Zy,e1]
 rfl
end G
namespace G
open PySem L2 PV
theorem JP (n:Nat):∀ m:Nat,prd (List.replicate m n)=n ^ m
 | 0=>rfl
 | m+1=>by rw [List.replicate_succ,prd,JP n m,Nat.pow_succ,Nat.mul_comm]
theorem u7 (ls:List (List T)):(yL ls).length=prd (ls.map (·.length)):=by
 unfold yL
 rw [List.length_map,uq,List.length_singleton,Nat.one_mul]
noncomputable def pw (n lo hi:Nat):Nat:=((List.range (hi+1 - lo)).map fun i=>n ^ (lo+i)).sum
theorem Je (k:Kd) (lo hi:Nat):(Kd.many k lo hi).all.length=pw k.all.length lo hi:=by
 rw [Kd.all,List.length_flatMap,pw]
 congr 1
 refine List.map_congr_left fun i _=> ?_
 rw [u7,List.map_replicate,JP]
theorem Wg (ks:List Kd):(Kd.row ks).all.length=prd (ks.map fun k=>k.all.length):=by
 rw [Kd.all,u7,Kd.alls_map,List.map_map]; rfl
theorem JA (lo hi:Int):(Kd.whole lo hi).all.length=(hi+1 - lo).toNat:=by
 rw [Kd.all,List.length_map,List.length_range]
theorem UN (cs:List (Str×Int)):(Kd.pick cs).all.length=cs.length:=by
 rw [Kd.all,List.length_map]
theorem K1 {lo hi:Nat} (h:lo<=hi) (h3:hi<=3):(lo=0/\hi=0)\/(lo=0/\hi=1)\/(lo=0/\hi=2)\/(lo=0/\hi=3)\/(lo=1/\hi=1)\/(lo=1/\hi=2)\/(lo=1/\hi=3)\/(lo=2/\hi=2)\/(lo=2/\hi=3)\/(lo=3/\hi=3):=by omega
noncomputable def iv (b:Bool):Nat:=if b then 1 else 0
theorem K2 (n:Nat) {lo hi:Nat} (h:lo<=hi) (h3:hi<=3):pw n lo hi=iv (lo == 0)+n*iv (decide (lo<=1) && decide (1<=hi))+n*n*iv (decide (lo<=2) && decide (2<=hi))+n*n*n*iv (hi == 3):=by
 rcases K1 h h3 with ⟨rfl,rfl⟩ | ⟨rfl,rfl⟩ | ⟨rfl,rfl⟩ | ⟨rfl,rfl⟩ | ⟨rfl,rfl⟩ | ⟨rfl,rfl⟩ | ⟨rfl,rfl⟩ | ⟨rfl,rfl⟩ | ⟨rfl,rfl⟩ | ⟨rfl,rfl⟩ <;>
  simp [pw,List.range_succ,iv,Nat.pow_succ]
 all_goals omega
theorem G5 {n:Nat} (hn:1<=n) {lo hi:Nat} (h:lo<=hi) (h3:hi<=3):1<=pw n lo hi:=by
 have h2:1<=n*n:=Nat.mul_pos hn hn
 have h1:1<=n*n*n:=Nat.mul_pos h2 hn
 rw [K2 n h h3]
 rcases K1 h h3 with ⟨rfl,rfl⟩ | ⟨rfl,rfl⟩ | ⟨rfl,rfl⟩ | ⟨rfl,rfl⟩ | ⟨rfl,rfl⟩ | ⟨rfl,rfl⟩ | ⟨rfl,rfl⟩ | ⟨rfl,rfl⟩ | ⟨rfl,rfl⟩ | ⟨rfl,rfl⟩ <;>
  simp [iv] <;> omega
theorem z0j {n N:Nat} (hn:n<=N) {lo hi:Nat} (h:lo<=hi) (h3:hi<=3):pw n lo hi<=1+N+N*N+N*N*N:=by
 have h2:n*n<=N*N:=Nat.mul_le_mul hn hn
 have h1:n*n*n<=N*N*N:=Nat.mul_le_mul h2 hn
 rw [K2 n h h3]
 rcases K1 h h3 with ⟨rfl,rfl⟩ | ⟨rfl,rfl⟩ | ⟨rfl,rfl⟩ | ⟨rfl,rfl⟩ | ⟨rfl,rfl⟩ | ⟨rfl,rfl⟩ | ⟨rfl,rfl⟩ | ⟨rfl,rfl⟩ | ⟨rfl,rfl⟩ | ⟨rfl,rfl⟩ <;>
  simp [iv] <;> omega
theorem Xw {N:Nat} (hN:1<=N):∀ (ns:List Nat),(∀ n∈ns,n<=N)->prd ns<=N ^ ns.length
 | [],_=>Nat.le_refl _
 | n :: ns,h=>by
  rw [prd,List.length_cons,Nat.pow_succ,Nat.mul_comm]
  exact Nat.mul_le_mul (Xw hN ns fun m hm=>h m (List.mem_cons_of_mem _ hm)) (h n List.mem_cons_self)
theorem j3:∀ (d:Nat) (k:Kd),k.Ok d->1<=k.all.length
 | 0,_,h=>h.elim
 | d+1, .whole lo hi,h=>by
  obtain ⟨_,h2,_⟩:=h
  rw [JA]; omega
 | d+1, .pick cs,h=>by
  rw [UN]; exact h.1
 | d+1, .row ks,h=>by
  rw [Wg]
  refine uo fun n hn=> ?_
  obtain ⟨k,hk,rfl⟩:=List.mem_map.mp hn
  exact j3 d k (h.2.2 k hk)
 | d+1, .many k lo hi,h=>by
  rw [Je]
  exact G5 (j3 d k h.2.2) h.1 h.2.1
noncomputable def mx:Nat->Nat
 | 0=>0
 | 1=>41
 | d+1=>1+mx d+mx d*mx d+mx d*mx d*mx d
theorem Xx (d:Nat):41<=mx (d+1):=by
 induction d with
 | zero=>exact Nat.le_refl _
 | succ d ih=>
  show 41<=1+mx (d+1)+mx (d+1)*mx (d+1)+mx (d+1)*mx (d+1)*mx (d+1)
  omega
theorem V4 (d:Nat) (n:Nat) (h:n<=41):n<=mx (d+1):=Nat.le_trans h (Xx d)
theorem K3 {N m:Nat} (hN:1<=N) (h:m<=3):N ^ m<=1+N+N*N+N*N*N:=by
 have:m=0\/m=1\/m=2\/m=3:=by omega
 rcases this with rfl | rfl | rfl | rfl <;> simp [Nat.pow_succ] <;> omega
theorem w8:∀ (d:Nat) (k:Kd),k.Ok d->k.all.length<=mx d
 | 0,_,h=>h.elim
 | d+1, .whole lo hi,h=>by
  obtain ⟨h1,h2,h3⟩:=h
  rw [JA]; exact V4 d _ (by omega)
 | d+1, .pick cs,h=>by
  rw [UN]; exact V4 d _ (Nat.le_trans h.2.1 (by omega))
 | 1, .row ks,h=>by
  obtain ⟨h1,h2,h3⟩:=h
  match ks,h1,h3 with
  | k :: _,_,h3=>exact (h3 k List.mem_cons_self).elim
 | d+2, .row ks,h=>by
  obtain ⟨h1,h2,h3⟩:=h
  rw [Wg]
  have hp:=Nat.le_trans (by omega:1<=41) (Xx d)
  have:=Xw hp (ks.map fun k=>k.all.length) fun n hn=>by
   obtain ⟨k,hk,rfl⟩:=List.mem_map.mp hn
   exact w8 (d+1) k (h3 k hk)
  rw [List.length_map] at this
  exact Nat.le_trans this (K3 hp h2)
 | 1, .many k lo hi,h=>h.2.2.elim
 | d+2, .many k lo hi,h=>by
  rw [Je]
  exact z0j (w8 (d+1) k h.2.2) h.1 h.2.1
end G
namespace G
open PySem L2 PV
theorem zl {f g:En->RS} {ρ ρ' :En} (h:f ρ= .nx ρ'):zL f g ρ=g ρ' :=by rw [Zy,h]
theorem cs0 {x w:Str} {r:List T} {ρ:En}:Zp eqC (zg ixT (vE 0) (cE (.int 0))) (cE (.str w)) (.vl (.tup (.str x :: r)) :: ρ)= .ok (x == w):=by
 rw [Zg,zt,v0,bOk,jg,bOk,at0,bOk,jg,bOk,eqS]; rfl
theorem Yk {a b:T} {r:List T} {ρ:En}:zg ixT (vE 0) (cE (.int 1)) (.vl (.tup (a :: b :: r)) :: ρ)= .ok b:=by
 rw [zt,v0,bOk,jg,bOk,at1]
theorem K4 {a b c:T} {r:List T} {ρ:En}:zg ixT (vE 0) (cE (.int 2)) (.vl (.tup (a :: b :: c :: r)) :: ρ)= .ok c:=by
 rw [zt,v0,bOk,jg,bOk,at2]
theorem Ko {a b c d:T} {r:List T} {ρ:En}:zg ixT (vE 0) (cE (.int 3)) (.vl (.tup (a :: b :: c :: d :: r)) :: ρ)= .ok d:=by
 rw [zt,v0,bOk,jg,bOk,at3]
theorem V5 {f:En->R T} {ρ:En} {i:Int} (h:f ρ= .ok (.int i)):zg zF f (cE (.int 1)) ρ= .ok (.int (i+1)):=by
 rw [zt,h,bOk,jg,bOk,ZI]
theorem UO {f g:En->R T} {ρ:En} {i j:Int} (hf:f ρ= .ok (.int i)) (hg:g ρ= .ok (.int j)) (h: -1000000 < i/\i < 1000000/\ -1000000 < j/\j < 1000000):wS f g ρ= .ok (rng i (j - i).toNat):=by
 unfold wS
 rw [hf,bOk,hg,bOk]
 exact if_pos h
theorem V6:∀ (cs:List (Str×Int)) (x y:Sl),Z6 (jk 0 1) j8 (vE 0) (cs.map Wf) [x,y]= .ok (cs.map fun c=>T.str c.1)
 | [],_,_=>rfl
 | c :: cs,x,y=>by
  have e:Z6 (jk 0 1) j8 (vE 0) ((c :: cs).map Wf) [x,y]=(Z6 (jk 0 1) j8 (vE 0) (cs.map Wf) [.vl (.str c.1), .vl (.int c.2)]).bind fun vs=> .ok (.str c.1 :: vs):=rfl
  rw [e,V6 cs]; rfl
theorem yO {x:T} {m:Nat} (h:m<=3):Zq (.lst [x]) (.int (m:Int))= .ok (.lst (List.replicate m [x]).flatten):=by
 unfold Zq
 dsimp only
 have c:0<=(m:Int)/\(m:Int) < 1000000/\[x].length*(m:Int).toNat<=bnd:=by
  have hb:3<=bnd:=by decide
  refine ⟨by omega,by omega, ?_⟩
  rw [List.length_singleton,Int.toNat_natCast,Nat.one_mul]
  exact Nat.le_trans h hb
 rw [if_pos c,Int.toNat_natCast]
theorem wq {α:Type} (x:α):∀ m:Nat,(List.replicate m [x]).flatten=List.replicate m x
 | 0=>rfl
 | m+1=>by rw [List.replicate_succ,List.replicate_succ,List.flatten_cons,wq x m]; rfl
noncomputable abbrev U2 (ca cr:List T->R T):En->RS:=Km 1 (zc 1 cr (z9 (zg Zq (Wr (z9 (zc 1 ca (z9 (zg ixT (vE 0) (cE (.int 1))) (zh))) (zh))) (vE 2)) (zh)))
theorem G6 {f:En->R T} {ρ:En} {x:T} (hf:f ρ= .ok x):Wr (z9 f zh) ρ= .ok (.lst [x]):=by
 unfold Wr z9 zh
 rw [hf]; rfl
theorem yP {ca:List T->R T} {k:Kd} {t:T} {lo:Nat} {ws:List T} (hw:ca [t]= .ok (.lst ws)) (hpos:1<=ws.length) {a b c:T}:∀ (js:List Nat) (acc:List T) (x:Sl),(∀ j∈js,lo+j<=3)->acc.length+(js.map fun j=>ws.length ^ (lo+j)).sum<=bnd->
  ∃ y,jq (zP 2) (U2 ca zf) (js.map fun (j:Nat)=>T.int ((lo:Int)+(j:Int))) [.vl (.tup [a,t,b,c]), .ow acc,x]= .nx [.vl (.tup [a,t,b,c]), .ow (acc++js.flatMap fun j=>yL (List.replicate (lo+j) ws)),y]
 | [],acc,x,_,_=>⟨x,by simp [jq]⟩
 | j :: js,acc,x,hj,hb=>by
  have hj1:=hj j List.mem_cons_self
  have hb1:bnd=16777216:=rfl
  rw [List.map_cons,List.sum_cons] at hb
  have er:zf [.lst ((List.replicate (lo+j) ws).map T.lst)]= .ok (.lst (yL (List.replicate (lo+j) ws))):=V3 _ (by rw [List.length_replicate]; omega) (fun l hl=>by rw [List.eq_of_mem_replicate hl]; exact hpos) (by rw [List.map_replicate,JP]; omega)
  have hlen:(yL (List.replicate (lo+j) ws)).length=ws.length ^ (lo+j):=by rw [u7,List.map_replicate,JP]
  have em:Zq (.lst [.lst ws]) (.int ((lo:Int)+(j:Int)))= .ok (.lst ((List.replicate (lo+j) ws).map T.lst)):=by
   have e1:(lo:Int)+(j:Int)=((lo+j:Nat):Int):=by omega
   rw [e1,yO (by omega),wq,List.map_replicate]
  have eb:U2 ca zf [.vl (.tup [a,t,b,c]), .ow acc, .vl (.int ((lo:Int)+(j:Int)))]= .nx [.vl (.tup [a,t,b,c]), .ow (acc++yL (List.replicate (lo+j) ws)), .vl (.int ((lo:Int)+(j:Int)))]:=by
   have e1:zc 1 zf (z9 (zg Zq (Wr (z9 (zc 1 ca (z9 (zg ixT (vE 0) (cE (.int 1))) (zh))) (zh))) (vE 2)) (zh)) [.vl (.tup [a,t,b,c]), .ow acc, .vl (.int ((lo:Int)+(j:Int)))]= .ok (.lst (yL (List.replicate (lo+j) ws))):=by
    have e0:zc 1 ca (z9 (zg ixT (vE 0) (cE (.int 1))) (zh)) [.vl (.tup [a,t,b,c]), .ow acc, .vl (.int ((lo:Int)+(j:Int)))]= .ok (.lst ws):=by
     rw [ZV,Yk,bOk,hw]
    rw [ZV,zt,G6 e0,bOk,v2,bOk,em,bOk,er]
   show ((zc 1 zf _ _).s fun t=>match t with | .lst us=>if acc.length+us.length<=bnd then RS.nx _ else .bad | _=> .bad)=_
   rw [e1,jA]
   show (if _ then _ else _)=_
   rw [if_pos (by rw [hlen]; omega)]
   rfl
  obtain ⟨y,ih⟩:=yP (k:=k) hw hpos (a:=a) (b:=b) (c:=c) js (acc++yL (List.replicate (lo+j) ws)) (.vl (.int ((lo:Int)+(j:Int)))) (fun i hi=>hj i (List.mem_cons_of_mem _ hi)) (by rw [List.length_append,hlen]; omega)
  refine ⟨y, ?_⟩
  have e:jq (zP 2) (U2 ca zf) ((j :: js).map fun (j:Nat)=>T.int ((lo:Int)+(j:Int))) [.vl (.tup [a,t,b,c]), .ow acc,x]=match U2 ca zf [.vl (.tup [a,t,b,c]), .ow acc, .vl (.int ((lo:Int)+(j:Int)))] with
   | .nx ρ2=>jq (zP 2) (U2 ca zf) (js.map fun (j:Nat)=>T.int ((lo:Int)+(j:Int))) ρ2
   | .ct ρ2=>jq (zP 2) (U2 ca zf) (js.map fun (j:Nat)=>T.int ((lo:Int)+(j:Int))) ρ2
   | .bk ρ2=> .nx ρ2
   | r=>r:=rfl
  rw [e,eb]
  dsimp only
  rw [ih,List.flatMap_cons,List.append_assoc]
theorem xN {ca:List T->R T} {a t:T} {lo hi:Nat} (h1:lo<=hi) (h2:hi<=3) {x:Sl} {acc:List T} {r:RS}
  (el:jq (zP 2) (U2 ca zf) ((List.range (hi+1 - lo)).map fun (j:Nat)=>T.int ((lo:Int)+(j:Int))) [.vl (.tup [a,t, .int (lo:Int), .int (hi:Int)]), .ow acc,x]=r):
  wP (wS (zg ixT (vE 0) (cE (.int 2))) (zg zF (zg ixT (vE 0) (cE (.int 3))) (cE (.int 1)))) (zP 2) (U2 ca zf) [.vl (.tup [a,t, .int (lo:Int), .int (hi:Int)]), .ow acc,x]=r:=by
 have hn:((hi:Int)+1 - (lo:Int)).toNat=hi+1 - lo:=by omega
 have hc: -1000000 < (lo:Int)/\(lo:Int) < 1000000/\ -1000000 < (hi:Int)+1/\(hi:Int)+1 < 1000000:=by omega
 have e:wP (wS (zg ixT (vE 0) (cE (.int 2))) (zg zF (zg ixT (vE 0) (cE (.int 3))) (cE (.int 1)))) (zP 2) (U2 ca zf) [.vl (.tup [a,t, .int (lo:Int), .int (hi:Int)]), .ow acc,x]=(wS (zg ixT (vE 0) (cE (.int 2))) (zg zF (zg ixT (vE 0) (cE (.int 3))) (cE (.int 1))) [.vl (.tup [a,t, .int (lo:Int), .int (hi:Int)]), .ow acc,x]).s fun ts=>jq (zP 2) (U2 ca zf) ts [.vl (.tup [a,t, .int (lo:Int), .int (hi:Int)]), .ow acc,x]:=rfl
 rw [e,UO K4 (V5 Ko) hc,jA,hn]
 exact el
theorem G7 {n L lo hi:Nat} (e:L=pw n lo hi) (h:L<=1000000):([]:List T).length+((List.range (hi+1 - lo)).map fun j=>n ^ (lo+j)).sum<=bnd:=by
 have h' :pw n lo hi<=bnd:=Nat.le_trans (e ▸ h) (by decide)
 unfold pw at h'
 rw [List.length_nil,Nat.zero_add]
 exact h'
theorem V7 {ca:List T->R T} (d:Nat) (lo hi:Int) (h:(Kd.whole lo hi).Ok (d+1)) (hl:(Kd.whole lo hi).all.length<=1000000) (H:∀ k' :Kd,k'.Ok d->ca [k'.t]= .ok (.lst k'.all)):zp (zA ca zf (en0 3 [(Kd.whole lo hi).t]))= .ok (.lst (Kd.whole lo hi).all):=by
 have hb1:bnd=16777216:=rfl
 have e:zp (zA ca zf (en0 3 [(Kd.whole lo hi).t]))=zp (zA ca zf [.vl (Kd.whole lo hi).t, .un, .un]):=rfl
 rw [e,zA,Zy,Jy]
 obtain ⟨h1,h2,h3⟩:=h
 simp only [Kd.t]
 rw [cs0,jA,show (("whole":Str) == "whole")=true from rfl,if_pos rfl,jl,w4,U1,U1,wv]
 unfold Gr
 rw [UO Yk (V5 K4) ⟨by omega,by omega,by omega,by omega⟩]
 rw [Kd.all]
 rfl
theorem xO {ca:List T->R T} (d:Nat) (cs:List (Str×Int)) (h:(Kd.pick cs).Ok (d+1)) (hl:(Kd.pick cs).all.length<=1000000) (H:∀ k' :Kd,k'.Ok d->ca [k'.t]= .ok (.lst k'.all)):zp (zA ca zf (en0 3 [(Kd.pick cs).t]))= .ok (.lst (Kd.pick cs).all):=by
 have hb1:bnd=16777216:=rfl
 have e:zp (zA ca zf (en0 3 [(Kd.pick cs).t]))=zp (zA ca zf [.vl (Kd.pick cs).t, .un, .un]):=rfl
 rw [e,zA,Zy,Jy]
 simp only [Kd.t]
 rw [cs0,jA,show (("pick":Str) == "whole")=false from rfl,if_neg Bool.false_ne_true,Uj]
 dsimp only
 rw [Zy,Jy,cs0,jA,show (("pick":Str) == "pick")=true from rfl,if_pos rfl,jl,w4,U1,U1,wv,jh,Wy,Yk,bOk]
 have hc:cs.length<=4:=h.2.1
 have ec:Zc (jk 0 1) j8 (vE 0) 2 [] [.vl (.tup [.str "pick", .tup (cs.map Wf)]), .un, .un] (cs.map Wf)= .ok (cs.map fun c=>T.str c.1):=by
  unfold Zc
  rw [if_pos (by rw [List.length_map]; omega)]
  show quiet (Z6 (jk 0 1) j8 (vE 0) (cs.map Wf) [.un, .un])=_
  rw [V6]; rfl
 show zp (match ((((R.ok (cs.map Wf)).bind fun ts=>(Zc (jk 0 1) j8 (vE 0) 2 [] [.vl (.tup [.str "pick", .tup (cs.map Wf)]), .un, .un] ts).bind fun vs=> .ok (.lst vs))).s fun t=> .rt t) with | .nx ρ' =>_ | r=>r)=_
 rw [bOk,ec]
 rw [Kd.all]
 rfl
theorem K5 {ca:List T->R T} (d:Nat) (ks:List Kd) (h:(Kd.row ks).Ok (d+1)) (hl:(Kd.row ks).all.length<=1000000) (H:∀ k' :Kd,k'.Ok d->ca [k'.t]= .ok (.lst k'.all)):zp (zA ca zf (en0 3 [(Kd.row ks).t]))= .ok (.lst (Kd.row ks).all):=by
 have hb1:bnd=16777216:=rfl
 have e:zp (zA ca zf (en0 3 [(Kd.row ks).t]))=zp (zA ca zf [.vl (Kd.row ks).t, .un, .un]):=rfl
 rw [e,zA,Zy,Jy]
 obtain ⟨h1,h2,h3⟩:=h
 simp only [Kd.t]
 rw [cs0,jA,show (("row":Str) == "whole")=false from rfl,if_neg Bool.false_ne_true,Uj]
 dsimp only
 rw [Zy,Jy,cs0,jA,show (("row":Str) == "pick")=false from rfl,if_neg Bool.false_ne_true,Uj]
 dsimp only
 rw [Zy,Jy,cs0,jA,show (("row":Str) == "row")=true from rfl,if_pos rfl,jl,w4,U1,U1,wv,ZV,jh,Wy,Yk,bOk,Kd.ts_map]
 have ec:Zc (zP 0) j8 (zc 1 ca (z9 (vE 0) (zh))) 1 [] [.vl (.tup [.str "row", .tup (ks.map Kd.t)]), .un, .un] (ks.map Kd.t)= .ok ((ks.map Kd.all).map T.lst):=by
  unfold Zc
  rw [if_pos (by rw [List.length_map]; omega)]
  show quiet (Z6 (zP 0) j8 _ (ks.map Kd.t) [.un])=_
  have:∀ (ks:List Kd) (x:Sl),(∀ k∈ks,k.Ok d)->Z6 (zP 0) j8 (zc 1 ca (z9 (vE 0) (zh))) (ks.map Kd.t) [x]= .ok ((ks.map Kd.all).map T.lst):=by
   intro ks
   induction ks with
   | nil=>intro _ _; rfl
   | cons k ks ih=>
    intro x hk
    have e1:Z6 (zP 0) j8 (zc 1 ca (z9 (vE 0) (zh))) ((k :: ks).map Kd.t) [x]=(zc 1 ca (z9 (vE 0) (zh)) [.vl k.t]).bind fun v=>(Z6 (zP 0) j8 (zc 1 ca (z9 (vE 0) (zh))) (ks.map Kd.t) [.vl k.t]).bind fun vs=> .ok (v :: vs):=rfl
    rw [e1,ZV,v0,bOk,H k (hk k List.mem_cons_self),bOk,ih _ fun k' hk' =>hk k' (List.mem_cons_of_mem _ hk')]
    rfl
  rw [this ks .un h3]; rfl
 have hrow:=Wg ks
 have er:zf [.lst ((ks.map Kd.all).map T.lst)]= .ok (.lst (yL (ks.map Kd.all))):=V3 _ (by rw [List.length_map]; omega) (fun l hl=>by
  obtain ⟨k,hk,rfl⟩:=List.mem_map.mp hl
  exact j3 d k (h3 k hk)) (by
  rw [List.map_map]
  show prd (ks.map fun k=>k.all.length)<=bnd
  omega)
 show zp (match ((((R.ok (ks.map Kd.t)).bind fun ts=>(Zc (zP 0) j8 (zc 1 ca (z9 (vE 0) (zh))) 1 [] [.vl (.tup [.str "row", .tup (ks.map Kd.t)]), .un, .un] ts).bind fun vs=> .ok (.lst vs)).bind fun x=>zf [x]).s fun t=> .rt t) with | .nx ρ' =>_ | r=>r)=_
 rw [bOk,ec,bOk,bOk,er,Kd.all,Kd.alls_map]
 rfl
theorem xP {ca:List T->R T} (d:Nat) (k:Kd) (lo hi:Nat) (h:(Kd.many k lo hi).Ok (d+1)) (hl:(Kd.many k lo hi).all.length<=1000000) (H:∀ k' :Kd,k'.Ok d->ca [k'.t]= .ok (.lst k'.all)):zp (zA ca zf (en0 3 [(Kd.many k lo hi).t]))= .ok (.lst (Kd.many k lo hi).all):=by
 have hb1:bnd=16777216:=rfl
 have e:zp (zA ca zf (en0 3 [(Kd.many k lo hi).t]))=zp (zA ca zf [.vl (Kd.many k lo hi).t, .un, .un]):=rfl
 rw [e,zA,Zy,Jy]
 obtain ⟨h1,h2,h3⟩:=h
 have hml:=Je k lo hi
 simp only [Kd.t]
 rw [cs0,jA,show (("many":Str) == "whole")=false from rfl,if_neg Bool.false_ne_true,Uj]
 dsimp only
 rw [Zy,Jy,cs0,jA,show (("many":Str) == "pick")=false from rfl,if_neg Bool.false_ne_true,Uj]
 dsimp only
 rw [Zy,Jy,cs0,jA,show (("many":Str) == "row")=false from rfl,if_neg Bool.false_ne_true,Uj]
 dsimp only
 have e0:VN 1 (zh) [.vl (.tup [.str "many",k.t, .int (lo:Int), .int (hi:Int)]), .un, .un]= .nx [.vl (.tup [.str "many",k.t, .int (lo:Int), .int (hi:Int)]), .ow [], .un]:=rfl
 rw [Zy,e0]
 dsimp only
 obtain ⟨y,el⟩:=yP (k:=k) (lo:=lo) (H k h3) (j3 d k h3) (a:= .str "many") (b:= .int (lo:Int)) (c:= .int (hi:Int)) (List.range (hi+1 - lo)) [] .un (fun j hj=>by have:=List.mem_range.mp hj; omega) (G7 hml hl)
 have e1:=xN (ca:=ca) (t:=k.t) h1 h2 el
 rw [List.nil_append] at e1
 rw [zl e1,Kd.all]
 rfl
theorem xQ {ca:List T->R T} (d:Nat) (k:Kd) (h:k.Ok (d+1)) (hl:k.all.length<=1000000) (H:∀ k' :Kd,k'.Ok d->ca [k'.t]= .ok (.lst k'.all)):zp (zA ca zf (en0 3 [k.t]))= .ok (.lst k.all):=by
 cases k with
 | whole lo hi=>exact V7 d lo hi h hl H
 | pick cs=>exact xO d cs h hl H
 | row ks=>exact K5 d ks h hl H
 | many k lo hi=>exact xP d k lo hi h hl H
theorem V8:∀ (d n:Nat),d<=n->d<=3->∀ k:Kd,k.Ok d->k.all.length<=1000000->jP n 0 [k.t]= .ok (.lst k.all)
 | 0,_,_,_,_,h,_=>h.elim
 | d+1,0,hn,_,_,_,_=>by omega
 | d+1,n+1,hn,hd,k,h,hl=>by
  have e:jP (n+1) 0 [k.t]=zp (zA (jP n 0) zf (en0 3 [k.t])):=rfl
  rw [e]
  refine xQ d k h hl fun k' hk' =>V8 d n (by omega) (by omega) k' hk' ?_
  have h1:=w8 d k' hk'
  have:mx d<=1000000:=by
   have:d=0\/d=1\/d=2:=by omega
   rcases this with rfl | rfl | rfl <;> decide
  omega
end G
namespace G
open PySem L2 PV
theorem in2 {x a b:Str} {r:List T} {ρ:En}:Zp inC (zg ixT (vE 0) (cE (.int 0))) (wk (z9 (cE (.str a)) (z9 (cE (.str b)) (zh)))) (.vl (.tup (.str x :: r)) :: ρ)=inC (.str x) (.tup [.str a, .str b]):=by
 rw [Zg,zt,v0,bOk,jg,bOk,at0,bOk,Kn jg jg,bOk]
theorem xR {g:En->R Bool} {f1 f2:En->RS} {ρ:En} (h:g ρ= .ok true):ifS g f1 f2 ρ=f1 ρ:=by rw [Jy,h,jA,if_pos rfl]
theorem if_f {g:En->R Bool} {f1 f2:En->RS} {ρ:En} (h:g ρ= .ok false):ifS g f1 f2 ρ=f2 ρ:=by rw [Jy,h,jA,if_neg Bool.false_ne_true]
theorem JB {g:En->R Bool} {f1:En->RS} {ρ:En} (h:g ρ= .ok false):ifS g f1 nxS ρ= .nx ρ:=by rw [if_f h]; rfl
theorem ZW {i:Nat} {f:En->R T} {ρ:En} {t:T} (h:f ρ= .ok t):ZC i f ρ= .nx (ρ.set i (.vl t)):=by rw [Wx,h,jA]
theorem zX {f:En->R T} {ρ:En} {t:T} (h:f (frz ρ)= .ok t):Zb f ρ= .rt t:=by rw [jl,h,jA]
theorem ur {g:T->En->R En} {fb:En->RS} {t:T} {ts:List T} {ρ ρ1 ρ2:En} (hg:g t ρ= .ok ρ1) (hb:fb ρ1= .nx ρ2):jq g fb (t :: ts) ρ=jq g fb ts ρ2:=by
 rw [jq,hg]
 dsimp only
 rw [hb]
theorem jJ {f g:En->RS} {ρ:En} {t:T} (h:f ρ= .rt t):zL f g ρ= .rt t:=by rw [Zy,h]
theorem yQ {i j:Nat} (h:i < 2 ^ 60):Zq (.int (i:Int)) (.int (j:Int))= .ok (.int ((i*j:Nat):Int)):=by
 rw [xM _ _ (.inl ⟨by omega,by omega⟩),Int.natCast_mul]
theorem K6 {d n:Nat} (h:n<=mx d) (hd:d<=3):n < 2 ^ 60:=by
 have:d=0\/d=1\/d=2\/d=3:=by omega
 have h3:mx 3 < 2 ^ 60:=by decide
 have h2:mx 2 < 2 ^ 60:=by decide
 have h1:mx 1 < 2 ^ 60:=by decide
 have h0:mx 0 < 2 ^ 60:=by decide
 rcases this with rfl | rfl | rfl | rfl <;> omega
theorem qx {a b:Sl}:∀ (ns:List Nat) (m:Nat) (x y:Sl),(∀ n∈ns,1<=n)->m*prd ns < 2 ^ 60->∃ x',jq (zP 3) (ZC 2 (zg Zq (vE 2) (vE 3))) (ns.map fun (n:Nat)=>T.int (n:Int)) [a,b, .vl (.int (m:Int)),x,y]= .nx [a,b, .vl (.int ((m*prd ns:Nat):Int)),x',y]
 | [],m,x,y,_,_=>⟨x,by simp [jq,prd]⟩
 | n :: ns,m,x,y,hp,hb=>by
  have hpr:=uo (ns:=ns) fun k hk=>hp k (List.mem_cons_of_mem _ hk)
  have hn:=hp n List.mem_cons_self
  have hmm:m<=m*prd (n :: ns):=Nat.le_mul_of_pos_right _ (Nat.mul_pos hn hpr)
  have hb2:m < 2 ^ 60:=Nat.lt_of_le_of_lt hmm hb
  rw [prd,← Nat.mul_assoc] at hb
  obtain ⟨x',ih⟩:=qx (a:=a) (b:=b) ns (m*n) (.vl (.int (n:Int))) y (fun k hk=>hp k (List.mem_cons_of_mem _ hk)) hb
  refine ⟨x', ?_⟩
  have es:ZC 2 (zg Zq (vE 2) (vE 3)) [a,b, .vl (.int (m:Int)), .vl (.int (n:Int)),y]= .nx [a,b, .vl (.int ((m*n:Nat):Int)), .vl (.int (n:Int)),y]:=by
   rw [Wx,zt,v2,bOk,v3,bOk,yQ hb2,jA]; rfl
  have s3:zP 3 (T.int (n:Int)) [a,b, .vl (.int (m:Int)),x,y]= .ok [a,b, .vl (.int (m:Int)), .vl (.int (n:Int)),y]:=rfl
  rw [List.map_cons,ur s3 es,prd,← Nat.mul_assoc]
  exact ih
theorem xS:∀ (d:Nat) (lo hi:Int),(Kd.whole lo hi).Ok (d+1)->(Kd.whole lo hi).Ok 1
 | _,_,_,h=>h
theorem xT:∀ (d:Nat) (cs:List (Str×Int)),(Kd.pick cs).Ok (d+1)->(Kd.pick cs).Ok 1
 | _,_,h=>h
theorem yR {cs:List T->R T} (k:Kd) (h:k.Ok 1) {x:Str} {r:List T} (ht:k.t= .tup (.str x :: r)) (hx:inC (.str x) (.tup [.str "whole", .str "pick"])= .ok true):zp (zE (zB 8) cs (en0 5 [k.t]))= .ok (.int (k.all.length:Int)):=by
 have ha:zB 8 [k.t]= .ok (.lst k.all):=V8 1 8 (by omega) (by omega) k h (Nat.le_trans (w8 1 k h) (by decide))
 have e:zp (zE (zB 8) cs (en0 5 [k.t]))=zp (zE (zB 8) cs [.vl k.t, .un, .un, .un, .un]):=rfl
 have e1:Zp inC (zg ixT (vE 0) (cE (.int 0))) (wk (z9 (cE (.str "whole")) (z9 (cE (.str "pick")) (zh)))) [.vl k.t, .un, .un, .un, .un]= .ok true:=by
  rw [ht,in2,hx]
 have e2:Zb (ap1 JF (zc 1 (zB 8) (z9 (vE 0) (zh)))) [.vl k.t, .un, .un, .un, .un]= .rt (.int (k.all.length:Int)):=by
  refine zX ?_
  rw [w4,WQ,ZV,v0,bOk,ha,bOk,gS]
 rw [e,zE,jJ (by rw [xR e1,e2])]
 rfl
theorem z0k (b:Bool):b2 b=(iv b:Int):=by cases b <;> rfl
theorem xU {cs:List T->R T} {d:Nat} (hd:d+1<=3) (ks:List Kd) (h:(Kd.row ks).Ok (d+1)) (H:∀ k:Kd,k.Ok d->cs [k.t]= .ok (.int (k.all.length:Int))):zp (zE (zB 8) cs (en0 5 [(Kd.row ks).t]))= .ok (.int ((Kd.row ks).all.length:Int)):=by
 have hlt:=K6 (w8 (d+1) (.row ks) h) hd
 rw [Wg] at hlt ⊢
 obtain ⟨h1,h2,h3⟩:=h
 simp only [Kd.t,Kd.ts_map]
 have e:zp (zE (zB 8) cs (en0 5 [.tup [.str "row", .tup (ks.map Kd.t)]]))=zp (zE (zB 8) cs [.vl (.tup [.str "row", .tup (ks.map Kd.t)]), .un, .un, .un, .un]):=rfl
 have e1:Zp inC (zg ixT (vE 0) (cE (.int 0))) (wk (z9 (cE (.str "whole")) (z9 (cE (.str "pick")) (zh)))) [.vl (.tup [.str "row", .tup (ks.map Kd.t)]), .un, .un, .un, .un]= .ok false:=by
  rw [in2]; rfl
 have ec:Zc (zP 0) j8 (zc 1 cs (z9 (vE 0) (zh))) 1 [] [.vl (.tup [.str "row", .tup (ks.map Kd.t)]), .un, .un, .un, .un] (ks.map Kd.t)= .ok ((ks.map fun k=>k.all.length).map fun (n:Nat)=>T.int (n:Int)):=by
  unfold Zc
  rw [if_pos (by rw [List.length_map]; exact Nat.le_trans h2 (by decide))]
  have:∀ (ks:List Kd) (x:Sl),(∀ k∈ks,k.Ok d)->Z6 (zP 0) j8 (zc 1 cs (z9 (vE 0) (zh))) (ks.map Kd.t) [x]= .ok ((ks.map fun k=>k.all.length).map fun (n:Nat)=>T.int (n:Int)):=by
   intro ks
   induction ks with
   | nil=>intro _ _; rfl
   | cons k ks ih=>
    intro x hk
    have e1:Z6 (zP 0) j8 (zc 1 cs (z9 (vE 0) (zh))) ((k :: ks).map Kd.t) [x]=(zc 1 cs (z9 (vE 0) (zh)) [.vl k.t]).bind fun v=>(Z6 (zP 0) j8 (zc 1 cs (z9 (vE 0) (zh))) (ks.map Kd.t) [.vl k.t]).bind fun vs=> .ok (v :: vs):=rfl
    rw [e1,ZV,v0,bOk,H k (hk k List.mem_cons_self),bOk,ih _ fun k' hk' =>hk k' (List.mem_cons_of_mem _ hk')]
    rfl
  show quiet (Z6 (zP 0) j8 _ (ks.map Kd.t) [.un])=_
  rw [this ks .un h3]; rfl
 have e2:ifE (Zp eqC (zg ixT (vE 0) (cE (.int 0))) (cE (.str "row"))) (jw (WN (zg ixT (vE 0) (cE (.int 1)))) (zP 0) (j8) (zc 1 cs (z9 (vE 0) (zh))) 1 []) (Wr (zh)) [.vl (.tup [.str "row", .tup (ks.map Kd.t)]), .un, .un, .un, .un]= .ok (.lst ((ks.map fun k=>k.all.length).map fun (n:Nat)=>T.int (n:Int))):=by
  unfold ifE
  rw [cs0,bOk,show (("row":Str) == "row")=true from rfl,if_pos rfl,jh,Wy,Yk,bOk]
  show ((R.ok (ks.map Kd.t)).bind _)=_
  rw [bOk,ec,bOk]
 obtain ⟨x',el⟩:=qx (a:= .vl (.tup [.str "row", .tup (ks.map Kd.t)])) (b:= .vl (.lst ((ks.map fun k=>k.all.length).map fun (n:Nat)=>T.int (n:Int)))) (ks.map fun k=>k.all.length) 1 .un .un (fun n hn=>by
  obtain ⟨k,hk,rfl⟩:=List.mem_map.mp hn
  exact j3 d k (h3 k hk)) (by rw [Nat.one_mul]; exact hlt)
 rw [Nat.one_mul] at el
 have e3:wP (WN (vE 1)) (zP 3) (ZC 2 (zg Zq (vE 2) (vE 3))) [.vl (.tup [.str "row", .tup (ks.map Kd.t)]), .vl (.lst ((ks.map fun k=>k.all.length).map fun (n:Nat)=>T.int (n:Int))), .vl (.int 1), .un, .un]=_:=el
 have e4:Zp eqC (zg ixT (vE 0) (cE (.int 0))) (cE (.str "many")) [.vl (.tup [.str "row", .tup (ks.map Kd.t)]), .vl (.lst ((ks.map fun k=>k.all.length).map fun (n:Nat)=>T.int (n:Int))), .vl (.int ((prd (ks.map fun k=>k.all.length):Nat):Int)),x', .un]= .ok false:=by
  rw [cs0]; rfl
 rw [e,zE,zl (JB e1),zl (ZW e2)]
 have s1:([.vl (.tup [.str "row", .tup (ks.map Kd.t)]), .un, .un, .un, .un]:En).set 1 (.vl (.lst ((ks.map fun k=>k.all.length).map fun (n:Nat)=>T.int (n:Int))))=[.vl (.tup [.str "row", .tup (ks.map Kd.t)]), .vl (.lst ((ks.map fun k=>k.all.length).map fun (n:Nat)=>T.int (n:Int))), .un, .un, .un]:=rfl
 rw [s1,zl (ZW jg)]
 have s2:([.vl (.tup [.str "row", .tup (ks.map Kd.t)]), .vl (.lst ((ks.map fun k=>k.all.length).map fun (n:Nat)=>T.int (n:Int))), .un, .un, .un]:En).set 2 (.vl (.int 1))=[.vl (.tup [.str "row", .tup (ks.map Kd.t)]), .vl (.lst ((ks.map fun k=>k.all.length).map fun (n:Nat)=>T.int (n:Int))), .vl (.int 1), .un, .un]:=rfl
 rw [s2,zl e3,zl (JB e4)]
 rfl
end G
namespace G
open PySem L2 PV
theorem G8 {f g:En->R T} {ρ:En} {i j c:Int} (hf:f ρ= .ok (.int i)) (hg:g ρ= .ok (.int j)):chE leC leC f (cE (.int c)) g ρ= .ok (.bl (decide (i<=c) && decide (c<=j))):=by
 rw [kY,hf,bOk,jg,bOk,vX,bOk,hg]
 cases decide (i<=c) <;> rfl
theorem Uk (a b:Nat):decide ((a:Int)<=(b:Int))=decide (a<=b):=by
 by_cases h:a<=b
 ·rw [decide_eq_true h]; exact decide_eq_true (by omega)
 ·rw [decide_eq_false h]; exact decide_eq_false (by omega)
theorem Xy (a b:Nat):((a:Int) == (b:Int))=(a == b):=by
 by_cases h:a=b
 ·subst h; simp
 ·rw [beq_eq_false_iff_ne.mpr h,beq_eq_false_iff_ne]; omega
theorem Gz {f:En->R T} {ρ:En} {b:Bool} (h:f ρ= .ok (.bl b)):ap1 yf f ρ= .ok (.int ((iv b:Nat):Int)):=by
 rw [WQ,h,bOk]
 show R.ok (T.int (b2 b))=_
 rw [z0k]
theorem V9 {f g:En->R T} {ρ:En} {i j:Nat} (hf:f ρ= .ok (.int (i:Int))) (hg:g ρ= .ok (.int (j:Int))):zg zF f g ρ= .ok (.int ((i+j:Nat):Int)):=by
 rw [zt,hf,bOk,hg,bOk,ZI,Int.natCast_add]
theorem Wh {f g:En->R T} {ρ:En} {i j:Nat} (h:i < 2 ^ 60) (hf:f ρ= .ok (.int (i:Int))) (hg:g ρ= .ok (.int (j:Int))):zg Zq f g ρ= .ok (.int ((i*j:Nat):Int)):=by
 rw [zt,hf,bOk,hg,bOk,yQ h]
theorem K7 {d n:Nat} (h:n<=mx d) (hd:d+1<=3) (h0:1<=d):n*n*n < 2 ^ 60/\n*n < 2 ^ 60/\n < 2 ^ 60:=by
 have h1:n<=70644:=by
  have:d=1\/d=2:=by omega
  have h2:mx 2=70644:=by decide
  have h1:mx 1=41:=by decide
  rcases this with rfl | rfl <;> omega
 have h2:n*n<=70644*70644:=Nat.mul_le_mul h1 h1
 have h3:n*n*n<=70644*70644*70644:=Nat.mul_le_mul h2 h1
 have h4:70644*70644*70644 < 2 ^ 60:=by decide
 have h5:70644*70644 < 2 ^ 60:=by decide
 have h6:70644 < 2 ^ 60:=by decide
 exact ⟨Nat.lt_of_le_of_lt h3 h4,Nat.lt_of_le_of_lt h2 h5,Nat.lt_of_le_of_lt h1 h6⟩
noncomputable abbrev mt (t:T) (lo hi:Nat):T:= .tup [.str "many",t, .int (lo:Int), .int (hi:Int)]
theorem v4' {t:T} {a b c d:Sl} {ρ:En}:vE 4 (a :: b :: c :: d :: .vl t :: ρ)= .ok t:=rfl
theorem Va {t:T} {a x:Sl} {lo hi n:Nat} (h3:n*n*n < 2 ^ 60) (h2:n*n < 2 ^ 60) (h1:n < 2 ^ 60):
  zL (ZC 2 (zg zF (ap1 yf (yd eqC (zg ixT (vE 0) (cE (.int 2))) (cE (.int 0)))) (zg Zq (vE 4) (ap1 yf (chE leC leC (zg ixT (vE 0) (cE (.int 2))) (cE (.int 1)) (zg ixT (vE 0) (cE (.int 3))))))))
  (zL (ZC 2 (zg zF (vE 2) (zg Zq (zg Zq (vE 4) (vE 4)) (ap1 yf (chE leC leC (zg ixT (vE 0) (cE (.int 2))) (cE (.int 2)) (zg ixT (vE 0) (cE (.int 3))))))))
  (ZC 2 (zg zF (vE 2) (zg Zq (zg Zq (zg Zq (vE 4) (vE 4)) (vE 4)) (ap1 yf (yd eqC (zg ixT (vE 0) (cE (.int 3))) (cE (.int 3))))))))
  [.vl (mt t lo hi),a, .vl (.int 1),x, .vl (.int (n:Int))]= .nx [.vl (mt t lo hi),a, .vl (.int ((iv (lo == 0)+n*iv (decide (lo<=1) && decide (1<=hi))+n*n*iv (decide (lo<=2) && decide (2<=hi))+n*n*n*iv (hi == 3):Nat):Int)),x, .vl (.int (n:Int))]:=by
 have le1:∀ {p q r s:Sl},ap1 yf (chE leC leC (zg ixT (vE 0) (cE (.int 2))) (cE (.int 1)) (zg ixT (vE 0) (cE (.int 3)))) [.vl (mt t lo hi),p,q,r,s]= .ok (.int ((iv (decide (lo<=1) && decide (1<=hi)):Nat):Int)):=fun {p q r s}=>Gz (by
  rw [G8 (c:=1) K4 Ko]
  rw [show decide ((lo:Int)<=1)=decide (lo<=1) from Uk lo 1,show decide ((1:Int)<=(hi:Int))=decide (1<=hi) from Uk 1 hi])
 have le2:∀ {p q r s:Sl},ap1 yf (chE leC leC (zg ixT (vE 0) (cE (.int 2))) (cE (.int 2)) (zg ixT (vE 0) (cE (.int 3)))) [.vl (mt t lo hi),p,q,r,s]= .ok (.int ((iv (decide (lo<=2) && decide (2<=hi)):Nat):Int)):=fun {p q r s}=>Gz (by
  rw [G8 (c:=2) K4 Ko]
  rw [show decide ((lo:Int)<=2)=decide (lo<=2) from Uk lo 2,show decide ((2:Int)<=(hi:Int))=decide (2<=hi) from Uk 2 hi])
 have eq0:∀ {p q r s:Sl},ap1 yf (yd eqC (zg ixT (vE 0) (cE (.int 2))) (cE (.int 0))) [.vl (mt t lo hi),p,q,r,s]= .ok (.int ((iv (lo == 0):Nat):Int)):=fun {p q r s}=>Gz (by
  rw [uk,K4,bOk,jg,bOk,eqI,bOk,show ((lo:Int) == 0)=(lo == 0) from Xy lo 0])
 have eq3:∀ {p q r s:Sl},ap1 yf (yd eqC (zg ixT (vE 0) (cE (.int 3))) (cE (.int 3))) [.vl (mt t lo hi),p,q,r,s]= .ok (.int ((iv (hi == 3):Nat):Int)):=fun {p q r s}=>Gz (by
  rw [uk,Ko,bOk,jg,bOk,eqI,bOk,show ((hi:Int) == 3)=(hi == 3) from Xy hi 3])
 have a1:=ZW (i:=2) (V9 (eq0 (p:=a) (q:= .vl (.int 1)) (r:=x) (s:= .vl (.int (n:Int)))) (Wh h1 v4' le1))
 have a1:ZC 2 (zg zF (ap1 yf (yd eqC (zg ixT (vE 0) (cE (.int 2))) (cE (.int 0)))) (zg Zq (vE 4) (ap1 yf (chE leC leC (zg ixT (vE 0) (cE (.int 2))) (cE (.int 1)) (zg ixT (vE 0) (cE (.int 3))))))) [.vl (mt t lo hi),a, .vl (.int 1),x, .vl (.int (n:Int))]= .nx [.vl (mt t lo hi),a, .vl (.int ((iv (lo == 0)+n*iv (decide (lo<=1) && decide (1<=hi)):Nat):Int)),x, .vl (.int (n:Int))]:=a1
 rw [zl a1]
 generalize iv (lo == 0)+n*iv (decide (lo<=1) && decide (1<=hi))=m1
 have a2:=ZW (i:=2) (V9 (v2 (t:= .int (m1:Int)) (a:= .vl (mt t lo hi)) (b:=a) (ρ:=[x, .vl (.int (n:Int))])) (Wh h2 (Wh h1 v4' v4') le2))
 have a2:ZC 2 (zg zF (vE 2) (zg Zq (zg Zq (vE 4) (vE 4)) (ap1 yf (chE leC leC (zg ixT (vE 0) (cE (.int 2))) (cE (.int 2)) (zg ixT (vE 0) (cE (.int 3))))))) [.vl (mt t lo hi),a, .vl (.int (m1:Int)),x, .vl (.int (n:Int))]= .nx [.vl (mt t lo hi),a, .vl (.int ((m1+n*n*iv (decide (lo<=2) && decide (2<=hi)):Nat):Int)),x, .vl (.int (n:Int))]:=a2
 rw [zl a2]
 generalize m1+n*n*iv (decide (lo<=2) && decide (2<=hi))=m2
 have a3:=ZW (i:=2) (V9 (v2 (t:= .int (m2:Int)) (a:= .vl (mt t lo hi)) (b:=a) (ρ:=[x, .vl (.int (n:Int))])) (Wh h3 (Wh h2 (Wh h1 v4' v4') v4') eq3))
 exact a3
theorem Vb {cs:List T->R T} {d:Nat} (hd:d+1<=3) (k:Kd) (lo hi:Nat) (h:(Kd.many k lo hi).Ok (d+1)) (H:∀ k:Kd,k.Ok d->cs [k.t]= .ok (.int (k.all.length:Int))):zp (zE (zB 8) cs (en0 5 [(Kd.many k lo hi).t]))= .ok (.int ((Kd.many k lo hi).all.length:Int)):=by
 obtain ⟨h1,h2,h3⟩:=h
 have hd0:1<=d:=by
  cases d with
  | zero=>exact h3.elim
  | succ d=>omega
 obtain ⟨c3,c2,c1⟩:=K7 (w8 d k h3) hd hd0
 rw [Je,K2 _ h1 h2]
 simp only [Kd.t]
 have hk:=H k h3
 generalize k.all.length=n at*
 generalize k.t=t at*
 have e:zp (zE (zB 8) cs (en0 5 [mt t lo hi]))=zp (zE (zB 8) cs [.vl (mt t lo hi), .un, .un, .un, .un]):=rfl
 have e1:Zp inC (zg ixT (vE 0) (cE (.int 0))) (wk (z9 (cE (.str "whole")) (z9 (cE (.str "pick")) (zh)))) [.vl (mt t lo hi), .un, .un, .un, .un]= .ok false:=by
  rw [in2]; rfl
 have e2:ifE (Zp eqC (zg ixT (vE 0) (cE (.int 0))) (cE (.str "row"))) (jw (WN (zg ixT (vE 0) (cE (.int 1)))) (zP 0) (j8) (zc 1 cs (z9 (vE 0) (zh))) 1 []) (Wr (zh)) [.vl (mt t lo hi), .un, .un, .un, .un]= .ok (.lst []):=by
  unfold ifE
  rw [cs0,bOk,show (("many":Str) == "row")=false from rfl,if_neg Bool.false_ne_true]
  rfl
 have s1:([.vl (mt t lo hi), .un, .un, .un, .un]:En).set 1 (.vl (.lst []))=[.vl (mt t lo hi), .vl (.lst []), .un, .un, .un]:=rfl
 have s2:([.vl (mt t lo hi), .vl (.lst []), .un, .un, .un]:En).set 2 (.vl (.int 1))=[.vl (mt t lo hi), .vl (.lst []), .vl (.int 1), .un, .un]:=rfl
 have e3:wP (WN (vE 1)) (zP 3) (ZC 2 (zg Zq (vE 2) (vE 3))) [.vl (mt t lo hi), .vl (.lst []), .vl (.int 1), .un, .un]= .nx [.vl (mt t lo hi), .vl (.lst []), .vl (.int 1), .un, .un]:=rfl
 have e4:Zp eqC (zg ixT (vE 0) (cE (.int 0))) (cE (.str "many")) [.vl (mt t lo hi), .vl (.lst []), .vl (.int 1), .un, .un]= .ok true:=by
  rw [cs0]; rfl
 have e5:zc 1 cs (z9 (zg ixT (vE 0) (cE (.int 1))) (zh)) [.vl (mt t lo hi), .vl (.lst []), .vl (.int 1), .un, .un]= .ok (.int (n:Int)):=by
  rw [ZV,Yk,bOk,hk]
 have s5:([.vl (mt t lo hi), .vl (.lst []), .vl (.int 1), .un, .un]:En).set 4 (.vl (.int (n:Int)))=[.vl (mt t lo hi), .vl (.lst []), .vl (.int 1), .un, .vl (.int (n:Int))]:=rfl
 have e6:=Va (t:=t) (a:= .vl (.lst [])) (x:= .un) (lo:=lo) (hi:=hi) c3 c2 c1
 rw [e,zE,zl (JB e1),zl (ZW e2),s1,zl (ZW jg),s2,zl e3]
 have e7:∀ (P:En->RS),ifS (Zp eqC (zg ixT (vE 0) (cE (.int 0))) (cE (.str "many"))) (zL (ZC 4 (zc 1 cs (z9 (zg ixT (vE 0) (cE (.int 1))) (zh)))) P) nxS [.vl (mt t lo hi), .vl (.lst []), .vl (.int 1), .un, .un]=P [.vl (mt t lo hi), .vl (.lst []), .vl (.int 1), .un, .vl (.int (n:Int))]:=fun P=>by
  rw [xR e4,zl (ZW e5),s5]
 rw [zl (Eq.trans (e7 _) e6)]
 rfl
theorem Vc:∀ (d n:Nat),d<=n->d<=3->∀ k:Kd,k.Ok d->j0 n 0 [k.t]= .ok (.int (k.all.length:Int))
 | 0,_,_,_,_,h=>h.elim
 | d+1,0,hn,_,_,_=>by omega
 | d+1,n+1,hn,hd,k,h=>by
  have e:j0 (n+1) 0 [k.t]=zp (zE (zB 8) (j0 n 0) (en0 5 [k.t])):=rfl
  rw [e]
  have H:∀ k:Kd,k.Ok d->j0 n 0 [k.t]= .ok (.int (k.all.length:Int)):=fun k' hk' =>Vc d n (by omega) (by omega) k' hk'
  cases k with
  | whole lo hi=>exact yR (.whole lo hi) (xS d lo hi h) (x:="whole") (r:=[.int lo, .int hi]) (by simp only [Kd.t]) rfl
  | pick cs=>exact yR (.pick cs) (xT d cs h) (x:="pick") (r:=[.tup (cs.map Wf)]) (by simp only [Kd.t]) rfl
  | row ks=>exact xU (by omega) ks h H
  | many k lo hi=>exact Vb (by omega) k lo hi h H
end G
namespace G
open PySem L2 PV
theorem Ok.mono:∀ (d:Nat) (k:Kd),k.Ok d->k.Ok (d+1)
 | 0,_,h=>h.elim
 | d+1, .whole _ _,h=>h
 | d+1, .pick _,h=>h
 | d+1, .row ks,h=>⟨h.1,h.2.1,fun k hk=>Ok.mono d k (h.2.2 k hk)⟩
 | d+1, .many k _ _,h=>⟨h.1,h.2.1,Ok.mono d k h.2.2⟩
theorem K8 (j:Int):Zq (.int 700) (.int j)= .ok (.int (700*j)):=xM _ _ (.inl ⟨by decide,by decide⟩)
theorem G9 (ns:List Int) (d:Nat) (h1:1<=d) (h8:d<=8) (k:Int) (h0:0<=k):∃ q:Kd,Zo 8 [scr ns, .int k, .int (d:Int)]= .ok q.t/\q.Ok d:=by
 obtain ⟨t,ht,hi⟩:=Yx ns d 8 h8 h1 k h0
 obtain ⟨q,rfl,hq⟩:=YA d t hi
 exact ⟨q,ht,hq⟩
noncomputable abbrev smB:En->RS:=zL (ifS (Zp leC (zc 1 (j1 8) (z9 (vE 3) (zh))) (vB 2)) (Zb (vE 3)) (nxS))
  (ZC 3 (zc 3 (Zo 8) (z9 (vE 0) (z9 (zg zF (zg zF (vE 1) (cE (.int 500))) (zg Zq (cE (.int 700)) (vE 4))) (z9 (cE (.int 2)) (zh))))))
noncomputable abbrev en5 (ns:List Int) (a:Int) (m:Nat) (k:Kd) (x:Sl):En:=[.vl (scr ns), .vl (.int a), .vl (.int (m:Int)), .vl k.t,x]
theorem Vd {ns:List Int} {a:Int} {m:Nat} {k:Kd} {x:Sl} (hk:k.Ok 3):Zp leC (zc 1 (j1 8) (z9 (vE 3) (zh))) (vB 2) (en5 ns a m k x)= .ok (decide (k.all.length<=m)):=by
 have e:j1 8 [k.t]= .ok (.int (k.all.length:Int)):=Vc 3 8 (by omega) (by omega) k hk
 rw [Zg,ZV,v3,bOk,e,bOk,w2,bOk,vX,Uk]
theorem K9 (ns:List Int) {a:Int} {m:Nat} (ha:0<=a) {k:Kd} (hk:k.Ok 3) (j:Nat):(k.all.length<=m/\smB (en5 ns a m k (.vl (.int (0+(j:Int)))))= .rt k.t)\/∃ k' :Kd,k'.Ok 3/\smB (en5 ns a m k (.vl (.int (0+(j:Int)))))= .nx (en5 ns a m k' (.vl (.int (0+(j:Int))))):=by
 by_cases h:k.all.length<=m
 ·refine .inl ⟨h, ?_⟩
  unfold smB
  refine jJ ?_
  rw [xR (by rw [Vd hk,decide_eq_true h])]
  exact zX rfl
 ·obtain ⟨q,hq,ho⟩:=G9 ns 2 (by omega) (by omega) (a+500+700*(0+(j:Int))) (by omega)
  refine .inr ⟨q,Ok.mono 2 q ho, ?_⟩
  unfold smB
  rw [zl (JB (by rw [Vd hk,decide_eq_false h]))]
  have hq:Zo 8 [scr ns, .int (a+500+700*(0+(j:Int))), .int 2]= .ok q.t:=hq
  have e:zc 3 (Zo 8) (z9 (vE 0) (z9 (zg zF (zg zF (vE 1) (cE (.int 500))) (zg Zq (cE (.int 700)) (vE 4))) (z9 (cE (.int 2)) (zh)))) (en5 ns a m k (.vl (.int (0+(j:Int)))))= .ok q.t:=by
   rw [jz,v0,bOk,zt,zt,v1,bOk,jg,bOk,ZI,bOk,zt,jg,bOk,v4,bOk,K8,bOk,ZI,bOk,jg,bOk,hq]
  rw [ZW e]
  rfl
theorem Ga {g:T->En->R En} {fb:En->RS} {t:T} {ts:List T} {ρ ρ1:En} {r:T} (hg:g t ρ= .ok ρ1) (hb:fb ρ1= .rt r):jq g fb (t :: ts) ρ= .rt r:=by
 rw [jq,hg]
 dsimp only
 rw [hb]
theorem Ve (ns:List Int) {a:Int} {m:Nat} (ha:0<=a):∀ (js:List Nat) (k:Kd) (x:Sl),k.Ok 3->(∃ k' :Kd,k'.Ok 3/\k'.all.length<=m/\jq (zP 4) smB (js.map fun (j:Nat)=>T.int (0+(j:Int))) (en5 ns a m k x)= .rt k'.t)\/
  ∃ (k' :Kd) (x' :Sl),k'.Ok 3/\jq (zP 4) smB (js.map fun (j:Nat)=>T.int (0+(j:Int))) (en5 ns a m k x)= .nx (en5 ns a m k' x')
 | [],k,x,hk=> .inr ⟨k,x,hk,rfl⟩
 | j :: js,k,x,hk=>by
  have s3:zP 4 (T.int (0+(j:Int))) (en5 ns a m k x)= .ok (en5 ns a m k (.vl (.int (0+(j:Int))))):=rfl
  rw [List.map_cons]
  rcases K9 ns ha (m:=m) hk j with ⟨h1,h2⟩ | ⟨k',h1,h2⟩
  ·exact .inl ⟨k,hk,h1,Ga s3 h2⟩
  ·rw [ur s3 h2]
   exact Ve ns ha js k' _ h1
theorem xV (ns:List Int) (a:Int) (ha:0<=a) (m:Nat) (hm:4<=m):∃ k:Kd,k.Ok 3/\k.all.length<=m/\ZE [scr ns, .int a, .int (m:Int)]= .ok k.t:=by
 obtain ⟨q,hq,ho⟩:=G9 ns 3 (by omega) (by omega) a ha
 have hq:Zo 8 [scr ns, .int a, .int 3]= .ok q.t:=hq
 have e:ZE [scr ns, .int a, .int (m:Int)]=zp (Ja (Zo 8) (j1 8) [.vl (scr ns), .vl (.int a), .vl (.int (m:Int)), .un, .un]):=rfl
 have e1:zc 3 (Zo 8) (z9 (vE 0) (z9 (vE 1) (z9 (cE (.int 3)) (zh)))) [.vl (scr ns), .vl (.int a), .vl (.int (m:Int)), .un, .un]= .ok q.t:=by
  rw [jz,v0,bOk,v1,bOk,jg,bOk,hq]
 have s1:([.vl (scr ns), .vl (.int a), .vl (.int (m:Int)), .un, .un]:En).set 3 (.vl q.t)=en5 ns a m q .un:=rfl
 rw [e,Ja,zl (ZW e1),s1]
 rcases Ve ns ha (m:=m) (List.range 3) q .un ho with ⟨k,h1,h2,h3⟩ | ⟨k,x,h1,h3⟩
 ·refine ⟨k,h1,h2, ?_⟩
  have e2:wP (J7 (cE (.int 3))) (zP 4) smB (en5 ns a m q .un)= .rt k.t:=h3
  rw [jJ e2]
  rfl
 ·have e2:wP (J7 (cE (.int 3))) (zP 4) smB (en5 ns a m q .un)= .nx (en5 ns a m k x):=h3
  rw [zl e2]
  have ec:Zp leC (zc 1 (j1 8) (z9 (vE 3) (zh))) (vB 2) (frz (en5 ns a m k x))= .ok (decide (k.all.length<=m)):=Vd (x:=Xg x) h1
  by_cases h:k.all.length<=m
  ·refine ⟨k,h1,h, ?_⟩
   rw [zX (t:=k.t)]
   ·rfl
   ·unfold ifE
    rw [ec,bOk,decide_eq_true h,if_pos rfl]
    rfl
  ·refine ⟨.whole (-1) 2,⟨by omega,by omega,by omega⟩,by rw [JA]; exact hm, ?_⟩
   rw [zX (t:=(Kd.whole (-1) 2).t)]
   ·rfl
   ·unfold ifE
    rw [ec,bOk,decide_eq_false h,if_neg Bool.false_ne_true,Kd.t]
    rfl
end G
namespace G
open PySem L2 PV
mutual
noncomputable def Kd.has:Kd->T->Bool
 | .whole lo hi=>fun t=>inR lo hi t
 | .pick cs=>fun t=>match t with | .str x=>cs.any fun c=>c.1 == x | _=>false
 | .row ks=>fun t=>match t with | .tup xs=>xs.length == ks.length && Kd.hass ks xs | _=>false
 | .many k lo hi=>fun t=>match t with | .tup xs=>decide (lo<=xs.length) && decide (xs.length<=hi) && xs.all k.has | _=>false
noncomputable def Kd.hass:List Kd->List T->Bool
 | []=>fun _=>true
 | k :: ks=>fun xs=>match xs with | []=>true | x :: xs=>k.has x && Kd.hass ks xs
end
theorem qy:∀ (ks:List Kd) (xs:List T),Kd.hass ks xs=(ks.zip xs).all fun q=>q.1.has q.2
 | [],_=>by simp [Kd.hass]
 | k :: ks,[]=>by simp [Kd.hass]
 | k :: ks,x :: xs=>by simp [Kd.hass,qy ks xs]
noncomputable def Qe:List (List T)->List T->Prop
 | [],[]=>True
 | l :: ls,x :: xs=>x∈l/\Qe ls xs
 | _,_=>False
theorem ut:∀ (ls made:List (List T)) (xs:List T),xs∈ZN made ls↔∃ a∈made,∃ b,Qe ls b/\xs=a++b
 | [],made,xs=>by
  rw [ZN]
  constructor
  ·exact fun h=>⟨xs,h,[],trivial,by simp⟩
  ·rintro ⟨a,ha,b,hb,rfl⟩
   cases b with
   | nil=>simpa using ha
   | cons=>exact hb.elim
 | l :: ls,made,xs=>by
  rw [ZN,ut ls]
  constructor
  ·rintro ⟨a',ha',b,hb,rfl⟩
   obtain ⟨a,ha,hx⟩:=List.mem_flatMap.mp ha'
   obtain ⟨x,hl,e⟩:=List.mem_map.mp hx
   exact ⟨a,ha,x :: b,⟨hl,hb⟩,by rw [← e]; simp⟩
  ·rintro ⟨a,ha,b,hb,rfl⟩
   cases b with
   | nil=>exact hb.elim
   | cons x b=>exact ⟨a++[x],List.mem_flatMap.mpr ⟨a,ha,List.mem_map.mpr ⟨x,hb.1,rfl⟩⟩,b,hb.2,by simp⟩
theorem UP (ls:List (List T)) (t:T):t∈yL ls↔∃ xs,Qe ls xs/\t= .tup xs:=by
 unfold yL
 rw [List.mem_map]
 constructor
 ·rintro ⟨xs,h,rfl⟩
  obtain ⟨a,ha,b,hb,rfl⟩:=(ut ls [[]] xs).mp h
  rw [List.mem_singleton.mp ha]
  exact ⟨b,hb,rfl⟩
 ·rintro ⟨xs,h,rfl⟩
  exact ⟨xs,(ut ls [[]] xs).mpr ⟨[],List.mem_singleton.mpr rfl,xs,h,rfl⟩,rfl⟩
theorem UQ (l:List T):∀ (m:Nat) (xs:List T),Qe (List.replicate m l) xs↔xs.length=m/\∀ x∈xs,x∈l
 | 0,[]=>by simp [Qe]
 | 0,x :: xs=>by simp [Qe]
 | m+1,[]=>by simp [Qe,List.replicate_succ]
 | m+1,x :: xs=>by
  rw [List.replicate_succ]
  show x∈l/\Qe _ xs↔_
  rw [UQ l m xs]
  simp
  constructor
  ·rintro ⟨a,b,c⟩; exact ⟨b,a,c⟩
  ·rintro ⟨a,b,c⟩; exact ⟨b,a,c⟩
theorem yS:∀ (ks:List Kd),(∀ k∈ks,∀ x,x∈k.all↔k.has x=true)->∀ xs,Qe (ks.map Kd.all) xs↔(xs.length == ks.length && Kd.hass ks xs)=true
 | [],_,[]=>by simp [Qe,Kd.hass]
 | [],_,x :: xs=>by simp [Qe]
 | k :: ks,h,[]=>by simp [Qe]
 | k :: ks,h,x :: xs=>by
  show x∈k.all/\Qe (ks.map Kd.all) xs↔_
  rw [yS ks (fun k' hk' =>h k' (List.mem_cons_of_mem _ hk')) xs,h k List.mem_cons_self x]
  simp [Kd.hass]
  constructor
  ·rintro ⟨a,b,c⟩; exact ⟨b,a,c⟩
  ·rintro ⟨a,b,c⟩; exact ⟨b,a,c⟩
mutual
theorem Jl:∀ (k:Kd) (x:T),x∈k.all↔k.has x=true
 | .whole lo hi,x=>by
  rw [Kd.all,Kd.has,List.mem_map]
  constructor
  ·rintro ⟨i,hi',rfl⟩
   rw [List.mem_range] at hi'
   simp [inR]; omega
  ·intro h
   obtain ⟨i,rfl⟩:=Yy h
   simp [inR] at h
   exact ⟨(i - lo).toNat,by rw [List.mem_range]; omega,by congr 1; omega⟩
 | .pick cs,x=>by
  rw [Kd.all,Kd.has,List.mem_map]
  constructor
  ·rintro ⟨c,hc,rfl⟩
   simp only [List.any_eq_true]
   exact ⟨c,hc,by simp⟩
  ·intro h
   dsimp only at h
   split at h
   ·rw [List.any_eq_true] at h
    obtain ⟨c,hc,e⟩:=h
    exact ⟨c,hc,by rw [eq_of_beq e]⟩
   ·cases h
 | .row ks,x=>by
  rw [Kd.all,Kd.has,UP,Kd.alls_map]
  have:=yS ks (qz ks)
  constructor
  ·rintro ⟨xs,h,rfl⟩
   exact (this xs).mp h
  ·intro h
   dsimp only at h
   split at h
   ·rename_i xs
    exact ⟨xs,(this xs).mpr h,rfl⟩
   ·cases h
 | .many k lo hi,x=>by
  rw [Kd.all,Kd.has,List.mem_flatMap]
  constructor
  ·rintro ⟨i,hi',h⟩
   rw [UP] at h
   obtain ⟨xs,h,rfl⟩:=h
   rw [UQ] at h
   rw [List.mem_range] at hi'
   simp only [Bool.and_eq_true,decide_eq_true_eq,List.all_eq_true]
   exact ⟨⟨by omega,by omega⟩,fun y hy=>(Jl k y).mp (h.2 y hy)⟩
  ·intro h
   dsimp only at h
   split at h
   ·rename_i xs
    simp only [Bool.and_eq_true,decide_eq_true_eq,List.all_eq_true] at h
    refine ⟨xs.length - lo,by rw [List.mem_range]; omega, ?_⟩
    rw [UP]
    exact ⟨xs,(UQ _ _ _).mpr ⟨by omega,fun y hy=>(Jl k y).mpr (h.2 y hy)⟩,rfl⟩
   ·cases h
theorem qz:∀ (ks:List Kd),∀ k∈ks,∀ x,x∈k.all↔k.has x=true
 | [],_,h=>nomatch h
 | k :: ks,k',h=>by
  rcases List.mem_cons.mp h with e | h
  ·intro x
   rw [e]
   exact Jl k x
  ·exact qz ks k' h
end
end G
namespace G
open PySem L2 PV
theorem Ul {c:List T->R T}:∀ (qs:List (Kd×T)) (x y:Sl),(∀ q∈qs,c [q.1.t,q.2]= .ok (.bl (q.1.has q.2)))->Z6 (jk 0 1) j8 (zc 2 c (z9 (vE 0) (z9 (vE 1) (zh)))) (qs.map fun q=>T.tup [q.1.t,q.2]) [x,y]= .ok (qs.map fun q=>T.bl (q.1.has q.2))
 | [],_,_,_=>rfl
 | q :: qs,x,y,h=>by
  have e:zc 2 c (z9 (vE 0) (z9 (vE 1) (zh))) [.vl q.1.t, .vl q.2]= .ok (.bl (q.1.has q.2)):=by
   rw [Zd,v0,bOk,v1,bOk,h q List.mem_cons_self]
  have ih:=Ul qs (.vl q.1.t) (.vl q.2) fun r hr=>h r (List.mem_cons_of_mem _ hr)
  have e0:Z6 (jk 0 1) j8 (zc 2 c (z9 (vE 0) (z9 (vE 1) (zh)))) ((q :: qs).map fun q=>T.tup [q.1.t,q.2]) [x,y]=
   (zc 2 c (z9 (vE 0) (z9 (vE 1) (zh))) [.vl q.1.t, .vl q.2]).bind fun v=>(Z6 (jk 0 1) j8 (zc 2 c (z9 (vE 0) (z9 (vE 1) (zh)))) (qs.map fun q=>T.tup [q.1.t,q.2]) [.vl q.1.t, .vl q.2]).bind fun vs=> .ok (v :: vs):=rfl
  rw [e0,e,bOk,ih,bOk,List.map_cons]
theorem qA {α:Type} (p:α->Bool):∀ qs:List α,Yi (qs.map fun q=>T.bl (p q))=some (qs.all p)
 | []=>rfl
 | q :: qs=>by
  have e:Yi ((q :: qs).map fun q=>T.bl (p q))=match Yi (qs.map fun q=>T.bl (p q)) with | some j=>some (p q && j) | none=>none:=rfl
  rw [e,qA p qs]
  rfl
theorem Gb (ks:List Kd) (xs:List T):vH (ks.map Kd.t) xs=(ks.zip xs).map fun q=>T.tup [q.1.t,q.2]:=by
 unfold vH
 rw [List.zip_map_left,List.map_map]
 rfl
theorem qB {c:List T->R T} {s:T} (ks:List Kd) (xs:List T) (hs:We s= .ok (ks.map Kd.t)) (hl:ks.length<=3) (H:∀ q∈ks.zip xs,c [q.1.t,q.2]= .ok (.bl (q.1.has q.2))):
  zp (jy c (en0 2 [s, .tup xs]))= .ok (.bl ((ks.zip xs).all fun q=>q.1.has q.2)):=by
 have e:en0 2 [s, .tup xs]=[.vl s, .vl (.tup xs)]:=rfl
 have ez:Xp (vE 0) (vE 1) [.vl s, .vl (.tup xs)]= .ok ((ks.zip xs).map fun q=>T.tup [q.1.t,q.2]):=by
  show (We s).bind _=_
  rw [hs,bOk,← Gb]
  rfl
 have hb:((ks.zip xs).map fun q=>T.tup [q.1.t,q.2]).length<=bnd:=by
  rw [List.length_map,List.length_zip]
  exact Nat.le_trans (Nat.min_le_left _ _) (Nat.le_trans hl (by decide))
 have ec:Zc (jk 0 1) j8 (zc 2 c (z9 (vE 0) (z9 (vE 1) (zh)))) 2 [] [.vl s, .vl (.tup xs)] ((ks.zip xs).map fun q=>T.tup [q.1.t,q.2])= .ok ((ks.zip xs).map fun q=>T.bl (q.1.has q.2)):=by
  unfold Zc
  rw [if_pos hb]
  show quiet (Z6 _ _ _ _ [.un, .un])=_
  rw [Ul _ _ _ H]
  rfl
 rw [e,jy,zX (t:= .bl ((ks.zip xs).all fun q=>q.1.has q.2))]
 ·rfl
 ·show ap1 _ _ [.vl s, .vl (.tup xs)]=_
  rw [WQ,jh,ez,bOk,ec,bOk,bOk]
  show (match Yi ((ks.zip xs).map fun q=>T.bl (q.1.has q.2)) with | some k=>_ | none=>_)=_
  rw [qA]
theorem UR (cs:List (Str×Int)) (h:cs.length<=4):zr [(Kd.pick cs).t]= .ok (.lst (cs.map fun c=>T.str c.1)):=by
 have e:zr [(Kd.pick cs).t]=zp (je [.vl (.tup [.str "pick", .tup (cs.map Wf)])]):=by rw [Kd.t]; rfl
 have hb:(cs.map Wf).length<=bnd:=by rw [List.length_map]; exact Nat.le_trans h (by decide)
 have ec:Zc (zP 0) j8 (zg ixT (vE 0) (cE (.int 0))) 1 [] [.vl (.tup [.str "pick", .tup (cs.map Wf)])] (cs.map Wf)= .ok ((cs.map Wf).map fun c=>match c with | .tup (w :: _)=>w | _=>c):=
  ZH _ hb fun t ht=>by
   obtain ⟨c,_,rfl⟩:=List.mem_map.mp ht
   rfl
 rw [e,je,zX (t:= .lst (cs.map fun c=>T.str c.1))]
 ·rfl
 ·show jw _ _ _ _ _ _ [.vl (.tup [.str "pick", .tup (cs.map Wf)])]=_
  rw [jh,Wy,Yk,bOk]
  show ((Zc _ _ _ _ _ _ (cs.map Wf)).bind _)=_
  rw [ec,bOk,List.map_map]
  rfl
theorem qC (t:T):∀ cs:List (Str×Int),Q0 (fun y=>eqF 30 y t) (cs.map fun c=>T.str c.1)=some ((Kd.pick cs).has t)
 | []=>by rw [Kd.has]; cases t <;> rfl
 | c :: cs=>by
  have ih:=qC t cs
  rw [Kd.has] at ih ⊢
  have e:Q0 (fun y=>eqF 30 y t) ((c :: cs).map fun c=>T.str c.1)=match eqF 30 (.str c.1) t with
   | none=>none
   | some b=>match Q0 (fun y=>eqF 30 y t) (cs.map fun c=>T.str c.1) with
    | none=>none
    | some d=>some (b || d):=rfl
  rw [e,ih]
  cases t <;> rfl
end G
namespace G
open PySem L2 PV
noncomputable abbrev en2 (a b:T):En:=[.vl a, .vl b]
theorem Qz {x w:Str} {r:List T} {b:T} (h:(x == w)=false) {f:En->RS}:ifS (Zp eqC (zg ixT (vE 0) (cE (.int 0))) (cE (.str w))) f nxS (en2 (.tup (.str x :: r)) b)= .nx (en2 (.tup (.str x :: r)) b):=
 JB (by rw [cs0,h])
theorem Kp {x:Str} {r:List T} {b:T} {f:En->RS}:ifS (Zp eqC (zg ixT (vE 0) (cE (.int 0))) (cE (.str x))) f nxS (en2 (.tup (.str x :: r)) b)=f (en2 (.tup (.str x :: r)) b):=
 xR (by rw [cs0,beq_self_eq_true])
theorem Vf {cp:List T->R T} (lo hi:Int) (x:T):zp (zW Z1 zq zr cp (en0 2 [(Kd.whole lo hi).t,x]))= .ok (.bl ((Kd.whole lo hi).has x)):=by
 have e:en0 2 [(Kd.whole lo hi).t,x]=en2 (.tup [.str "whole", .int lo, .int hi]) x:=by rw [Kd.t]; rfl
 rw [e,zW,jJ (t:= .bl (inR lo hi x))]
 ·rw [Kd.has]; rfl
 ·rw [Kp,zX]
  show uY _ _ (en2 _ x)=_
  rw [Ug,ZV,v1,bOk,qq,jD]
  cases x with
  | int i=>
   rw [show isW (T.int i)=true from rfl,if_pos rfl,kY,Yk,bOk,w1,bOk,vX,bOk,K4,bOk,vX,bOk]
   show _=R.ok (T.bl (decide (lo<=i) && decide (i<=hi)))
   cases decide (lo<=i) <;> rfl
  | _=>rfl
theorem xW {cp:List T->R T} (cs:List (Str×Int)) (h4:cs.length<=4) (x:T):zp (zW Z1 zq zr cp (en0 2 [(Kd.pick cs).t,x]))= .ok (.bl ((Kd.pick cs).has x)):=by
 have e:en0 2 [(Kd.pick cs).t,x]=en2 (.tup [.str "pick", .tup (cs.map Wf)]) x:=by rw [Kd.t]; rfl
 have hw:=UR cs h4
 rw [Kd.t] at hw
 rw [e,zW,zl (Qz (by decide)),jJ (t:= .bl ((Kd.pick cs).has x))]
 ·rfl
 ·rw [Kp,zX]
  show yd _ _ _ (en2 _ x)=_
  rw [uk,w1,bOk,ZV,v0,bOk,hw,bOk]
  show ((match Q0 (fun y=>eqF 30 y x) (cs.map fun (c:Str×Int)=>T.str c.1) with | some b=>R.ok b | none=> .bad).bind _)=_
  rw [qC]
  rfl
theorem Ka {cp:List T->R T} (ks:List Kd) (h3:ks.length<=3) (x:T) (H:∀ xs,x= .tup xs->cp [.tup (ks.map Kd.t),x]= .ok (.bl ((ks.zip xs).all fun q=>q.1.has q.2))):zp (zW Z1 zq zr cp (en0 2 [(Kd.row ks).t,x]))= .ok (.bl ((Kd.row ks).has x)):=by
 have e:en0 2 [(Kd.row ks).t,x]=en2 (.tup [.str "row", .tup (ks.map Kd.t)]) x:=by rw [Kd.t,Kd.ts_map]; rfl
 rw [e,zW,zl (Qz (by decide)),zl (Qz (by decide)),jJ (t:= .bl ((Kd.row ks).has x))]
 ·rfl
 ·rw [Kp,zX]
  show uY _ _ (en2 _ x)=_
  have el:ap1 JF (zg ixT (vE 0) (cE (.int 1))) (en2 (.tup [.str "row", .tup (ks.map Kd.t)]) x)= .ok (.int (ks.length:Nat)):=by
   rw [WQ,Yk,bOk,Q7,List.length_map]
  rw [Ug,jz,v1,bOk,el,bOk,bOk,jU,jD,Zd,Yk,bOk,v1,bOk,Kd.has]
  cases x with
  | tup xs=>
   rw [H xs rfl]
   show (if (decide (ks.length<=xs.length) && decide (xs.length<=ks.length))=true then _ else _)=R.ok (T.bl (xs.length == ks.length && Kd.hass ks xs))
   rw [qy]
   by_cases h:xs.length=ks.length
   ·rw [if_pos (by simp [h])]
    simp [h]
   ·rw [if_neg (by simp; omega)]
    simp [h]
  | _=>rfl
theorem Vg (k:Kd):∀ xs:List T,((List.replicate xs.length k).zip xs).all (fun q=>q.1.has q.2)=xs.all k.has
 | []=>rfl
 | x :: xs=>by
  rw [List.length_cons,List.replicate_succ,List.zip_cons_cons,List.all_cons,List.all_cons,Vg k xs]
theorem xX {cp:List T->R T} (k:Kd) (lo hi:Nat) (h3:hi<=3) (x:T) (H:∀ xs,x= .tup xs->xs.length<=3->cp [.lst ((List.replicate xs.length k).map Kd.t),x]= .ok (.bl (((List.replicate xs.length k).zip xs).all fun q=>q.1.has q.2))):zp (zW Z1 zq zr cp (en0 2 [(Kd.many k lo hi).t,x]))= .ok (.bl ((Kd.many k lo hi).has x)):=by
 have e:en0 2 [(Kd.many k lo hi).t,x]=en2 (.tup [.str "many",k.t, .int (lo:Int), .int (hi:Int)]) x:=by rw [Kd.t]; rfl
 rw [e,zW,zl (Qz (by decide)),zl (Qz (by decide)),zl (Qz (by decide)),zX (t:= .bl ((Kd.many k lo hi).has x))]
 ·rfl
 ·show uY _ _ (en2 _ x)=_
  rw [Ug,jz,v1,bOk,K4,bOk,Ko,bOk,jU,jD,Kd.has]
  cases x with
  | tup xs=>
   show (if (decide (lo<=xs.length) && decide (xs.length<=hi))=true then _ else _)=R.ok (T.bl (decide (lo<=xs.length) && decide (xs.length<=hi) && xs.all k.has))
   cases hh:(decide (lo<=xs.length) && decide (xs.length<=hi)) with
   | false=>rfl
   | true=>
    rw [Bool.and_eq_true,decide_eq_true_eq,decide_eq_true_eq] at hh
    have hx:xs.length<=3:=by omega
    have em:zg Zq (Wr (z9 (zg ixT (vE 0) (cE (.int 1))) (zh))) (ap1 JF (vB 1)) (en2 (.tup [.str "many",k.t, .int (lo:Int), .int (hi:Int)]) (.tup xs))= .ok (.lst ((List.replicate xs.length k).map Kd.t)):=by
     rw [zt,G6 Yk,bOk,WQ,w1,bOk,Q7,bOk,yO hx,wq,List.map_replicate]
    rw [if_pos rfl,Zd,em,bOk,v1,bOk,H xs rfl hx,Vg]
    rfl
  | _=>rfl
theorem Xz:∀ (d n:Nat),2*d<=n->∀ (k:Kd) (x:T),k.Ok d->zH n 0 [k.t,x]= .ok (.bl (k.has x))
 | 0,_,_,_,_,h=>h.elim
 | d+1,n+2,hn,k,x,h=>by
  have ih:=Xz d n (by omega)
  have e:zH (n+2) 0 [k.t,x]=zp (zW Z1 zq zr (zH (n+1) 1) (en0 2 [k.t,x])):=by rw [zH]
  have e1:∀ s y,zH (n+1) 1 [s,y]=zp (jy (zH n 0) (en0 2 [s,y])):=fun s y=>by rw [zH]; intro h; cases h
  rw [e]
  cases k with
  | whole lo hi=>exact Vf lo hi x
  | pick cs=>exact xW cs h.2.1 x
  | row ks=>
   refine Ka ks h.2.1 x fun xs hx=> ?_
   rw [e1,hx,qB ks xs rfl h.2.1 fun q hq=>ih q.1 q.2 (h.2.2 q.1 (List.of_mem_zip hq).1)]
  | many k lo hi=>
   refine xX k lo hi h.2.1 x fun xs hx h3=> ?_
   rw [e1,hx,qB (List.replicate xs.length k) xs rfl (by rw [List.length_replicate]; exact h3) fun q hq=>ih q.1 q.2 (by
    rw [List.eq_of_mem_replicate (List.of_mem_zip hq).1]; exact h.2.2)]
end G
namespace G
open PySem L2 PV
theorem qD:∀ (d:Nat) (k:Kd),k.Ok d->isK d k.t=true
 | 0,_,h=>h.elim
 | d+1, .whole lo hi,h=>by
  have e:isK (d+1) (Kd.whole lo hi).t=(decide (-20<=lo) && decide (lo<=hi) && decide (hi<=20)):=by rw [Kd.t]; rfl
  obtain ⟨h1,h2,h3⟩:=h
  rw [e]; simp; omega
 | d+1, .pick cs,h=>by
  have e:isK (d+1) (Kd.pick cs).t=(decide (1<=(cs.map Wf).length) && decide ((cs.map Wf).length<=4) && (cs.map Wf).all zO && decide ((dd [] ((cs.map Wf).map ZS)).length=(cs.map Wf).length)):=by rw [Kd.t]; rfl
  obtain ⟨h1,h2,h3,h4⟩:=h
  have e1:(cs.map Wf).map ZS=cs.map (·.1):=by rw [List.map_map]; rfl
  have e2:=(UL (cs.map (·.1)) []).mpr fun k w hw=>by simpa using h4 k w hw
  rw [e,e1,e2,List.length_map,List.length_map]
  simp only [Bool.and_eq_true,decide_eq_true_eq,List.all_eq_true]
  refine ⟨⟨⟨h1,h2⟩,fun c hc=> ?_⟩,by simp⟩
  obtain ⟨p,hp,rfl⟩:=List.mem_map.mp hc
  obtain ⟨a,b,c⟩:=h3 p hp
  show (jI (.str p.1) && decide (1<=p.2) && decide (p.2<=20))=true
  rw [a]; simp; omega
 | d+1, .row ks,h=>by
  have e:isK (d+1) (Kd.row ks).t=(decide (1<=(ks.map Kd.t).length) && decide ((ks.map Kd.t).length<=3) && (ks.map Kd.t).all (isK d)):=by rw [Kd.t,Kd.ts_map]; rfl
  obtain ⟨h1,h2,h3⟩:=h
  rw [e,List.length_map]
  simp only [Bool.and_eq_true,decide_eq_true_eq,List.all_eq_true]
  refine ⟨⟨h1,h2⟩,fun c hc=> ?_⟩
  obtain ⟨k,hk,rfl⟩:=List.mem_map.mp hc
  exact qD d k (h3 k hk)
 | d+1, .many k lo hi,h=>by
  have e:isK (d+1) (Kd.many k lo hi).t=((decide ((0:Int)<=(lo:Int)) && decide ((lo:Int)<=(hi:Int)) && decide ((hi:Int)<=3)) && isK d k.t):=by rw [Kd.t]; rfl
  obtain ⟨h1,h2,h3⟩:=h
  rw [e,qD d k h3]; simp; omega
theorem US:∀ (ks:List Kd) (xs:List T),xs.length=ks.length->Kd.hass ks xs=true->∀ x∈xs,∃ k∈ks,k.has x=true
 | [],[],_,_,_,h=>nomatch h
 | k :: ks,[],h,_,_,_=>by cases h
 | [],x :: xs,h,_,_,_=>by cases h
 | k :: ks,x :: xs,hl,h,y,hy=>by
  rw [Kd.hass] at h
  have h:(k.has x && Kd.hass ks xs)=true:=h
  rw [Bool.and_eq_true] at h
  rcases List.mem_cons.mp hy with rfl | hy
  ·exact ⟨k,List.mem_cons_self,h.1⟩
  ·obtain ⟨k',hk,hh⟩:=US ks xs (by simpa using hl) h.2 y hy
   exact ⟨k',List.mem_cons_of_mem _ hk,hh⟩
theorem WA (t:T) (ht:sOk t):zU [t]=if isK 3 t=true then .ok .non else .ex 0:=by
 have e:zU [t]=zp (JL Jv [.vl t]):=rfl
 have ec:Qw (VM (zc 1 Jv (z9 (vE 0) (zh)))) [.vl t]= .ok (!isK 3 t):=by
  rw [Uh,qr,ZV,v0,bOk,Qb t ht,bOk,yG,bOk]
 rw [e,JL,Jy,ec,jA]
 cases isK 3 t <;> rfl
theorem YB (k:Kd) (hk:k.Ok 3) (x:T):jQ [k.t,x]= .ok (.bl (k.has x)):=by
 have hi:=qD 3 k hk
 have e:jQ [k.t,x]=zp (wo zU (JN 20) (en2 k.t x)):=rfl
 have e1:WM (zc 1 zU (z9 (vE 0) (zh))) (en2 k.t x)= .nx (en2 k.t x):=by
  show (zc 1 _ _ _).s _=_
  rw [ZV,v0,bOk,WA _ (u5 3 _ hi).so,hi,if_pos rfl,jA]
 have hh:JN 20 [k.t,x]= .ok (.bl (k.has x)):=Xz 3 20 (by omega) k x hk
 rw [e,wo,zl e1,zX (t:= .bl (k.has x))]
 ·rfl
 ·show zc 2 _ _ (en2 k.t x)=_
  rw [Zd,v0,bOk,v1,bOk,hh]
end G
namespace G
open PySem L2 PV
theorem qE {α β:Type} (f:α->List β) (m:Nat):∀ (as:List α) (i j:Nat),(∀ a∈as,(f a).length=m)->j < m->(as.flatMap f)[i*m+j]? =(as[i]?).bind fun a=>(f a)[j]?
 | [],i,j,_,_=>by simp
 | a :: as,0,j,h,hj=>by
  have ha:=h a List.mem_cons_self
  rw [List.flatMap_cons,Nat.zero_mul,Nat.zero_add,List.getElem?_append_left (by omega)]
  rfl
 | a :: as,i+1,j,h,hj=>by
  have ha:=h a List.mem_cons_self
  have e:(i+1)*m=i*m+m:=by rw [Nat.add_mul,Nat.one_mul]
  rw [List.flatMap_cons,List.getElem?_append_right (by omega),ha,e,show i*m+m+j - m=i*m+j by omega,qE f m as i j (fun b hb=>h b (List.mem_cons_of_mem _ hb)) hj]
  rfl
theorem yT {α β:Type} (f:α->List β):∀ (as:List α) (q j:Nat) (a:α),as[q]? =some a->j < (f a).length->(as.flatMap f)[((as.take q).map fun b=>(f b).length).sum+j]? =(f a)[j]?
 | [],q,j,a,h,_=>by simp at h
 | b :: as,0,j,a,h,hj=>by
  have e:b=a:=by simpa using h
  subst e
  rw [List.flatMap_cons,List.take_zero,List.map_nil,List.sum_nil,Nat.zero_add,List.getElem?_append_left hj]
 | b :: as,q+1,j,a,h,hj=>by
  rw [List.flatMap_cons,List.take_succ_cons,List.map_cons,List.sum_cons,Nat.add_assoc,List.getElem?_append_right (by omega),Nat.add_sub_cancel_left]
  exact yT f as q j a (by simpa using h) hj
theorem Um:∀ (ls made:List (List T)) (l:List T),ZN made (ls++[l])=(ZN made ls).flatMap fun a=>l.map fun x=>a++[x]
 | [],made,l=>rfl
 | _ :: ls,made,l=>by
  rw [List.cons_append,ZN,ZN,Um ls]
theorem qF {ls:List (List T)} {l:List T} {i j:Nat} {xs:List T} {x:T} (h:(ZN [[]] ls)[i]? =some xs) (hx:l[j]? =some x):(ZN [[]] (ls++[l]))[i*l.length+j]? =some (xs++[x]):=by
 have hj:j < l.length:=(List.getElem?_eq_some_iff.mp hx).1
 rw [Um,qE _ l.length _ i j (fun a _=>List.length_map ..) hj,h]
 show (l.map fun x=>xs++[x])[j]? =_
 rw [List.getElem?_map,hx]
 rfl
theorem UT:∀ (ns:List Nat) (n:Nat),prd (ns++[n])=prd ns*n
 | [],n=>by simp [prd]
 | m :: ns,n=>by rw [List.cons_append,prd,prd,UT ns n,Nat.mul_assoc]
theorem JC (ls:List (List T)):(ZN [[]] ls).length=prd (ls.map (·.length)):=by rw [uq,List.length_singleton,Nat.one_mul]
theorem jV {α:Type} {xs:List α} {i:Nat} (h:i < xs.length):∃ x,xs[i]? =some x:=⟨_,List.getElem?_eq_getElem h⟩
theorem Gc {xs:List T} {j:Nat} {v:T} (h:xs[j]? =some v):atT xs (j:Int)= .ok v:=by unfold atT; rw [JX h]
noncomputable def shr (c lo q:Nat):Nat:=((List.range q).map fun i=>c ^ (lo+i)).sum
theorem qG (c lo q:Nat):shr c lo (q+1)=shr c lo q+c ^ (lo+q):=by
 unfold shr
 rw [List.range_succ,List.map_append,List.sum_append]
 simp
theorem qH (c lo hi:Nat):pw c lo hi=shr c lo (hi+1 - lo):=rfl
theorem Vh {k:Kd} {lo hi q j:Nat} {xs:List T} (hq:q < hi+1 - lo) (h:(ZN [[]] (List.replicate (lo+q) k.all))[j]? =some xs):(Kd.many k lo hi).all[shr k.all.length lo q+j]? =some (.tup xs):=by
 have hj:=(List.getElem?_eq_some_iff.mp h).1
 have e:=yT (fun i=>yL (List.replicate (lo+i) k.all)) (List.range (hi+1 - lo)) q j q (by rw [List.getElem?_range hq]) (by rw [List.length_map]; exact hj)
 have e2:(((List.range (hi+1 - lo)).take q).map fun b=>(yL (List.replicate (lo+b) k.all)).length).sum=shr k.all.length lo q:=by
  rw [List.take_range,Nat.min_eq_left (Nat.le_of_lt hq),shr]
  congr 1
  refine List.map_congr_left fun i _=> ?_
  rw [u7,List.map_replicate,JP]
 rw [e2] at e
 rw [Kd.all,e]
 show (List.map T.tup _)[j]? =_
 rw [List.getElem?_map,h]
 rfl
end G
namespace G
open PySem L2 PV
noncomputable abbrev cpB (c:List T->R T):En->RS:=ZC 1 (zg Zq (vE 1) (zc 1 c (z9 (vE 2) (zh))))
theorem Vi {c:List T->R T} {S:Sl}:∀ (ks:List Kd) (m:Nat) (x:Sl),(∀ k∈ks,c [k.t]= .ok (.int (k.all.length:Int))/\1<=k.all.length)->m*prd (ks.map fun k=>k.all.length) < 2 ^ 60->
  ∃ y,jq (zP 2) (cpB c) (ks.map Kd.t) [S, .vl (.int (m:Int)),x]= .nx [S, .vl (.int ((m*prd (ks.map fun k=>k.all.length):Nat):Int)),y]
 | [],m,x,_,_=>⟨x,by simp [jq,prd]⟩
 | k :: ks,m,x,H,hb=>by
  obtain ⟨hc,h1⟩:=H k List.mem_cons_self
  have hp:1<=prd (ks.map fun k=>k.all.length):=uo fun n hn=>by
   obtain ⟨k',hk',rfl⟩:=List.mem_map.mp hn
   exact (H k' (List.mem_cons_of_mem _ hk')).2
  rw [List.map_cons,prd,← Nat.mul_assoc] at hb
  have hm:m < 2 ^ 60:=by
   have h2:m<=m*k.all.length:=Nat.le_mul_of_pos_right _ h1
   have h3:m*k.all.length<=m*k.all.length*prd (ks.map fun k=>k.all.length):=Nat.le_mul_of_pos_right _ hp
   omega
  have eb:cpB c [S, .vl (.int (m:Int)), .vl k.t]= .nx [S, .vl (.int ((m*k.all.length:Nat):Int)), .vl k.t]:=by
   rw [cpB,ZW (t:= .int ((m*k.all.length:Nat):Int))]
   ·rfl
   ·rw [zt,v1,bOk,ZV,v2,bOk,hc,bOk,yQ hm]
  obtain ⟨y,ih⟩:=Vi (c:=c) (S:=S) ks (m*k.all.length) (.vl k.t) (fun k' hk' =>H k' (List.mem_cons_of_mem _ hk')) hb
  refine ⟨y, ?_⟩
  rw [List.map_cons,ur (ρ1:=[S, .vl (.int (m:Int)), .vl k.t]) rfl eb,ih,List.map_cons,prd,Nat.mul_assoc]
theorem uu {c:List T->R T} {s:T} (ks:List Kd) (hs:uh s= .ok (ks.map Kd.t)) (H:∀ k∈ks,c [k.t]= .ok (.int (k.all.length:Int))/\1<=k.all.length) (hb:prd (ks.map fun k=>k.all.length) < 2 ^ 60):
  zp (zG c (en0 3 [s]))= .ok (.int ((prd (ks.map fun k=>k.all.length):Nat):Int)):=by
 obtain ⟨y,e⟩:=Vi (c:=c) (S:= .vl s) ks 1 .un H (by rw [Nat.one_mul]; exact hb)
 rw [Nat.one_mul] at e
 have e0:ZC 1 (cE (.int 1)) [.vl s, .un, .un]= .nx [.vl s, .vl (.int 1), .un]:=rfl
 have e1:wP (WN (vE 0)) (zP 2) (cpB c) [.vl s, .vl (.int 1), .un]= .nx [.vl s, .vl (.int ((prd (ks.map fun k=>k.all.length):Nat):Int)),y]:=by
  show ((uh s).s fun ts=>jq (zP 2) (cpB c) ts [.vl s, .vl (.int 1), .un])=_
  rw [hs,jA]
  exact e
 show zp (zG c [.vl s, .un, .un])=_
 rw [zG,zl e0,zl e1]
 rfl
theorem Vj {α:Type} (g:α->Nat):∀ l:List α,Wu (l.map fun a=>T.int ((g a:Nat):Int))=some (l.map fun a=>((g a:Nat):Int))
 | []=>rfl
 | a :: l=>by
  show (match Wu (l.map fun a=>T.int ((g a:Nat):Int)) with | some l=>some (_ :: l) | none=>none)=_
  rw [Vj g l]; rfl
theorem qI {α:Type} (g:α->Nat):∀ l:List α,(l.map fun a=>((g a:Nat):Int)).sum=(((l.map g).sum:Nat):Int)
 | []=>rfl
 | a :: l=>by rw [List.map_cons,List.sum_cons,List.map_cons,List.sum_cons,qI g l]; omega
theorem Gd {α:Type} (g:α->Nat) (l:List α):Gu (.lst (l.map fun a=>T.int ((g a:Nat):Int)))= .ok (.int (((l.map g).sum:Nat):Int)):=by
 unfold Gu
 dsimp only
 rw [Vj,← qI]
theorem W8 (k:Kd) (m:Nat):((List.replicate m k).map fun k=>k.all.length)=List.replicate m k.all.length:=by rw [List.map_replicate]
theorem Vk {c:List T->R T} {t:T} {n lo hi q:Nat} (h4:lo+q<=4) (H:∀ m,m<=3->c [.lst (List.replicate m t)]= .ok (.int ((n ^ m:Nat):Int))):
  zp (zV c (en0 2 [mt t lo hi, .int ((lo+q:Nat):Int)]))= .ok (.int ((shr n lo q:Nat):Int)):=by
 show zp (zV c [.vl (mt t lo hi), .vl (.int ((lo+q:Nat):Int))])=_
 have er:wS (zg ixT (vE 0) (cE (.int 2))) (vE 1) [.vl (mt t lo hi), .vl (.int ((lo+q:Nat):Int))]= .ok (rng (lo:Int) q):=by
  rw [UO (i:=(lo:Int)) (j:=((lo+q:Nat):Int)) rfl rfl ⟨by omega,by omega,by omega,by omega⟩]
  congr 2; omega
 have ec:Zc (zP 0) j8 (zc 1 c (z9 (zg Zq (Wr (z9 (zg ixT (vE 1) (cE (.int 1))) (zh))) (vE 0)) (zh))) 1 [0] [.vl (mt t lo hi), .vl (.int ((lo+q:Nat):Int))] (rng (lo:Int) q)= .ok ((rng (lo:Int) q).map fun x=>match x with | .int i=>T.int ((n ^ i.toNat:Nat):Int) | y=>y):=
  ZH _ (by unfold rng; rw [List.length_map,List.length_range]; have:bnd=16777216:=rfl; omega) fun x hx=>by
   unfold rng at hx
   obtain ⟨i,hi',rfl⟩:=List.mem_map.mp hx
   have hi2:=List.mem_range.mp hi'
   show zc 1 c _ [.vl (.int ((lo:Int)+(i:Int))), .vl (mt t lo hi)]=_
   have e1:zg Zq (Wr (z9 (zg ixT (vE 1) (cE (.int 1))) (zh))) (vE 0) [.vl (.int ((lo:Int)+(i:Int))), .vl (mt t lo hi)]= .ok (.lst (List.replicate (lo+i) t)):=by
    have e0:zg ixT (vE 1) (cE (.int 1)) [.vl (.int ((lo:Int)+(i:Int))), .vl (mt t lo hi)]= .ok t:=rfl
    rw [zt,G6 e0,bOk,v0,bOk,show (lo:Int)+(i:Int)=((lo+i:Nat):Int) by omega,yO (by omega),wq]
   rw [ZV,e1,bOk,H (lo+i) (by omega)]
   show _=R.ok (T.int ((n ^ ((lo:Int)+(i:Int)).toNat:Nat):Int))
   rw [show ((lo:Int)+(i:Int)).toNat=lo+i by omega]
 rw [zV,zX (t:= .int ((shr n lo q:Nat):Int))]
 ·rfl
 ·show ap1 _ _ [.vl (mt t lo hi), .vl (.int ((lo+q:Nat):Int))]=_
  rw [WQ,jh,er,bOk,ec,bOk,bOk]
  have e2:((rng (lo:Int) q).map fun x=>match x with | .int i=>T.int ((n ^ i.toNat:Nat):Int) | y=>y)=(List.range q).map fun i=>T.int ((n ^ (lo+i):Nat):Int):=by
   unfold rng
   rw [List.map_map]
   refine List.map_congr_left fun i _=> ?_
   show T.int ((n ^ ((lo:Int)+(i:Int)).toNat:Nat):Int)=_
   rw [show ((lo:Int)+(i:Int)).toNat=lo+i by omega]
  rw [e2,Gd (fun i=>n ^ (lo+i))]
  rfl
theorem XA {d n m:Nat} (h:n<=mx d) (hd:d<=2) (hm:m<=3):n ^ m < 2 ^ 60:=by
 have h2:mx d<=70644:=by
  have:d=0\/d=1\/d=2:=by omega
  rcases this with rfl | rfl | rfl <;> decide
 have h3:n ^ m<=70644 ^ 3:=Nat.le_trans (Nat.pow_le_pow_left (Nat.le_trans h h2) m) (Nat.pow_le_pow_right (by omega) hm)
 have:70644 ^ 3 < 2 ^ 60:=by decide
 omega
theorem qJ:∀ (d n:Nat),3*d<=n->d<=3->∀ k:Kd,k.Ok d->zu n 0 [k.t]= .ok (.int (k.all.length:Int))
 | 0,_,_,_,_,h=>h.elim
 | d+1,n+3,hn,hd,k,h=>by
  have ih:=qJ d n (by omega) (by omega)
  have ih1:=qJ d (n+1) (by omega) (by omega)
  have e:zu (n+3) 0 [k.t]=zp (wm (zu (n+2) 1) (zu (n+2) 2) [.vl k.t]):=rfl
  have e1:∀ s,zu (n+2) 1 [s]=zp (zG (zu (n+1) 0) (en0 3 [s])):=fun s=>rfl
  have e1' :∀ s,zu (n+1) 1 [s]=zp (zG (zu n 0) (en0 3 [s])):=fun s=>rfl
  have e2:∀ s u,zu (n+2) 2 [s,u]=zp (zV (zu (n+1) 1) (en0 2 [s,u])):=fun s u=>rfl
  rw [e,wm]
  cases k with
  | whole lo hi=>
   obtain ⟨h1,h2,h3⟩:=h
   rw [JA]
   simp only [Kd.t]
   rw [jJ (t:= .int ((hi+1 - lo).toNat:Int))]
   ·rfl
   ·rw [xR (by rw [cs0,beq_self_eq_true]),zX]
    show R.ok (T.int (hi - lo+1))=_
    congr 2; omega
  | pick cs=>
   rw [UN]
   simp only [Kd.t]
   rw [zl (JB (by rw [cs0]; rfl)),jJ (t:= .int (cs.length:Int))]
   ·rfl
   ·rw [xR (by rw [cs0,beq_self_eq_true]),zX]
    show R.ok (T.int ((cs.map Wf).length:Int))=_
    rw [List.length_map]
  | row ks=>
   obtain ⟨h1,h2,h3⟩:=h
   rw [Wg]
   simp only [Kd.t]
   rw [Kd.ts_map,zl (JB (by rw [cs0]; rfl)),zl (JB (by rw [cs0]; rfl)),jJ (t:= .int ((prd (ks.map fun k=>k.all.length):Nat):Int))]
   ·rfl
   ·rw [xR (by rw [cs0,beq_self_eq_true]),zX]
    show zc 1 _ _ [.vl (.tup [.str "row", .tup (ks.map Kd.t)])]=_
    rw [ZV,Yk,bOk,e1]
    have hl:=w8 (d+1) (.row ks) ⟨h1,h2,h3⟩
    rw [Wg] at hl
    exact uu ks rfl (fun k hk=>⟨ih1 k (h3 k hk),j3 d k (h3 k hk)⟩) (K6 hl hd)
  | many k lo hi=>
   obtain ⟨h1,h2,h3⟩:=h
   rw [Je,qH]
   simp only [Kd.t]
   rw [zl (JB (by rw [cs0]; rfl)),zl (JB (by rw [cs0]; rfl)),zl (JB (by rw [cs0]; rfl)),zX (t:= .int ((shr k.all.length lo (hi+1 - lo):Nat):Int))]
   ·rfl
   ·show zc 2 _ _ [.vl (mt k.t lo hi)]=_
    rw [Zd,v0,bOk,V5 Ko,bOk,e2,show (hi:Int)+1=((lo+(hi+1 - lo):Nat):Int) by omega]
    refine Vk (by omega) fun m hm=> ?_
    have hp:prd ((List.replicate m k).map fun k=>k.all.length)=k.all.length ^ m:=by rw [W8,JP]
    rw [e1',← hp]
    have hd1:1<=d:=by
     cases d with
     | zero=>exact h3.elim
     | succ d=>omega
    refine uu (List.replicate m k) (by rw [List.map_replicate]; rfl) (fun k' hk' => ?_) (by rw [hp]; exact XA (w8 d k h3) (by omega) hm)
    rw [List.eq_of_mem_replicate hk']
    exact ⟨ih k h3,j3 d k h3⟩
end G
namespace G
open PySem L2 PV
theorem Jf {d:Nat} (hd:d<=3) {k:Kd} (h:k.Ok d):zw 20 [k.t]= .ok (.int (k.all.length:Int)):=qJ d 20 (by omega) hd k h
theorem UU {d:Nat} (hd:d<=2) {k:Kd} (h:k.Ok d) {lo hi q:Nat} (h4:lo+q<=4):zC 20 [mt k.t lo hi, .int ((lo+q:Nat):Int)]= .ok (.int ((shr k.all.length lo q:Nat):Int)):=by
 have e:zC 20 [mt k.t lo hi, .int ((lo+q:Nat):Int)]=zp (zV (zu 19 1) (en0 2 [mt k.t lo hi, .int ((lo+q:Nat):Int)])):=rfl
 rw [e]
 refine Vk h4 fun m hm=> ?_
 have hp:prd ((List.replicate m k).map fun k=>k.all.length)=k.all.length ^ m:=by rw [W8,JP]
 have e1:∀ s,zu 19 1 [s]=zp (zG (zu 18 0) (en0 3 [s])):=fun s=>rfl
 rw [e1,← hp]
 refine uu (List.replicate m k) (by rw [List.map_replicate]; rfl) (fun k' hk' => ?_) (by rw [hp]; exact XA (w8 d k h) hd hm)
 rw [List.eq_of_mem_replicate hk']
 exact ⟨qJ d 18 (by omega) (by omega) k h,j3 d k h⟩
noncomputable abbrev paB (cc cw:List T->R T):En->RS:=zL (ZC 5 (zc 1 cc (z9 (vE 4) (zh))))
  (zL (xr 2 (zc 2 cw (z9 (vE 4) (z9 (zg uR (vE 3) (vE 5)) (zh)))))
  (ZC 3 (zg WI (vE 3) (vE 5))))
structure AtOk (cc cw:List T->R T) (k:Kd):Prop where
 cnt:cc [k.t]= .ok (.int (k.all.length:Int))
 at_:∀ (i:Nat) x,k.all[i]? =some x->cw [k.t, .int (i:Int)]= .ok x
 pos:1<=k.all.length
 le:k.all.length < 1000000
theorem v5' {t:T} {a b c d e:Sl} {ρ:En}:vE 5 (a :: b :: c :: d :: e :: .vl t :: ρ)= .ok t:=rfl
theorem Ge {n c:Nat} (h:1<=c):uR (.int (n:Int)) (.int (c:Int))= .ok (.int ((n % c:Nat):Int)):=by
 unfold uR; dsimp only; rw [if_pos (by omega)]; rfl
theorem Vl {n c:Nat} (h:1<=c) (h' :c < 1000000):WI (.int (n:Int)) (.int (c:Int))= .ok (.int ((n / c:Nat):Int)):=by
 unfold WI; dsimp only; rw [if_pos (by omega)]; rfl
theorem Gf {i:Nat} {f:En->R T} {ρ:En} {ts:List T} {t:T} (hi:ρ[i]? =some (.ow ts)) (hl:ts.length < bnd) (h:f ρ= .ok t):xr i f ρ= .nx (ρ.set i (.ow (ts++[t]))):=by
 unfold xr; rw [hi]; dsimp only; rw [h,jA,if_pos hl]
theorem Vm {cc cw:List T->R T} {S N:Sl}:∀ (rs:List Kd) (acc:List T) (n:Nat) (x y:Sl),(∀ k∈rs,AtOk cc cw k)->n < prd (rs.map fun k=>k.all.length)->acc.length+rs.length<=1000->
  ∃ xs r x' y',(ZN [[]] (rs.reverse.map Kd.all))[n]? =some xs/\jq (zP 4) (paB cc cw) (rs.map Kd.t) [S,N, .ow acc, .vl (.int (n:Int)),x,y]= .nx [S,N, .ow (acc++xs.reverse),r,x',y']
 | [],acc,n,x,y,_,hn,_=>⟨[], .vl (.int (n:Int)),x,y,by
   have:n=0:=by simp [prd] at hn; exact hn
   subst this; rfl,by simp [jq]⟩
 | k :: rs,acc,n,x,y,H,hn,hl=>by
  obtain ⟨hc,hw,h1,hle⟩:=H k List.mem_cons_self
  rw [List.map_cons,prd] at hn
  rw [List.length_cons] at hl
  have hb:bnd=16777216:=rfl
  have hmod:n % k.all.length < k.all.length:=Nat.mod_lt _ h1
  obtain ⟨v,hv⟩:=jV hmod
  have hdiv:n / k.all.length < prd (rs.map fun k=>k.all.length):=Nat.div_lt_of_lt_mul hn
  obtain ⟨xs,r,x',y',e1,e2⟩:=Vm (cc:=cc) (cw:=cw) (S:=S) (N:=N) rs (acc++[v]) (n / k.all.length) (.vl k.t) (.vl (.int (k.all.length:Int))) (fun k' hk' =>H k' (List.mem_cons_of_mem _ hk')) hdiv (by rw [List.length_append,List.length_singleton]; omega)
  have b1:ZC 5 (zc 1 cc (z9 (vE 4) (zh))) [S,N, .ow acc, .vl (.int (n:Int)), .vl k.t,y]= .nx [S,N, .ow acc, .vl (.int (n:Int)), .vl k.t, .vl (.int (k.all.length:Int))]:=by
   rw [ZW (t:= .int (k.all.length:Int))]
   ·rfl
   ·rw [ZV,v4,bOk,hc]
  have b2:xr 2 (zc 2 cw (z9 (vE 4) (z9 (zg uR (vE 3) (vE 5)) (zh)))) [S,N, .ow acc, .vl (.int (n:Int)), .vl k.t, .vl (.int (k.all.length:Int))]= .nx [S,N, .ow (acc++[v]), .vl (.int (n:Int)), .vl k.t, .vl (.int (k.all.length:Int))]:=by
   rw [Gf (ts:=acc) (t:=v) rfl (by omega)]
   ·rfl
   ·rw [Zd,v4,bOk,zt,v3,bOk,v5',bOk,Ge h1,bOk,hw _ v hv]
  have b3:ZC 3 (zg WI (vE 3) (vE 5)) [S,N, .ow (acc++[v]), .vl (.int (n:Int)), .vl k.t, .vl (.int (k.all.length:Int))]= .nx [S,N, .ow (acc++[v]), .vl (.int ((n / k.all.length:Nat):Int)), .vl k.t, .vl (.int (k.all.length:Int))]:=by
   rw [ZW (t:= .int ((n / k.all.length:Nat):Int))]
   ·rfl
   ·rw [zt,v3,bOk,v5',bOk,Vl h1 hle]
  have eb:paB cc cw [S,N, .ow acc, .vl (.int (n:Int)), .vl k.t,y]= .nx [S,N, .ow (acc++[v]), .vl (.int ((n / k.all.length:Nat):Int)), .vl k.t, .vl (.int (k.all.length:Int))]:=by
   rw [paB,zl b1,zl b2,b3]
  refine ⟨xs++[v],r,x',y', ?_, ?_⟩
  ·have:=qF e1 hv
   rw [Nat.mul_comm,Nat.div_add_mod] at this
   rw [List.reverse_cons,List.map_append]
   exact this
  ·rw [List.map_cons,ur (ρ1:=[S,N, .ow acc, .vl (.int (n:Int)), .vl k.t,y]) rfl eb,e2,List.reverse_append]
   simp
theorem Vn:∀ ns:List Nat,prd ns.reverse=prd ns
 | []=>rfl
 | n :: ns=>by rw [List.reverse_cons,UT,Vn ns,prd,Nat.mul_comm]
theorem uv {cc cw:List T->R T} {s:T} (ks:List Kd) (hs:We s= .ok (ks.map Kd.t)) (hl:ks.length<=3) (H:∀ k∈ks,AtOk cc cw k) {n:Nat} {xs:List T} (hx:(ZN [[]] (ks.map Kd.all))[n]? =some xs):
  zp (jm cc cw (en0 6 [s, .int (n:Int)]))= .ok (.tup xs):=by
 have hn:=(List.getElem?_eq_some_iff.mp hx).1
 rw [JC,List.map_map] at hn
 have hr:(ks.reverse.map fun k=>k.all.length)=(ks.map fun k=>k.all.length).reverse:=by rw [List.map_reverse]
 obtain ⟨ys,r,x',y',e1,e2⟩:=Vm (cc:=cc) (cw:=cw) (S:= .vl s) (N:= .vl (.int (n:Int))) ks.reverse [] n .un .un (fun k hk=>H k (List.mem_reverse.mp hk)) (by rw [hr,Vn]; exact hn) (by rw [List.length_reverse,List.length_nil]; omega)
 rw [List.reverse_reverse,hx] at e1
 cases e1
 rw [List.nil_append] at e2
 have e0:VN 2 (zh) [.vl s, .vl (.int (n:Int)), .un, .un, .un, .un]= .nx [.vl s, .vl (.int (n:Int)), .ow [], .un, .un, .un]:=rfl
 have e3:ZC 3 (vE 1) [.vl s, .vl (.int (n:Int)), .ow [], .un, .un, .un]= .nx [.vl s, .vl (.int (n:Int)), .ow [], .vl (.int (n:Int)), .un, .un]:=rfl
 have e4:wP (z0e (vE 0)) (zP 4) (paB cc cw) [.vl s, .vl (.int (n:Int)), .ow [], .vl (.int (n:Int)), .un, .un]= .nx [.vl s, .vl (.int (n:Int)), .ow xs.reverse,r,x',y']:=by
  show (((We s).bind fun xs=>R.ok xs.reverse).s fun ts=>jq (zP 4) (paB cc cw) ts [.vl s, .vl (.int (n:Int)), .ow [], .vl (.int (n:Int)), .un, .un])=_
  rw [hs,bOk,jA,← List.map_reverse]
  exact e2
 have hlen:xs.reverse.length<=bnd:=by
  have:∀ (ls made:List (List T)) (m:Nat),(∀ a∈made,a.length<=m)->∀ a∈ZN made ls,a.length<=m+ls.length:=by
   intro ls
   induction ls with
   | nil=>intro made m h a ha; exact h a ha
   | cons l ls ih=>
    intro made m h a ha
    have:=ih (made.flatMap fun a=>l.map fun x=>a++[x]) (m+1) (fun b hb=>by
     obtain ⟨c,hc,hb⟩:=List.mem_flatMap.mp hb
     obtain ⟨z,_,rfl⟩:=List.mem_map.mp hb
     have:=h c hc
     rw [List.length_append,List.length_singleton]; omega) a ha
    rw [List.length_cons]; omega
  have h1:=this (ks.map Kd.all) [[]] 0 (fun a ha=>by rw [List.mem_singleton.mp ha]; exact Nat.le_refl _) xs (List.mem_of_getElem? hx)
  rw [List.length_map] at h1
  rw [List.length_reverse]
  have hb:bnd=16777216:=rfl
  omega
 show zp (jm cc cw [.vl s, .vl (.int (n:Int)), .un, .un, .un, .un])=_
 rw [jm,zl e0,zl e3,zl e4,zX (t:= .tup xs)]
 ·rfl
 ·show xK (.lst xs.reverse)=_
  unfold xK
  dsimp only
  rw [if_pos hlen,List.reverse_reverse]
noncomputable abbrev mtT:En->R Bool:=Zp leC (zc 2 (zC 20) (z9 (vE 0) (z9 (zg zF (vE 2) (cE (.int 1))) (zh)))) (vB 1)
noncomputable abbrev mtB:En->RS:=ZC 2 (zg zF (vE 2) (cE (.int 1)))
theorem w1n {t:T} {a:Sl} {ρ:En}:vB 1 (a :: .vl t :: ρ)= .ok t:=rfl
theorem Vo {d:Nat} (hd:d<=2) {k:Kd} (h:k.Ok d) {lo hi n:Nat} (h1:lo<=hi) (h3:hi<=3) (hn:n < shr k.all.length lo (hi+1 - lo)):∀ (f q:Nat),q<=hi - lo->hi - lo - q < f->shr k.all.length lo q<=n->
  ∃ q',q' <=hi - lo/\shr k.all.length lo q' <=n/\n < shr k.all.length lo (q' +1)/\Js mtT mtB f [.vl (mt k.t lo hi), .vl (.int (n:Int)), .vl (.int ((lo+q:Nat):Int))]= .nx [.vl (mt k.t lo hi), .vl (.int (n:Int)), .vl (.int ((lo+q' :Nat):Int))]
 | 0,q,_,hf,_=>by omega
 | f+1,q,hq,hf,hs=>by
  have et:mtT [.vl (mt k.t lo hi), .vl (.int (n:Int)), .vl (.int ((lo+q:Nat):Int))]= .ok (decide (shr k.all.length lo (q+1)<=n)):=by
   rw [mtT,Zg,Zd,v0,bOk,V5 v2,bOk,show ((lo+q:Nat):Int)+1=((lo+(q+1):Nat):Int) by omega,UU hd h (by omega),bOk,w1n,bOk,vX,Uk]
  have eu:Js mtT mtB (f+1) [.vl (mt k.t lo hi), .vl (.int (n:Int)), .vl (.int ((lo+q:Nat):Int))]=(mtT [.vl (mt k.t lo hi), .vl (.int (n:Int)), .vl (.int ((lo+q:Nat):Int))]).s fun k' =>if k' =true then match mtB [.vl (mt k.t lo hi), .vl (.int (n:Int)), .vl (.int ((lo+q:Nat):Int))] with
    | .nx ρ2=>Js mtT mtB f ρ2
    | .ct ρ2=>Js mtT mtB f ρ2
    | .bk ρ2=> .nx ρ2
    | r=>r
   else .nx [.vl (mt k.t lo hi), .vl (.int (n:Int)), .vl (.int ((lo+q:Nat):Int))]:=rfl
  rw [eu,et,jA]
  by_cases hc:shr k.all.length lo (q+1)<=n
  ·rw [if_pos (decide_eq_true hc)]
   have hq2:q+1<=hi - lo:=by
    rcases Nat.lt_or_ge q (hi - lo) with z | z
    ·exact z
    ·have:q=hi - lo:=by omega
     rw [this,show hi - lo+1=hi+1 - lo by omega] at hc
     omega
   have eb:mtB [.vl (mt k.t lo hi), .vl (.int (n:Int)), .vl (.int ((lo+q:Nat):Int))]= .nx [.vl (mt k.t lo hi), .vl (.int (n:Int)), .vl (.int ((lo+(q+1):Nat):Int))]:=by
    rw [mtB,ZW (t:= .int ((lo+(q+1):Nat):Int))]
    ·rfl
    ·rw [V5 v2,show ((lo+q:Nat):Int)+1=((lo+(q+1):Nat):Int) by omega]
   rw [eb]
   exact Vo hd h h1 h3 hn f (q+1) hq2 (by omega) hc
  ·rw [if_neg (by simpa using hc)]
   exact ⟨q,hq,hs,by omega,rfl⟩
end G
namespace G
open PySem L2 PV
theorem Gg {i j:Nat} (h:j<=i):uV (.int (i:Int)) (.int (j:Int))= .ok (.int ((i - j:Nat):Int)):=by
 rw [Jz]; congr 2; omega
theorem Qf {d:Nat} (hd:d<=2) {k:Kd} (h:k.Ok d) {cp:List T->R T} {lo hi n:Nat} (h1:lo<=hi) (h3:hi<=3) (hn:n < shr k.all.length lo (hi+1 - lo))
  (H:∀ (m:Nat),m<=3->∀ (j:Nat) (xs:List T),(ZN [[]] (List.replicate m k.all))[j]? =some xs->cp [.lst (List.replicate m k.t), .int (j:Int)]= .ok (.tup xs)):
  ∃ x,(Kd.many k lo hi).all[n]? =some x/\zp (Jw (zC 20) cp (en0 3 [mt k.t lo hi, .int (n:Int)]))= .ok x:=by
 obtain ⟨q,hq,hs,hs',e⟩:=Vo hd h h1 h3 hn 8 0 (by omega) (by omega) (by unfold shr; simp)
 rw [qG] at hs'
 have hj:n - shr k.all.length lo q < (ZN [[]] (List.replicate (lo+q) k.all)).length:=by
  rw [JC,List.map_replicate,JP]; omega
 obtain ⟨xs,hx⟩:=jV hj
 have ha:=Vh (k:=k) (lo:=lo) (hi:=hi) (by omega) hx
 rw [show shr k.all.length lo q+(n - shr k.all.length lo q)=n by omega] at ha
 refine ⟨_,ha, ?_⟩
 have e0:ZC 2 (zg ixT (vE 0) (cE (.int 2))) [.vl (mt k.t lo hi), .vl (.int (n:Int)), .un]= .nx [.vl (mt k.t lo hi), .vl (.int (n:Int)), .vl (.int ((lo+0:Nat):Int))]:=rfl
 show zp (Jw (zC 20) cp [.vl (mt k.t lo hi), .vl (.int (n:Int)), .un])=_
 rw [Jw,zl e0,zl e,zX (t:= .tup xs)]
 ·rfl
 ·show zc 2 cp _ [.vl (mt k.t lo hi), .vl (.int (n:Int)), .vl (.int ((lo+q:Nat):Int))]=_
  have em:zg Zq (Wr (z9 (zg ixT (vE 0) (cE (.int 1))) (zh))) (vE 2) [.vl (mt k.t lo hi), .vl (.int (n:Int)), .vl (.int ((lo+q:Nat):Int))]= .ok (.lst (List.replicate (lo+q) k.t)):=by
   rw [zt,G6 Yk,bOk,v2,bOk,yO (by omega),wq]
  rw [Zd,em,bOk,zt,v1,bOk,Zd,v0,bOk,v2,bOk,UU hd h (by omega),bOk,Gg hs,bOk,H (lo+q) (by omega) _ xs hx]
theorem Vp {d:Nat} (hd:d<=2) {k:Kd} (h:k.Ok d):k.all.length < 1000000:=by
 have h1:=w8 d k h
 have h2:mx d<=70644:=by
  have:d=0\/d=1\/d=2:=by omega
  rcases this with rfl | rfl | rfl <;> decide
 omega
theorem wF:∀ (d n:Nat),3*d<=n->d<=3->∀ k:Kd,k.Ok d->∀ (i:Nat) (x:T),k.all[i]? =some x->zx n 0 [k.t, .int (i:Int)]= .ok x
 | 0,_,_,_,_,h=>h.elim
 | d+1,n+3,hn,hd,k,h=>by
  intro i x hx
  have ih:=wF d n (by omega) (by omega)
  have ih1:=wF d (n+1) (by omega) (by omega)
  have e:zx (n+3) 0 [k.t, .int (i:Int)]=zp (wn zr (zx (n+2) 1) (zx (n+2) 2) (en2 k.t (.int (i:Int)))):=rfl
  have e2:∀ s u,zx (n+2) 2 [s,u]=zp (jm (zw 20) (zx (n+1) 0) (en0 6 [s,u])):=fun s u=>rfl
  have e2' :∀ s u,zx (n+1) 2 [s,u]=zp (jm (zw 20) (zx n 0) (en0 6 [s,u])):=fun s u=>rfl
  have e1:∀ s u,zx (n+2) 1 [s,u]=zp (Jw (zC 20) (zx (n+1) 2) (en0 3 [s,u])):=fun s u=>rfl
  have hi' :=(List.getElem?_eq_some_iff.mp hx).1
  rw [e,wn]
  cases k with
  | whole lo hi=>
   rw [Kd.all,List.getElem?_map] at hx
   rw [JA] at hi'
   rw [List.getElem?_range hi'] at hx
   cases hx
   simp only [Kd.t]
   rw [jJ (t:= .int (lo+(i:Int)))]
   ·rfl
   ·rw [Kp,zX]; rfl
  | pick cs=>
   have hw:=UR cs h.2.1
   rw [Kd.all] at hx
   simp only [Kd.t] at hw ⊢
   rw [zl (Qz (by decide)),jJ (t:=x)]
   ·rfl
   ·rw [Kp,zX]
    show zg ixT _ _ (en2 _ _)=_
    rw [zt,ZV,v0,bOk,hw,bOk,v1,bOk]
    exact Gc hx
  | row ks=>
   obtain ⟨h1,h2,h3⟩:=h
   rw [Kd.all,Kd.alls_map,List.getElem?_map] at hx
   cases hr:(ZN [[]] (ks.map Kd.all))[i]? with
   | none=>rw [hr] at hx; cases hx
   | some xs=>
    rw [hr] at hx
    cases hx
    simp only [Kd.t]
    rw [Kd.ts_map,zl (Qz (by decide)),zl (Qz (by decide)),jJ (t:= .tup xs)]
    ·rfl
    ·rw [Kp,zX]
     show zc 2 _ _ (en2 _ _)=_
     rw [Zd,Yk,bOk,v1,bOk,e2]
     refine uv ks rfl h2 (fun k hk=>⟨Jf (by omega) (h3 k hk),ih1 k (h3 k hk),j3 d k (h3 k hk),Vp (by omega) (h3 k hk)⟩) hr
  | many k lo hi=>
   obtain ⟨h1,h2,h3⟩:=h
   rw [Je,qH] at hi'
   obtain ⟨x',hx',hv⟩:=Qf (cp:=zx (n+1) 2) (by omega:d<=2) h3 h1 h2 hi' (fun m hm j xs hr=>by
    rw [e2']
    refine uv (List.replicate m k) (by rw [List.map_replicate]; rfl) (by rw [List.length_replicate]; exact hm) (fun k' hk' => ?_) (by rw [List.map_replicate]; exact hr)
    rw [List.eq_of_mem_replicate hk']
    exact ⟨Jf (by omega) h3,ih k h3,j3 d k h3,Vp (by omega) h3⟩)
   rw [hx] at hx'
   cases hx'
   simp only [Kd.t]
   rw [zl (Qz (by decide)),zl (Qz (by decide)),zl (Qz (by decide)),zX (t:=x)]
   ·rfl
   ·show zc 2 _ _ (en2 _ _)=_
    rw [Zd,v0,bOk,v1,bOk,e1]
    exact hv
theorem qK {k:Kd} (h:k.Ok 3) {i:Nat} {x:T} (hx:k.all[i]? =some x):zN 20 [k.t, .int (i:Int)]= .ok x:=wF 3 20 (by omega) (by omega) k h i x hx
end G
namespace G
open PySem L2 PV
theorem Uo:∀ (ls made:List (List T)) (m:Nat),(∀ a∈made,a.length=m)->∀ a∈ZN made ls,a.length=m+ls.length
 | [],made,m,h,a,ha=>h a ha
 | l :: ls,made,m,h,a,ha=>by
  have:=Uo ls (made.flatMap fun a=>l.map fun x=>a++[x]) (m+1) (fun b hb=>by
   obtain ⟨c,hc,hb⟩:=List.mem_flatMap.mp hb
   obtain ⟨z,_,rfl⟩:=List.mem_map.mp hb
   rw [List.length_append,List.length_singleton,h c hc]) a ha
  rw [List.length_cons]; omega
theorem yU {ls:List (List T)} {n:Nat} {xs:List T} (h:(ZN [[]] ls)[n]? =some xs):xs.length=ls.length:=by
 have:=Uo ls [[]] 0 (fun a ha=>by rw [List.mem_singleton.mp ha]; rfl) xs (List.mem_of_getElem? h)
 omega
theorem Qg {ls:List (List T)} {l:List T} {n:Nat} {xs:List T} (hl:1<=l.length) (h:(ZN [[]] (ls++[l]))[n]? =some xs):∃ ys y,(ZN [[]] ls)[n / l.length]? =some ys/\l[n % l.length]? =some y/\xs=ys++[y]:=by
 have hn:=(List.getElem?_eq_some_iff.mp h).1
 rw [JC,List.map_append,List.map_singleton,UT,← JC] at hn
 obtain ⟨ys,hy⟩:=jV (xs:=ZN [[]] ls) (i:=n / l.length) (Nat.div_lt_of_lt_mul (by rw [Nat.mul_comm]; exact hn))
 obtain ⟨y,hy'⟩:=jV (Nat.mod_lt n hl)
 refine ⟨ys,y,hy,hy', ?_⟩
 have:=qF hy hy'
 rw [Nat.mul_comm,Nat.div_add_mod,h] at this
 exact Option.some.inj this
theorem YC {g:T->En->R En} {fb:En->RS} (hb:∀ ρ ρ',fb ρ ≠ .bk ρ'):∀ (as bs:List T) (ρ ρ' :En),jq g fb as ρ= .nx ρ' ->jq g fb (as++bs) ρ=jq g fb bs ρ'
 | [],bs,ρ,ρ',h=>by cases h; rfl
 | a :: as,bs,ρ,ρ',h=>by
  have e:∀ cs,jq g fb (a :: cs) ρ=match g a ρ with
   | .ok ρ1=>match fb ρ1 with
    | .nx ρ2=>jq g fb cs ρ2
    | .ct ρ2=>jq g fb cs ρ2
    | .bk ρ2=> .nx ρ2
    | r=>r
   | .ex c=> .bad
   | .bad=> .bad:=fun cs=>rfl
  rw [List.cons_append,e]
  rw [e] at h
  cases hg:g a ρ with
  | bad=>rw [hg] at h; cases h
  | ex c=>rw [hg] at h; cases h
  | ok ρ1=>
   rw [hg] at h
   dsimp only at h ⊢
   cases hf:fb ρ1 with
   | nx ρ2=>rw [hf] at h; exact YC hb as bs ρ2 ρ' h
   | ct ρ2=>rw [hf] at h; exact YC hb as bs ρ2 ρ' h
   | bk ρ2=>exact absurd hf (hb _ _)
   | rt t=>rw [hf] at h; cases h
   | ex c=>rw [hf] at h; cases h
   | bad=>rw [hf] at h; cases h
   | rf t=>rw [hf] at h; cases h
theorem Kb {i:Nat} {f:En->R T} (ρ ρ' :En):ZC i f ρ ≠ .bk ρ' :=by
 rw [Wx]; cases f ρ <;> exact fun h=>nomatch h
noncomputable abbrev ppB (cc cl:List T->R T):En->RS:=ZC 2 (zg zF (zg Zq (vE 2) (zc 1 cc (z9 (vE 3) (zh)))) (zc 2 cl (z9 (vE 3) (z9 (vE 4) (zh)))))
structure PlOk (cc cl:List T->R T) (k:Kd):Prop where
 cnt:cc [k.t]= .ok (.int (k.all.length:Int))
 pl:∀ (i:Nat) x,k.all[i]? =some x->cl [k.t,x]= .ok (.int (i:Int))
 pos:1<=k.all.length
noncomputable abbrev zpT (q:Kd×T):T:=T.tup [q.1.t,q.2]
theorem Vq {cc cl:List T->R T} {S P:Sl}:∀ (rs:List Kd) (n:Nat) (xs:List T) (a b:Sl),(∀ k∈rs,PlOk cc cl k)->n < 2 ^ 60->(ZN [[]] (rs.reverse.map Kd.all))[n]? =some xs->
  ∃ x y,jq (jk 3 4) (ppB cc cl) ((rs.reverse.zip xs).map zpT) [S,P, .vl (.int 0),a,b]= .nx [S,P, .vl (.int (n:Int)),x,y]
 | [],n,xs,a,b,_,_,h=>by
  have hn:=(List.getElem?_eq_some_iff.mp h).1
  have:n=0:=by
   have e:(ZN [[]] (([]:List Kd).reverse.map Kd.all)).length=1:=rfl
   omega
  subst this
  exact ⟨a,b,by simp [jq]⟩
 | k :: rs,n,xs,a,b,H,hb,h=>by
  obtain ⟨hc,hp,h1⟩:=H k List.mem_cons_self
  rw [List.reverse_cons,List.map_append,List.map_singleton] at h
  obtain ⟨ys,y,hy,hy',rfl⟩:=Qg h1 h
  have hdiv:n / k.all.length<=n:=Nat.div_le_self ..
  obtain ⟨x',y',e⟩:=Vq (cc:=cc) (cl:=cl) (S:=S) (P:=P) rs (n / k.all.length) ys a b (fun k' hk' =>H k' (List.mem_cons_of_mem _ hk')) (by omega) hy
  have hl:rs.reverse.length=ys.length:=by rw [yU hy,List.length_map]
  refine ⟨.vl k.t, .vl y, ?_⟩
  rw [List.reverse_cons,List.zip_append hl,List.map_append,YC Kb _ _ _ _ e]
  have eb:ppB cc cl [S,P, .vl (.int ((n / k.all.length:Nat):Int)), .vl k.t, .vl y]= .nx [S,P, .vl (.int (n:Int)), .vl k.t, .vl y]:=by
   rw [ppB,ZW (t:= .int (n:Int))]
   ·rfl
   ·rw [zt,zt,v2,bOk,ZV,v3,bOk,hc,bOk,yQ (by omega),bOk,Zd,v3,bOk,v4,bOk,hp _ y hy',bOk,ZI]
    congr 2
    have:=Nat.div_add_mod n k.all.length
    rw [Nat.mul_comm] at this
    omega
  show jq (jk 3 4) (ppB cc cl) [T.tup [k.t,y]] [S,P, .vl (.int ((n / k.all.length:Nat):Int)),x',y']=_
  rw [ur (ρ1:=[S,P, .vl (.int ((n / k.all.length:Nat):Int)), .vl k.t, .vl y]) rfl eb]
  rfl
theorem yV {cc cl:List T->R T} {s:T} (ks:List Kd) (hs:We s= .ok (ks.map Kd.t)) (H:∀ k∈ks,PlOk cc cl k) {n:Nat} {xs:List T} (hn:n < 2 ^ 60) (hx:(ZN [[]] (ks.map Kd.all))[n]? =some xs):
  zp (Z2 cc cl (en0 5 [s, .tup xs]))= .ok (.int (n:Int)):=by
 obtain ⟨x,y,e⟩:=Vq (cc:=cc) (cl:=cl) (S:= .vl s) (P:= .vl (.tup xs)) ks.reverse n xs .un .un (fun k hk=>H k (List.mem_reverse.mp hk)) hn (by rw [List.reverse_reverse]; exact hx)
 rw [List.reverse_reverse] at e
 have e0:ZC 2 (cE (.int 0)) [.vl s, .vl (.tup xs), .un, .un, .un]= .nx [.vl s, .vl (.tup xs), .vl (.int 0), .un, .un]:=rfl
 have e1:wP (Xp (vE 0) (vE 1)) (jk 3 4) (ppB cc cl) [.vl s, .vl (.tup xs), .vl (.int 0), .un, .un]= .nx [.vl s, .vl (.tup xs), .vl (.int (n:Int)),x,y]:=by
  show (((We s).bind fun xs' =>R.ok (vH xs' xs)).s fun ts=>jq (jk 3 4) (ppB cc cl) ts [.vl s, .vl (.tup xs), .vl (.int 0), .un, .un])=_
  rw [hs,bOk,jA,Gb]
  exact e
 show zp (Z2 cc cl [.vl s, .vl (.tup xs), .un, .un, .un])=_
 rw [Z2,zl e0,zl e1]
 rfl
theorem qL (c lo:Nat):∀ (m n:Nat),n < shr c lo m->∃ q,q < m/\shr c lo q<=n/\n < shr c lo (q+1)
 | 0,n,h=>by simp [shr] at h
 | m+1,n,h=>by
  by_cases hc:shr c lo m<=n
  ·exact ⟨m,by omega,hc,h⟩
  ·obtain ⟨q,h1,h2,h3⟩:=qL c lo m n (by omega)
   exact ⟨q,by omega,h2,h3⟩
end G
namespace G
open PySem L2 PV
theorem Vr (x:Str):∀ cs:List (Str×Int),eqs (.str x) (cs.map fun c=>T.str c.1)=some (cs.map fun c=>c.1 == x)
 | []=>rfl
 | c :: cs=>by
  show (match eqF 30 (.str c.1) (.str x) with
   | none=>none
   | some b=>match eqs (.str x) (cs.map fun (c:Str×Int)=>T.str c.1) with
    | none=>none
    | some bs=>some (b :: bs))=_
  rw [Vr x cs]; rfl
theorem uw:∀ (bs:List Bool) (i:Nat),bs[i]? =some true->(∀ j,j < i->bs[j]? =some false)->bs.idxOf true=i
 | [],i,h,_=>by simp at h
 | b :: bs,0,h,_=>by
  have:b=true:=by simpa using h
  subst this; rfl
 | b :: bs,i+1,h,hj=>by
  have h0:b=false:=by simpa using hj 0 (by omega)
  subst h0
  have:=uw bs i (by simpa using h) fun j h' =>by simpa using hj (j+1) (by omega)
  rw [List.idxOf_cons,this]; rfl
theorem xY {cs:List (Str×Int)} (hd:Dst (cs.map (·.1))) {i:Nat} {c:Str×Int} (h:cs[i]? =some c):vL (.str c.1) (cs.map fun c=>T.str c.1)= .ok (.int (i:Int)):=by
 unfold vL
 rw [Vr]
 dsimp only
 have hi:=(List.getElem?_eq_some_iff.mp h).1
 have h1:(cs.map fun d=>d.1 == c.1)[i]? =some true:=by rw [List.getElem?_map,h]; simp
 rw [if_pos (List.mem_of_getElem? h1),uw _ i h1 fun j hj=> ?_]
 rw [List.getElem?_map]
 cases hc:cs[j]? with
 | none=>rw [List.getElem?_eq_none_iff] at hc; omega
 | some d=>
  have hw:=hd i c.1 (by rw [List.getElem?_map,h]; rfl)
  have:d.1 ≠ c.1:=fun e=>hw (by
   rw [← e]
   refine List.mem_of_getElem? (i:=j) ?_
   rw [List.getElem?_take_of_lt hj,List.getElem?_map,hc]; rfl)
  show some (d.1 == c.1)=some false
  rw [beq_eq_false_iff_ne.mpr this]
noncomputable abbrev en3 (a b:T) (c:Sl):En:=[.vl a, .vl b,c]
theorem Kq {x w:Str} {r:List T} {b:T} {c:Sl} (h:(x == w)=false) {f:En->RS}:ifS (Zp eqC (zg ixT (vE 0) (cE (.int 0))) (cE (.str w))) f nxS (en3 (.tup (.str x :: r)) b c)= .nx (en3 (.tup (.str x :: r)) b c):=
 JB (by rw [cs0,h])
theorem z0l {x:Str} {r:List T} {b:T} {c:Sl} {f:En->RS}:ifS (Zp eqC (zg ixT (vE 0) (cE (.int 0))) (cE (.str x))) f nxS (en3 (.tup (.str x :: r)) b c)=f (en3 (.tup (.str x :: r)) b c):=
 xR (by rw [cs0,beq_self_eq_true])
theorem Gh {d:Nat} (hd:d<=3) {k:Kd} (h:k.Ok d):k.all.length < 2 ^ 60:=K6 (w8 d k h) hd
theorem qM:∀ (d n:Nat),2*d<=n->d<=3->∀ k:Kd,k.Ok d->∀ (i:Nat) (x:T),k.all[i]? =some x->Z3 n 0 [k.t,x]= .ok (.int (i:Int))
 | 0,_,_,_,_,h=>h.elim
 | d+1,n+2,hn,hd,k,h=>by
  intro i x hx
  have ih:=qM d n (by omega) (by omega)
  have e:Z3 (n+2) 0 [k.t,x]=zp (wp zr (zC 20) (Z3 (n+1) 1) (en3 k.t x .un)):=rfl
  have e1:∀ s u,Z3 (n+1) 1 [s,u]=zp (Z2 (zw 20) (Z3 n 0) (en0 5 [s,u])):=fun s u=>rfl
  have hi' :=(List.getElem?_eq_some_iff.mp hx).1
  have h60:=Gh hd h
  rw [e,wp]
  cases k with
  | whole lo hi=>
   rw [Kd.all,List.getElem?_map] at hx
   rw [JA] at hi'
   rw [List.getElem?_range hi'] at hx
   cases hx
   simp only [Kd.t]
   rw [jJ (t:= .int (i:Int))]
   ·rfl
   ·rw [z0l,zX]
    show R.ok (T.int (lo+(i:Int) - lo))=_
    congr 2; omega
  | pick cs=>
   have hw:=UR cs h.2.1
   rw [Kd.all,List.getElem?_map] at hx
   cases hc:cs[i]? with
   | none=>rw [hc] at hx; cases hx
   | some c=>
    rw [hc] at hx
    cases hx
    simp only [Kd.t] at hw ⊢
    rw [zl (Kq (by decide)),jJ (t:= .int (i:Int))]
    ·rfl
    ·rw [z0l,zX]
     show ((zc 1 zr (z9 (vE 0) (zh)) (en3 _ _ _)).bind _)=_
     rw [ZV,v0,bOk,hw,bOk]
     show vL (.str c.1) (cs.map fun (c:Str×Int)=>T.str c.1)=_
     exact xY h.2.2.2 hc
  | row ks=>
   obtain ⟨h1,h2,h3⟩:=h
   rw [Kd.all,Kd.alls_map,List.getElem?_map] at hx
   cases hr:(ZN [[]] (ks.map Kd.all))[i]? with
   | none=>rw [hr] at hx; cases hx
   | some xs=>
    rw [hr] at hx
    cases hx
    simp only [Kd.t]
    rw [Kd.ts_map,zl (Kq (by decide)),zl (Kq (by decide)),jJ (t:= .int (i:Int))]
    ·rfl
    ·rw [z0l,zX]
     show zc 2 _ _ (en3 _ _ _)=_
     rw [Zd,Yk,bOk,v1,bOk,e1]
     exact yV ks rfl (fun k hk=>⟨Jf (by omega) (h3 k hk),ih k (h3 k hk),j3 d k (h3 k hk)⟩) (by omega) hr
  | many k lo hi=>
   obtain ⟨h1,h2,h3⟩:=h
   rw [Je,qH] at hi'
   obtain ⟨q,hq,hs,hs'⟩:=qL _ _ _ _ hi'
   rw [qG] at hs'
   have hj:i - shr k.all.length lo q < (ZN [[]] (List.replicate (lo+q) k.all)).length:=by
    rw [JC,List.map_replicate,JP]; omega
   obtain ⟨xs,hr⟩:=jV hj
   have ha:=Vh (k:=k) (lo:=lo) (hi:=hi) hq hr
   rw [show shr k.all.length lo q+(i - shr k.all.length lo q)=i by omega,hx] at ha
   cases ha
   have hl:=yU hr
   rw [List.length_replicate] at hl
   simp only [Kd.t]
   have e3:ZC 2 (ap1 JF (vB 1)) (en3 (mt k.t lo hi) (.tup xs) .un)= .nx (en3 (mt k.t lo hi) (.tup xs) (.vl (.int ((lo+q:Nat):Int)))):=by
    rw [← hl]; rfl
   rw [zl (Kq (by decide)),zl (Kq (by decide)),zl (Kq (by decide)),zl e3,zX (t:= .int (i:Int))]
   ·rfl
   ·show zg zF _ _ (en3 (mt k.t lo hi) (.tup xs) (.vl (.int ((lo+q:Nat):Int))))=_
    have em:zg Zq (Wr (z9 (zg ixT (vE 0) (cE (.int 1))) (zh))) (vE 2) (en3 (mt k.t lo hi) (.tup xs) (.vl (.int ((lo+q:Nat):Int))))= .ok (.lst (List.replicate (lo+q) k.t)):=by
     rw [zt,G6 Yk,bOk,v2,bOk,yO (by omega),wq]
    have ep:Z3 (n+1) 1 [.lst (List.replicate (lo+q) k.t), .tup xs]= .ok (.int ((i - shr k.all.length lo q:Nat):Int)):=by
     rw [e1]
     refine yV (List.replicate (lo+q) k) (by rw [List.map_replicate]; rfl) (fun k' hk' => ?_) (by
      rw [Je,qH] at h60; omega) (by rw [List.map_replicate]; exact hr)
     rw [List.eq_of_mem_replicate hk']
     exact ⟨Jf (by omega) h3,ih k h3,j3 d k h3⟩
    rw [zt,Zd,v0,bOk,v2,bOk,UU (by omega) h3 (by omega),bOk,Zd,em,bOk,v1,bOk,ep,bOk,ZI]
    have hz:((shr k.all.length lo q:Nat):Int)+((i - shr k.all.length lo q:Nat):Int)=(i:Int):=by clear h60; omega
    rw [hz]
theorem YD {k:Kd} (h:k.Ok 3) {i:Nat} {x:T} (hx:k.all[i]? =some x):Z4 20 [k.t,x]= .ok (.int (i:Int)):=qM 3 20 (by omega) (by omega) k h i x hx
end G
namespace G
open PySem L2 PV
noncomputable def Pl:Nat->T->Prop
 | 0,_=>False
 | n+1, .tup xs=>∀ x∈xs,Pl n x
 | n+1, .lst xs=>∀ x∈xs,Pl n x
 | _+1, .fz _=>False
 | _+1,_=>True
theorem u8 {f:T->T->Option Bool}:∀ (xs ys:List T),(∀ x∈xs,∀ y,∃ b,f x y=some b)->∃ b,eqL f xs ys=some b
 | [],[],_=>⟨_,rfl⟩
 | [],_ :: _,_=>⟨_,rfl⟩
 | _ :: _,[],_=>⟨_,rfl⟩
 | x :: xs,y :: ys,h=>by
  obtain ⟨b,hb⟩:=h x List.mem_cons_self y
  obtain ⟨c,hc⟩:=u8 xs ys fun z hz=>h z (List.mem_cons_of_mem _ hz)
  exact ⟨b && c,by unfold eqL; rw [hb,hc]⟩
theorem jp {f:T->T->Option Bool}:∀ (xs:List T),(∀ x∈xs,f x x=some true)->eqL f xs xs=some true
 | [],_=>rfl
 | x :: xs,h=>by
  unfold eqL
  rw [h x List.mem_cons_self,jp xs fun z hz=>h z (List.mem_cons_of_mem _ hz)]
  rfl
theorem W1:∀ (n:Nat) (y x:T),Pl n y->∃ b,eqF n y x=some b
 | 0,_,_,h=>h.elim
 | n+1,y,x,h=>by
  cases y with
  | tup xs=>
   have h:∀ x∈xs,Pl n x:=h
   cases x with
   | tup ys=>rw [eqF]; exact u8 xs ys fun z hz u=>W1 n z u (h z hz)
   | _=>exact ⟨false,by rw [eqF] <;> intros <;> first | rfl | contradiction | (intro z; cases z)⟩
  | lst xs=>
   have h:∀ x∈xs,Pl n x:=h
   cases x with
   | lst ys=>rw [eqF]; exact u8 xs ys fun z hz u=>W1 n z u (h z hz)
   | fz ys=>rw [eqF]; exact u8 xs ys fun z hz u=>W1 n z u (h z hz)
   | _=>exact ⟨false,by rw [eqF] <;> intros <;> first | rfl | contradiction | (intro z; cases z)⟩
  | fz xs=>exact h.elim
  | non=>cases x <;> exact ⟨_,rfl⟩
  | bl b=>cases x <;> exact ⟨_,rfl⟩
  | int i=>cases x <;> exact ⟨_,rfl⟩
  | str i=>cases x <;> exact ⟨_,rfl⟩
theorem Zw:∀ (n:Nat) (y:T),Pl n y->eqF n y y=some true
 | 0,_,h=>h.elim
 | n+1,y,h=>by
  cases y with
  | tup xs=>rw [eqF]; exact jp xs fun z hz=>Zw n z ((show ∀ x∈xs,Pl n x from h) z hz)
  | lst xs=>rw [eqF]; exact jp xs fun z hz=>Zw n z ((show ∀ x∈xs,Pl n x from h) z hz)
  | fz xs=>exact h.elim
  | non=>rfl
  | bl b=>show some (b == b)=_; simp
  | int i=>show some (i == i)=_; simp
  | str i=>show some (i == i)=_; simp
theorem Pl.up:∀ (n:Nat) (y:T),Pl n y->Pl (n+1) y
 | 0,_,h=>h.elim
 | n+1,y,h=>by
  cases y with
  | tup xs=>exact fun z hz=>Pl.up n z ((show ∀ x∈xs,Pl n x from h) z hz)
  | lst xs=>exact fun z hz=>Pl.up n z ((show ∀ x∈xs,Pl n x from h) z hz)
  | fz xs=>exact h.elim
  | _=>exact trivial
theorem Pl.le {n m:Nat} {y:T} (hm:n<=m) (h:Pl n y):Pl m y:=by
 obtain ⟨j,rfl⟩:∃ j,m=n+j:=⟨m - n,by omega⟩
 clear hm
 induction j with
 | zero=>exact h
 | succ j ih=>exact Pl.up _ _ ih
theorem Qh:∀ (d:Nat) (k:Kd) (x:T),k.Ok d->k.has x=true->Pl d x
 | 0,_,_,h,_=>h.elim
 | d+1, .whole lo hi,x,h,hx=>by
  rw [Kd.has] at hx
  obtain ⟨i,rfl⟩:=Yy hx
  trivial
 | d+1, .pick cs,x,h,hx=>by
  rw [Kd.has] at hx
  dsimp only at hx
  split at hx
  ·trivial
  ·cases hx
 | d+1, .row ks,x,h,hx=>by
  rw [Kd.has] at hx
  dsimp only at hx
  split at hx
  ·rename_i xs
   rw [Bool.and_eq_true,beq_iff_eq] at hx
   intro y hy
   obtain ⟨k,hk,hh⟩:=US ks xs hx.1 hx.2 y hy
   exact Qh d k y (h.2.2 k hk) hh
  ·cases hx
 | d+1, .many k lo hi,x,h,hx=>by
  rw [Kd.has] at hx
  dsimp only at hx
  split at hx
  ·rename_i xs
   rw [Bool.and_eq_true,List.all_eq_true] at hx
   exact fun y hy=>Qh d k y h.2.2 (hx.2 y hy)
  ·cases hx
theorem XB {k:Kd} (hk:k.Ok 3):Pl 4 (.lst k.all):=fun x hx=>Qh 3 k x hk ((Jl k x).mp hx)
theorem UV {t:T} (h:Pl 30 t):neC t t= .ok false:=by unfold neC; rw [Zw 30 t h]; rfl
theorem xZ {t:T} (h:Pl 30 t):eqC t t= .ok true:=by unfold eqC; rw [Zw 30 t h]
theorem Vs {k:Kd} (hk:k.Ok 3):zU [k.t]= .ok .non:=by
 have hi:=qD 3 k hk
 rw [WA _ (u5 3 _ hi).so,if_pos hi]
theorem wG {f:En->R T} {ρ:En} {t:T} (h:f ρ= .ok t):WM f ρ= .nx ρ:=by unfold WM; rw [h,jA]
theorem W2 {k:Kd} (hk:k.Ok 3) (x:T):zK [k.t,x]=if k.has x=true then .ok .non else .ex 1:=by
 show zp (Jc jQ (en2 k.t x))=_
 have ec:Qw (VM (zc 2 jQ (z9 (vE 0) (z9 (vE 1) (zh))))) (en2 k.t x)= .ok (!k.has x):=by
  rw [Uh,qr,Zd,v0,bOk,v1,bOk,YB k hk x,bOk,yG,bOk]
 rw [Jc,Jy,ec,jA]
 cases k.has x <;> rfl
theorem Vt {k:Kd} (hk:k.Ok 3) {i:Nat} {x:T} (hx:k.all[i]? =some x):jT [k.t,x]= .ok (.int (i:Int)):=by
 have hh:=(Jl k x).mp (List.mem_of_getElem? hx)
 show zp (JO zK (Z4 20) (en2 k.t x))=_
 rw [JO,zl (wG (t:= .non) (by rw [Zd,v0,bOk,v1,bOk,W2 hk,if_pos hh])),zX (t:= .int (i:Int))]
 ·rfl
 ·show zc 2 _ _ (en2 _ _)=_
  rw [Zd,v0,bOk,v1,bOk,YD hk hx]
theorem all_map (k:Kd):((rng 0 k.all.length).map fun t=>match t with | .int i=>(k.all[i.toNat]?).getD .non | y=>y)=k.all:=by
 unfold rng
 rw [List.map_map]
 refine List.ext_getElem? fun i=> ?_
 rw [List.getElem?_map]
 by_cases hi:i < k.all.length
 ·rw [List.getElem?_range hi]
  show some ((k.all[((0:Int)+(i:Int)).toNat]?).getD .non)=_
  rw [show ((0:Int)+(i:Int)).toNat=i by omega]
  obtain ⟨x,hx⟩:=jV hi
  rw [hx]; rfl
 ·rw [List.getElem?_eq_none (by simpa using hi),List.getElem?_eq_none (by omega)]; rfl
theorem Vu {f:En->R T} {ρ:En} {j:Int} (hf:f ρ= .ok (.int j)) (h: -1000000 < j/\j < 1000000):J7 f ρ= .ok (rng 0 j.toNat):=by
 unfold J7
 rw [hf,bOk]
 exact if_pos h
theorem Gi {i j:Int}:gtC (.int i) (.int j)= .ok (decide (j < i)):=rfl
theorem UW {k:Kd} (hk:k.Ok 3) (h5:k.all.length<=500):jx [k.t]= .ok (.lst k.all):=by
 show zp (Jb zU (zw 20) (zN 20) [.vl k.t, .un])=_
 have e1:ZC 1 (zc 1 (zw 20) (z9 (vE 0) (zh))) [.vl k.t, .un]= .nx (en2 k.t (.int (k.all.length:Int))):=by
  rw [ZW (t:= .int (k.all.length:Int))]
  ·rfl
  ·rw [ZV,v0,bOk,Jf (by omega) hk]
 have e2:Zp gtC (vB 1) (cE (.int 500)) (en2 k.t (.int (k.all.length:Int)))= .ok false:=by
  rw [Zg,w1,bOk,jg,bOk,Gi,decide_eq_false (by omega)]
 have er:J7 (vE 1) (en2 k.t (.int (k.all.length:Int)))= .ok (rng 0 k.all.length):=by
  rw [Vu (j:=(k.all.length:Int)) rfl ⟨by omega,by omega⟩,Int.toNat_natCast]
 have ec:Zc (zP 0) j8 (zc 2 (zN 20) (z9 (vE 1) (z9 (vE 0) (zh)))) 1 [0] (en2 k.t (.int (k.all.length:Int))) (rng 0 k.all.length)= .ok ((rng 0 k.all.length).map fun t=>match t with | .int i=>(k.all[i.toNat]?).getD .non | y=>y):=
  ZH _ (by unfold rng; rw [List.length_map,List.length_range]; have:bnd=16777216:=rfl; omega) fun t ht=>by
   unfold rng at ht
   obtain ⟨i,hi,rfl⟩:=List.mem_map.mp ht
   obtain ⟨x,hx⟩:=jV (List.mem_range.mp hi)
   show zc 2 _ _ (en2 (.int ((0:Int)+(i:Int))) k.t)=R.ok ((k.all[((0:Int)+(i:Int)).toNat]?).getD .non)
   rw [show ((0:Int)+(i:Int))=(i:Int) by omega,Zd,v1,bOk,v0,bOk,qK hk hx,Int.toNat_natCast,hx]
   rfl
 have e3:Gv (J7 (vE 1)) (zP 0) (j8) (zc 2 (zN 20) (z9 (vE 1) (z9 (vE 0) (zh)))) 1 [0] (en2 k.t (.int (k.all.length:Int)))= .rf k.all:=by
  show ((J7 (vE 1) (en2 k.t (.int (k.all.length:Int)))).s fun ts=>(Zc _ _ _ _ _ (en2 k.t (.int (k.all.length:Int))) ts).s fun vs=>RS.rf vs)=_
  rw [er,jA,ec,jA,all_map]
 rw [Jb,zl (wG (t:= .non) (by rw [ZV,v0,bOk,Vs hk])),zl e1,zl (JB e2),e3]
 rfl
end G
namespace G
open PySem L2 PV
end G
namespace G
open PySem L2 PV
end G
namespace G
open PySem L2 PV
noncomputable def Wt:Nat->T->Prop
 | 0,_=>False
 | n+1, .tup xs=>∀ x∈xs,Wt n x
 | _+1, .int _=>True
 | _+1, .str _=>True
 | _+1,_=>False
theorem Kc:∀ (d:Nat) (k:Kd) (x:T),k.Ok d->k.has x=true->Wt d x
 | 0,_,_,h,_=>h.elim
 | d+1, .whole lo hi,x,h,hx=>by
  rw [Kd.has] at hx
  obtain ⟨i,rfl⟩:=Yy hx
  trivial
 | d+1, .pick cs,x,h,hx=>by
  rw [Kd.has] at hx
  dsimp only at hx
  split at hx
  ·trivial
  ·cases hx
 | d+1, .row ks,x,h,hx=>by
  rw [Kd.has] at hx
  dsimp only at hx
  split at hx
  ·rename_i xs
   rw [Bool.and_eq_true,beq_iff_eq] at hx
   intro y hy
   obtain ⟨k,hk,hh⟩:=US ks xs hx.1 hx.2 y hy
   exact Kc d k y (h.2.2 k hk) hh
  ·cases hx
 | d+1, .many k lo hi,x,h,hx=>by
  rw [Kd.has] at hx
  dsimp only at hx
  split at hx
  ·rename_i xs
   rw [Bool.and_eq_true,List.all_eq_true] at hx
   exact fun y hy=>Kc d k y h.2.2 (hx.2 y hy)
  ·cases hx
theorem XD {f:T->T->Option Bool}:∀ (xs ys:List T),(∀ x∈xs,∀ y∈ys,f x y=some true->x=y)->eqL f xs ys=some true->xs=ys
 | [],[],_,_=>rfl
 | [],_ :: _,_,h=>by cases h
 | _ :: _,[],_,h=>by cases h
 | x :: xs,y :: ys,H,h=>by
  unfold eqL at h
  cases e:f x y with
  | none=>rw [e] at h; cases h
  | some b=>
   rw [e] at h
   dsimp only at h
   cases e' :eqL f xs ys with
   | none=>rw [e'] at h; cases h
   | some c=>
    rw [e'] at h
    have h:(b && c)=true:=Option.some.inj h
    rw [Bool.and_eq_true] at h
    rw [h.1] at e
    rw [h.2] at e'
    rw [H x List.mem_cons_self y List.mem_cons_self e,XD xs ys (fun a ha b hb=>H a (List.mem_cons_of_mem _ ha) b (List.mem_cons_of_mem _ hb)) e']
theorem XE:∀ (n:Nat) (x y:T),Wt n x->Wt n y->eqF n x y=some true->x=y
 | 0,_,_,h,_,_=>h.elim
 | n+1,x,y,hx,hy,h=>by
  cases x with
  | tup xs=>
   cases y with
   | tup ys=>
    rw [eqF] at h
    rw [XD xs ys (fun a ha b hb e=>XE n a b ((show ∀ x∈xs,Wt n x from hx) a ha) ((show ∀ x∈ys,Wt n x from hy) b hb) e) h]
   | int j=>cases h
   | str j=>cases h
   | _=>exact hy.elim
  | int i=>
   cases y with
   | int j=>
    have h:some (i == j)=some true:=h
    rw [eq_of_beq (Option.some.inj h)]
   | tup ys=>cases h
   | str j=>cases h
   | _=>exact hy.elim
  | str i=>
   cases y with
   | str j=>
    have h:some (i == j)=some true:=h
    rw [eq_of_beq (Option.some.inj h)]
   | tup ys=>cases h
   | int j=>cases h
   | _=>exact hy.elim
  | _=>exact hx.elim
theorem Wt.up:∀ (n:Nat) (y:T),Wt n y->Wt (n+1) y
 | 0,_,h=>h.elim
 | n+1,y,h=>by
  cases y with
  | tup xs=>exact fun z hz=>Wt.up n z ((show ∀ x∈xs,Wt n x from h) z hz)
  | int i=>trivial
  | str i=>trivial
  | _=>exact h.elim
theorem Wt.le {n m:Nat} {y:T} (hm:n<=m) (h:Wt n y):Wt m y:=by
 obtain ⟨j,rfl⟩:∃ j,m=n+j:=⟨m - n,by omega⟩
 clear hm
 induction j with
 | zero=>exact h
 | succ j ih=>exact Wt.up _ _ ih
theorem Ke {k:Kd} (hk:k.Ok 3) {i j:Nat} {x:T} (hi:k.all[i]? =some x) (hj:k.all[j]? =some x):i=j:=by
 have h1:=YD hk hi
 rw [YD hk hj] at h1
 have h2:(j:Int)=(i:Int):=by
  injection h1 with h1
  injection h1
 omega
theorem Vv (y:T):∀ ts:List T,(∀ t∈ts,∃ b,eqF 30 t y=some b)->eqs y ts=some (ts.map fun t=>(eqF 30 t y).getD false)
 | [],_=>rfl
 | t :: ts,h=>by
  obtain ⟨b,hb⟩:=h t List.mem_cons_self
  show (match eqF 30 t y with
   | none=>none
   | some b=>match eqs y ts with
    | none=>none
    | some bs=>some (b :: bs))=_
  rw [Vv y ts fun u hu=>h u (List.mem_cons_of_mem _ hu),List.map_cons,hb]
  rfl
theorem Kf {k:Kd} (hk:k.Ok 3) {i:Nat} {x:T} (hx:k.all[i]? =some x):vL x k.all= .ok (.int (i:Int)):=by
 have hw:∀ t∈k.all,Wt 30 t:=fun t ht=>(Kc 3 k t hk ((Jl k t).mp ht)).le (by omega)
 have hp:∀ t∈k.all,Pl 30 t:=fun t ht=>(Qh 3 k t hk ((Jl k t).mp ht)).le (by omega)
 have hm:=List.mem_of_getElem? hx
 have e:(k.all.map fun t=>(eqF 30 t x).getD false)[i]? =some true:=by
  rw [List.getElem?_map,hx]
  show some ((eqF 30 x x).getD false)=_
  rw [Zw 30 x (hp x hm)]; rfl
 unfold vL
 rw [Vv x k.all fun t ht=>W1 30 t x (hp t ht)]
 dsimp only
 rw [if_pos (List.mem_of_getElem? e),uw _ i e fun j hj=> ?_]
 have hi:=(List.getElem?_eq_some_iff.mp hx).1
 obtain ⟨y,hy⟩:=jV (xs:=k.all) (i:=j) (by omega)
 rw [List.getElem?_map,hy]
 show some ((eqF 30 y x).getD false)=_
 obtain ⟨b,hb⟩:=W1 30 y x (hp y (List.mem_of_getElem? hy))
 rw [hb]
 cases b with
 | false=>rfl
 | true=>
  have:=XE 30 y x (hw y (List.mem_of_getElem? hy)) (hw x hm) hb
  subst this
  have:=Ke hk hx hy
  omega
theorem XF {k:Kd} (hk:k.Ok 3) {i:Nat} {x:T} (hx:k.all[i]? =some x):zD [k.t, .int (i:Int)]= .ok x:=by
 have hi:=(List.getElem?_eq_some_iff.mp hx).1
 have e:chT leC ltC (cE (.int 0)) (vB 1) (zc 1 (zw 20) (z9 (vE 0) (zh))) (en2 k.t (.int (i:Int)))= .ok true:=by
  have e0:chT leC ltC (cE (.int 0)) (vB 1) (zc 1 (zw 20) (z9 (vE 0) (zh))) (en2 k.t (.int (i:Int)))=(if decide (0<=(i:Int))=true then (zc 1 (zw 20) (z9 (vE 0) (zh)) (en2 k.t (.int (i:Int)))).bind fun z=>ltC (.int (i:Int)) z else .ok false):=rfl
  rw [e0,ZV,v0,bOk,Jf (by omega) hk,bOk,if_pos (decide_eq_true (by omega))]
  show R.ok (decide ((i:Int) < (k.all.length:Int)))=_
  rw [decide_eq_true (by omega)]
 show zp (Zu (zw 20) (zN 20) (en2 k.t (.int (i:Int))))=_
 rw [Zu,zl (JB (by rw [Uh,e,bOk]; rfl)),zX (t:=x)]
 ·rfl
 ·show zc 2 _ _ (en2 _ _)=_
  rw [Zd,v0,bOk,v1,bOk,qK hk hx]
theorem Vw {k:Kd} (hk:k.Ok 3) {i:Int} (hi:i < 0\/(k.all.length:Int)<=i):zD [k.t, .int i]= .ok .non:=by
 have e:chT leC ltC (cE (.int 0)) (vB 1) (zc 1 (zw 20) (z9 (vE 0) (zh))) (en2 k.t (.int i))= .ok false:=by
  have e0:chT leC ltC (cE (.int 0)) (vB 1) (zc 1 (zw 20) (z9 (vE 0) (zh))) (en2 k.t (.int i))=(if decide (0<=i)=true then (zc 1 (zw 20) (z9 (vE 0) (zh)) (en2 k.t (.int i))).bind fun z=>ltC (.int i) z else .ok false):=rfl
  rw [e0,ZV,v0,bOk,Jf (by omega) hk,bOk]
  show (if decide (0<=i)=true then R.ok (decide (i < (k.all.length:Int))) else .ok false)=_
  rcases hi with h | h
  ·rw [if_neg (by simp; omega)]
  ·split
   ·rw [decide_eq_false (by omega)]
   ·rfl
 show zp (Zu (zw 20) (zN 20) (en2 k.t (.int i)))=_
 rw [Zu,jJ (t:= .non)]
 ·rfl
 ·rw [xR (by rw [Uh,e,bOk]; rfl)]; rfl
theorem X0 {k:Kd} (hk:k.Ok 3) {i:Nat} {x:T} (hx:k.all[i]? =some x):zK [k.t,x]= .ok .non:=by
 rw [W2 hk,if_pos ((Jl k x).mp (List.mem_of_getElem? hx))]
theorem Vx {k:Kd} (hk:k.Ok 3) {i:Nat} {x:T} (hx:k.all[i]? =some x):Zj [k.t,x]=zD [k.t, .int ((i:Int)+1)]:=by
 show zp (Jd zK (Z4 20) zD (en2 k.t x))=_
 rw [Jd,zl (wG (t:= .non) (by rw [Zd,v0,bOk,v1,bOk,X0 hk hx]))]
 show zp ((zc 2 zD _ (en2 k.t x)).s fun t=> .rt t)=_
 rw [wy,Zd,v0,bOk,zt,Zd,v0,bOk,v1,bOk,YD hk hx,bOk,jg,bOk,ZI,bOk]
theorem qN {k:Kd} (hk:k.Ok 3) {i:Nat} {x:T} (hx:k.all[i]? =some x):Z7 [k.t,x]=zD [k.t, .int ((i:Int) - 1)]:=by
 show zp (jM zK (Z4 20) zD (en2 k.t x))=_
 rw [jM,zl (wG (t:= .non) (by rw [Zd,v0,bOk,v1,bOk,X0 hk hx]))]
 show zp ((zc 2 zD _ (en2 k.t x)).s fun t=> .rt t)=_
 rw [wy,Zd,v0,bOk,zt,Zd,v0,bOk,v1,bOk,YD hk hx,bOk,jg,bOk,Jz,bOk]
theorem Vy {k:Kd} (hk:k.Ok 3) {x:T} (hx:k.all[(k.all.length - 1) / 2]? =some x):JM [k.t]= .ok x:=by
 have hpos:=j3 3 k hk
 show zp (u0 zU (zw 20) (zN 20) [.vl k.t])=_
 rw [u0,zl (wG (t:= .non) (by rw [ZV,v0,bOk,Vs hk])),zX (t:=x)]
 ·rfl
 ·show zc 2 _ _ [.vl k.t]=_
  rw [Zd,v0,bOk,zt,zt,ZV,v0,bOk,Jf (by omega) hk,bOk,jg,bOk,Jz,bOk,jg,bOk,show (k.all.length:Int) - 1=((k.all.length - 1:Nat):Int) by omega,show (2:Int)=((2:Nat):Int) from rfl,Vl (by omega) (by omega),bOk,qK hk hx]
theorem Vz (xs:List T) (a n:Nat) (h:a+n<=xs.length):((rng (a:Int) n).map fun t=>match t with | .int i=>(xs[i.toNat]?).getD .non | y=>y)=(xs.drop a).take n:=by
 unfold rng
 rw [List.map_map]
 refine List.ext_getElem? fun i=> ?_
 rw [List.getElem?_map]
 by_cases hi:i < n
 ·rw [List.getElem?_range hi,List.getElem?_take_of_lt hi,List.getElem?_drop]
  show some ((xs[((a:Int)+(i:Int)).toNat]?).getD .non)=_
  rw [show ((a:Int)+(i:Int)).toNat=a+i by omega]
  obtain ⟨x,hx⟩:=jV (xs:=xs) (i:=a+i) (by omega)
  rw [hx]; rfl
 ·rw [List.getElem?_eq_none (by simpa using hi),List.getElem?_eq_none (by rw [List.length_take]; omega)]; rfl
noncomputable abbrev btE (a:T) (b c d e:Sl):En:=[.vl a,b,c,d,e]
theorem Up {k:Kd} (hk:k.Ok 3) (h5:k.all.length<=500) {a b:Nat} {x y:T} (hx:k.all[a]? =some x) (hy:k.all[b]? =some y):Jx [k.t,x,y]= .ok (.lst ((k.all.drop a).take (b+1 - a))):=by
 have ha:=(List.getElem?_eq_some_iff.mp hx).1
 have hb:=(List.getElem?_eq_some_iff.mp hy).1
 show zp (wZ zK (zN 20) (Z4 20) (btE k.t (.vl x) (.vl y) .un .un))=_
 have e1:ZC 3 (zc 2 (Z4 20) (z9 (vE 0) (z9 (vE 1) (zh)))) (btE k.t (.vl x) (.vl y) .un .un)= .nx (btE k.t (.vl x) (.vl y) (.vl (.int (a:Int))) .un):=by
  rw [ZW (t:= .int (a:Int))]
  ·rfl
  ·rw [Zd,v0,bOk,v1,bOk,YD hk hx]
 have e2:ZC 4 (zc 2 (Z4 20) (z9 (vE 0) (z9 (vE 2) (zh)))) (btE k.t (.vl x) (.vl y) (.vl (.int (a:Int))) .un)= .nx (btE k.t (.vl x) (.vl y) (.vl (.int (a:Int))) (.vl (.int (b:Int)))):=by
  rw [ZW (t:= .int (b:Int))]
  ·rfl
  ·rw [Zd,v0,bOk,v2,bOk,YD hk hy]
 have e3:Zp gtC (zg zF (zg uV (vE 4) (vE 3)) (cE (.int 1))) (cE (.int 500)) (btE k.t (.vl x) (.vl y) (.vl (.int (a:Int))) (.vl (.int (b:Int))))= .ok false:=by
  rw [Zg,zt,zt,v4,bOk,v3,bOk,Jz,bOk,jg,bOk,ZI,bOk,jg,bOk,Gi,decide_eq_false (by omega)]
 have er:wS (vE 3) (zg zF (vE 4) (cE (.int 1))) (btE k.t (.vl x) (.vl y) (.vl (.int (a:Int))) (.vl (.int (b:Int))))= .ok (rng (a:Int) (b+1 - a)):=by
  rw [UO (i:=(a:Int)) (j:=(b:Int)+1) rfl rfl ⟨by omega,by omega,by omega,by omega⟩]
  congr 2; omega
 have ec:Zc (zP 0) j8 (zc 2 (zN 20) (z9 (vE 1) (z9 (vE 0) (zh)))) 1 [0] (btE k.t (.vl x) (.vl y) (.vl (.int (a:Int))) (.vl (.int (b:Int)))) (rng (a:Int) (b+1 - a))= .ok ((rng (a:Int) (b+1 - a)).map fun t=>match t with | .int i=>(k.all[i.toNat]?).getD .non | y=>y):=
  ZH _ (by unfold rng; rw [List.length_map,List.length_range]; have:bnd=16777216:=rfl; omega) fun t ht=>by
   unfold rng at ht
   obtain ⟨i,hi,rfl⟩:=List.mem_map.mp ht
   have hi2:=List.mem_range.mp hi
   obtain ⟨z,hz⟩:=jV (xs:=k.all) (i:=a+i) (by omega)
   show zc 2 _ _ (en2 (.int ((a:Int)+(i:Int))) k.t)=R.ok ((k.all[((a:Int)+(i:Int)).toNat]?).getD .non)
   rw [show ((a:Int)+(i:Int))=((a+i:Nat):Int) by omega,Zd,v1,bOk,v0,bOk,qK hk hz,Int.toNat_natCast,hz]
   rfl
 rw [wZ,zl (wG (t:= .non) (by rw [Zd,v0,bOk,v1,bOk,X0 hk hx])),zl (wG (t:= .non) (by rw [Zd,v0,bOk,v2,bOk,X0 hk hy])),zl e1,zl e2,zl (JB e3),zX (t:= .lst ((k.all.drop a).take (b+1 - a)))]
 ·rfl
 ·show jw _ _ _ _ _ _ (btE k.t (.vl x) (.vl y) (.vl (.int (a:Int))) (.vl (.int (b:Int))))=_
  rw [jh,er,bOk,ec,bOk]
  by_cases hab:a<=b+1
  ·rw [Vz k.all a (b+1 - a) (by omega)]
  ·rw [show b+1 - a=0 by omega]; rfl
end G
namespace G
open PySem L2 PV
noncomputable abbrev enS (ns:List Int) (k:Kd) (c d e f:Sl):En:=[.vl (scr ns), .vl k.t, .vl (.lst k.all),c,d,e,f]
theorem sv0 {ns:List Int} {k:Kd} {c d e f:Sl}:vE 0 (enS ns k c d e f)= .ok (scr ns):=rfl
theorem sv1 {ns:List Int} {k:Kd} {c d e f:Sl}:vE 1 (enS ns k c d e f)= .ok k.t:=rfl
theorem sv2 {ns:List Int} {k:Kd} {c d e f:Sl}:vE 2 (enS ns k c d e f)= .ok (.lst k.all):=rfl
theorem sw2 {ns:List Int} {k:Kd} {c d e f:Sl}:vB 2 (enS ns k c d e f)= .ok (.lst k.all):=rfl
theorem sv3 {ns:List Int} {k:Kd} {d e f:Sl} {t:T}:vE 3 (enS ns k (.vl t) d e f)= .ok t:=rfl
theorem sw3 {ns:List Int} {k:Kd} {d e f:Sl} {t:T}:vB 3 (enS ns k (.vl t) d e f)= .ok t:=rfl
theorem sv4 {ns:List Int} {k:Kd} {c e f:Sl} {t:T}:vE 4 (enS ns k c (.vl t) e f)= .ok t:=rfl
theorem sw4 {ns:List Int} {k:Kd} {c e f:Sl} {t:T}:vB 4 (enS ns k c (.vl t) e f)= .ok t:=rfl
theorem sv5 {ns:List Int} {k:Kd} {c d f:Sl} {t:T}:vE 5 (enS ns k c d (.vl t) f)= .ok t:=rfl
theorem sv6 {ns:List Int} {k:Kd} {c d e:Sl} {t:T}:vE 6 (enS ns k c d e (.vl t))= .ok t:=rfl
theorem sw6 {ns:List Int} {k:Kd} {c d e:Sl} {t:T}:vB 6 (enS ns k c d e (.vl t))= .ok t:=rfl
theorem z0m {ns:List Int} {k:Kd} {c d e f:Sl}:ap1 JF (vB 2) (enS ns k c d e f)= .ok (.int (k.all.length:Int)):=rfl
theorem snn {i:Int}:neC (.int i) (.int i)= .ok false:=by show R.ok (!(i == i))=_; simp
noncomputable abbrev zpB:En->RS:=ifS (orT (Zp neC (zc 2 Zj (z9 (vE 1) (z9 (vE 3) (zh)))) (vB 4)) (Zp neC (zc 2 Z7 (z9 (vE 1) (z9 (vE 4) (zh)))) (vB 3))) (Zb (cE (.bl false))) (nxS)
theorem plx {k:Kd} (hk:k.Ok 3) {i:Nat} {x:T} (hx:k.all[i]? =some x):Pl 30 x:=(Qh 3 k x hk ((Jl k x).mp (List.mem_of_getElem? hx))).le (by omega)
theorem Kg (ns:List Int) {k:Kd} (hk:k.Ok 3) {i:Nat} {x y:T} (hx:k.all[i]? =some x) (hy:k.all[i+1]? =some y) (e f:Sl):zpB (enS ns k (.vl x) (.vl y) e f)= .nx (enS ns k (.vl x) (.vl y) e f):=by
 have h1:Zj [k.t,x]= .ok y:=by
  rw [Vx hk hx,show (i:Int)+1=((i+1:Nat):Int) by omega]
  exact XF hk hy
 have h2:Z7 [k.t,y]= .ok x:=by
  rw [qN hk hy,show ((i+1:Nat):Int) - 1=(i:Int) by omega]
  exact XF hk hx
 refine JB ?_
 rw [Q8,Zg,Zd,sv1,bOk,sv3,bOk,h1,bOk,sw4,bOk,UV (plx hk hy),bOk,if_neg Bool.false_ne_true,Zg,Zd,sv1,bOk,sv4,bOk,h2,bOk,sw3,bOk,UV (plx hk hx)]
theorem VA (ns:List Int) {k:Kd} (hk:k.Ok 3):∀ (qs:List (T×T)) (c d e f:Sl),(∀ q∈qs,∃ i:Nat,k.all[i]? =some q.1/\k.all[i+1]? =some q.2)->∃ c' d',jq (jk 3 4) zpB (qs.map fun q=>T.tup [q.1,q.2]) (enS ns k c d e f)= .nx (enS ns k c' d' e f)
 | [],c,d,e,f,_=>⟨c,d,rfl⟩
 | q :: qs,c,d,e,f,h=>by
  obtain ⟨i,h1,h2⟩:=h q List.mem_cons_self
  rw [List.map_cons,ur (ρ1:=enS ns k (.vl q.1) (.vl q.2) e f) rfl (Kg ns hk h1 h2 e f)]
  exact VA ns hk qs _ _ _ _ fun r hr=>h r (List.mem_cons_of_mem _ hr)
theorem VB {xs:List T} {q:T×T} (h:q∈xs.zip (xs.drop 1)):∃ i:Nat,xs[i]? =some q.1/\xs[i+1]? =some q.2:=by
 obtain ⟨i,hi,e⟩:=List.getElem_of_mem h
 have:=List.getElem?_eq_getElem hi
 rw [e] at this
 have h2:=List.getElem?_zip_eq_some.mp this
 refine ⟨i,h2.1, ?_⟩
 have h3:=h2.2
 rw [List.getElem?_drop] at h3
 rw [Nat.add_comm]; exact h3
theorem Kh (xs:List T) (a b:Nat) (ha:a<=xs.length) (hb:b<=xs.length):cut xs (some (a:Int)) (some (b:Int))=(xs.drop a).take (b - a):=by
 unfold cut
 rw [HT.sIx_nat,HT.sIx_nat,Nat.min_eq_left ha,Nat.min_eq_left hb]
theorem VC {xs:List T} {x:T} (h:xs[xs.length - 1]? =some x):ixT (.lst xs) (.int (-1))= .ok x:=by
 have hl:=(List.getElem?_eq_some_iff.mp h).1
 show atT xs (-1)=_
 unfold atT atI ixN
 rw [if_neg (by omega),if_pos (by omega)]
 show (match xs[((-1:Int)+(xs.length:Int)).toNat]? with | some t=>R.ok t | none=> .bad)=_
 rw [show ((-1:Int)+(xs.length:Int)).toNat=xs.length - 1 by omega,h]
noncomputable abbrev btB:En->RS:=zL (gz 3 4 (z9 (zc 3 zm (z9 (vE 0) (z9 (vE 5) (z9 (ap1 JF (vB 2)) (zh))))) (z9 (zc 3 zm (z9 (vE 0) (z9 (zg zF (cE (.int 3)) (vE 5)) (z9 (ap1 JF (vB 2)) (zh))))) (zh))))
  (ifS (Zp neC (zc 3 Jx (z9 (vE 1) (z9 (zg ixT (vE 2) (vE 3)) (z9 (zg ixT (vE 2) (vE 4)) (zh))))) (slE (vE 2) (WL (vE 3)) (WL (zg zF (vE 4) (cE (.int 1)))))) (Zb (cE (.bl false))) (nxS))
theorem X1 {k:Kd} (hk:k.Ok 3) (a n:Nat):Pl 30 (.lst ((k.all.drop a).take n)):=by
 have h:Pl 4 (.lst ((k.all.drop a).take n)):=fun x hx=>Qh 3 k x hk ((Jl k x).mp (List.mem_of_mem_drop (List.mem_of_mem_take hx)))
 exact h.le (by omega)
theorem Ki (ns:List Int) {k:Kd} (hk:k.Ok 3) (h5:k.all.length<=500) (j:Nat) (c d f:Sl):∃ c' d',btB (enS ns k c d (.vl (.int (0+(j:Int)))) f)= .nx (enS ns k c' d' (.vl (.int (0+(j:Int)))) f):=by
 have hpos:=j3 3 k hk
 obtain ⟨p,hp,p0,p1⟩:=ZF ns (0+(j:Int)) (k.all.length:Int) (by omega) (by omega)
 obtain ⟨q,hq,q0,q1⟩:=ZF ns (3+(0+(j:Int))) (k.all.length:Int) (by omega) (by omega)
 obtain ⟨a,rfl⟩:=Int.eq_ofNat_of_zero_le p0
 obtain ⟨b,rfl⟩:=Int.eq_ofNat_of_zero_le q0
 obtain ⟨x,hx⟩:=jV (xs:=k.all) (i:=a) (by omega)
 obtain ⟨y,hy⟩:=jV (xs:=k.all) (i:=b) (by omega)
 refine ⟨.vl (.int (a:Int)), .vl (.int (b:Int)), ?_⟩
 have e1:gz 3 4 (z9 (zc 3 zm (z9 (vE 0) (z9 (vE 5) (z9 (ap1 JF (vB 2)) (zh))))) (z9 (zc 3 zm (z9 (vE 0) (z9 (zg zF (cE (.int 3)) (vE 5)) (z9 (ap1 JF (vB 2)) (zh))))) (zh))) (enS ns k c d (.vl (.int (0+(j:Int)))) f)= .nx (enS ns k (.vl (.int (a:Int))) (.vl (.int (b:Int))) (.vl (.int (0+(j:Int)))) f):=by
  have h1:zc 3 zm (z9 (vE 0) (z9 (vE 5) (z9 (ap1 JF (vB 2)) (zh)))) (enS ns k c d (.vl (.int (0+(j:Int)))) f)= .ok (.int (a:Int)):=by
   rw [jz,sv0,bOk,sv5,bOk,z0m,bOk,hp]
  have h2:zc 3 zm (z9 (vE 0) (z9 (zg zF (cE (.int 3)) (vE 5)) (z9 (ap1 JF (vB 2)) (zh)))) (enS ns k c d (.vl (.int (0+(j:Int)))) f)= .ok (.int (b:Int)):=by
   rw [jz,sv0,bOk,zt,jg,bOk,sv5,bOk,ZI,bOk,z0m,bOk,hq]
  unfold gz z9 zh
  unfold z9 zh at h1 h2
  rw [h1,h2]; rfl
 have e2:Zp neC (zc 3 Jx (z9 (vE 1) (z9 (zg ixT (vE 2) (vE 3)) (z9 (zg ixT (vE 2) (vE 4)) (zh))))) (slE (vE 2) (WL (vE 3)) (WL (zg zF (vE 4) (cE (.int 1))))) (enS ns k (.vl (.int (a:Int))) (.vl (.int (b:Int))) (.vl (.int (0+(j:Int)))) f)= .ok false:=by
  have h3:slE (vE 2) (WL (vE 3)) (WL (zg zF (vE 4) (cE (.int 1)))) (enS ns k (.vl (.int (a:Int))) (.vl (.int (b:Int))) (.vl (.int (0+(j:Int)))) f)= .ok (.lst (cut k.all (some (a:Int)) (some ((b:Int)+1)))):=rfl
  rw [Zg,jz,sv1,bOk,zt,sv2,bOk,sv3,bOk,UM hx,bOk,zt,sv2,bOk,sv4,bOk,UM hy,bOk,Up hk h5 hx hy,bOk,h3,bOk,show (b:Int)+1=((b+1:Nat):Int) by omega,Kh k.all a (b+1) (by omega) (by omega),UV (X1 hk _ _)]
 rw [btB,zl e1,JB e2]
theorem VD (ns:List Int) {k:Kd} (hk:k.Ok 3) (h5:k.all.length<=500):∀ (js:List Nat) (c d e f:Sl),∃ c' d' e',jq (zP 5) btB (js.map fun (j:Nat)=>T.int (0+(j:Int))) (enS ns k c d e f)= .nx (enS ns k c' d' e' f)
 | [],c,d,e,f=>⟨c,d,e,rfl⟩
 | j :: js,c,d,e,f=>by
  obtain ⟨c',d',hb⟩:=Ki ns hk h5 j c d f
  rw [List.map_cons,ur (ρ1:=enS ns k c d (.vl (.int (0+(j:Int)))) f) rfl hb]
  exact VD ns hk h5 js _ _ _ _
theorem law_ok (ns:List Int) (h:ns.length<=63):U0 [.fz (ns.map T.int)]= .ok (.bl true):=by
 obtain ⟨k,hk,h60,hs⟩:=xV ns 10 (by omega) 60 (by omega)
 have hs:ZE [scr ns, .int 10, .int 60]= .ok k.t:=hs
 have hpos:=j3 3 k hk
 have h5:k.all.length<=500:=by omega
 have ha:zB 8 [k.t]= .ok (.lst k.all):=V8 3 8 (by omega) (by omega) k hk (by omega)
 obtain ⟨x0,hx0⟩:=jV (xs:=k.all) (i:=0) (by omega)
 obtain ⟨xl,hxl⟩:=jV (xs:=k.all) (i:=k.all.length - 1) (by omega)
 obtain ⟨xm,hxm⟩:=jV (xs:=k.all) (i:=(k.all.length - 1) / 2) (by omega)
 have hm:=Vy hk hxm
 have e:U0 [.fz (ns.map T.int)]=zp (xL jT jx zm (zB 8) ZE Zj Z7 Jx JM [.vl (scr ns), .un, .un, .un, .un, .un, .un]):=rfl
 have e1:ZC 1 (zc 3 ZE (z9 (vE 0) (z9 (cE (.int 10)) (z9 (cE (.int 60)) (zh))))) [.vl (scr ns), .un, .un, .un, .un, .un, .un]= .nx [.vl (scr ns), .vl k.t, .un, .un, .un, .un, .un]:=by
  rw [ZW (t:=k.t)]
  ·rfl
  ·rw [jz,v0,bOk,jg,bOk,jg,bOk,hs]
 have e2:ZC 2 (zc 1 (zB 8) (z9 (vE 1) (zh))) [.vl (scr ns), .vl k.t, .un, .un, .un, .un, .un]= .nx (enS ns k .un .un .un .un):=by
  rw [ZW (t:= .lst k.all)]
  ·rfl
  ·rw [ZV,v1,bOk,ha]
 have e3:Zp neC (zc 1 jx (z9 (vE 1) (zh))) (vB 2) (enS ns k .un .un .un .un)= .ok false:=by
  rw [Zg,ZV,sv1,bOk,UW hk h5,bOk,sw2,bOk,UV ((XB hk).le (by omega))]
 obtain ⟨c',d',el⟩:=VA ns hk (k.all.zip (k.all.drop 1)) .un .un .un .un fun q hq=>VB hq
 have e4:wP (Xp (vE 2) (slE (vE 2) (WL (cE (.int 1))) (noO))) (jk 3 4) zpB (enS ns k .un .un .un .un)= .nx (enS ns k c' d' .un .un):=by
  have hz:Xp (vE 2) (slE (vE 2) (WL (cE (.int 1))) (noO)) (enS ns k .un .un .un .un)= .ok (vH k.all (cut k.all (some ((1:Nat):Int)) none)):=rfl
  have hc:cut k.all (some ((1:Nat):Int)) none=k.all.drop 1:=by
   unfold cut
   rw [HT.sIx_nat,HT.sIx_none,Nat.min_eq_left (by omega),List.take_of_length_le (by rw [List.length_drop]; omega)]
  unfold wP
  rw [hz,jA,hc]
  exact el
 have e5:orT (Zp uX (zc 2 Z7 (z9 (vE 1) (z9 (zg ixT (vE 2) (cE (.int 0))) (zh)))) (cE .non)) (Zp uX (zc 2 Zj (z9 (vE 1) (z9 (zg ixT (vE 2) (qZ (cE (.int 1)))) (zh)))) (cE .non)) (enS ns k c' d' .un .un)= .ok false:=by
  have i0:zg ixT (vE 2) (cE (.int 0)) (enS ns k c' d' .un .un)= .ok x0:=by rw [zt,sv2,bOk,jg,bOk]; exact UM hx0
  have il:zg ixT (vE 2) (qZ (cE (.int 1))) (enS ns k c' d' .un .un)= .ok xl:=by
   rw [zt,sv2,bOk]
   show ixT (.lst k.all) (.int (-1))=_
   exact VC hxl
  have h1:Z7 [k.t,x0]= .ok .non:=by rw [qN hk hx0]; exact Vw hk (.inl (by decide))
  have h2:Zj [k.t,xl]= .ok .non:=by rw [Vx hk hxl]; exact Vw hk (.inr (by omega))
  rw [Q8,Zg,Zd,sv1,bOk,i0,bOk,h1,bOk,jg,bOk]
  show (R.ok false).bind _=_
  rw [bOk,if_neg Bool.false_ne_true,Zg,Zd,sv1,bOk,il,bOk,h2,bOk,jg,bOk]
  rfl
 obtain ⟨c2,d2,e2',el2⟩:=VD ns hk h5 (List.range 3) c' d' .un .un
 have e6:wP (J7 (cE (.int 3))) (zP 5) btB (enS ns k c' d' .un .un)= .nx (enS ns k c2 d2 e2' .un):=by
  unfold wP
  rw [Vu (j:=3) rfl (by decide),jA]
  exact el2
 have e7:ZC 6 (Gs vL (vB 2) (zc 1 JM (z9 (vE 1) (zh)))) (enS ns k c2 d2 e2' .un)= .nx (enS ns k c2 d2 e2' (.vl (.int (((k.all.length - 1) / 2:Nat):Int)))):=by
  rw [ZW (t:= .int (((k.all.length - 1) / 2:Nat):Int))]
  ·rfl
  ·show (zc 1 JM (z9 (vE 1) (zh)) (enS ns k c2 d2 e2' .un)).bind (fun u=>vL u k.all)=_
   rw [ZV,sv1,bOk,hm,bOk,Kf hk hxm]
 have e8:orT (Zp neC (zc 2 jT (z9 (vE 1) (z9 (zc 1 JM (z9 (vE 1) (zh))) (zh)))) (vB 6)) (Zp v8 (zg uV (zg uV (ap1 JF (vB 2)) (cE (.int 1))) (zg Zq (cE (.int 2)) (vE 6))) (wk (z9 (cE (.int 0)) (z9 (cE (.int 1)) (zh))))) (enS ns k c2 d2 e2' (.vl (.int (((k.all.length - 1) / 2:Nat):Int))))= .ok false:=by
  rw [Q8,Zg,Zd,sv1,bOk,ZV,sv1,bOk,hm,bOk,Vt hk hxm,bOk,sw6,bOk,snn,bOk,if_neg Bool.false_ne_true,Zg,zt,zt,z0m,bOk,jg,bOk,Jz,bOk,zt,jg,bOk,sv6,bOk,show (2:Int)=((2:Nat):Int) from rfl,yQ (by omega),bOk,Jz,bOk,Kn jg jg,bOk]
  have hv:(k.all.length:Int) - 1 - ((2*((k.all.length - 1) / 2):Nat):Int)=0\/(k.all.length:Int) - 1 - ((2*((k.all.length - 1) / 2):Nat):Int)=1:=by omega
  rcases hv with hv | hv
  ·rw [hv]; rfl
  ·rw [hv]; rfl
 rw [e,xL,zl e1,zl e2,zl (JB e3),zl e4,zl (JB e5),zl e6,zl e7,zl (JB e8),zX (t:= .bl true)]
 ·rfl
 ·show yd eqC _ _ (enS ns k (Xg c2) (Xg d2) (Xg e2') (.vl (.int (((k.all.length - 1) / 2:Nat):Int))))=_
  generalize Xg c2=c3
  generalize Xg d2=d3
  generalize Xg e2' =e3'
  have i0:zg ixT (vE 2) (cE (.int 0)) (enS ns k c3 d3 e3' (.vl (.int (((k.all.length - 1) / 2:Nat):Int))))= .ok x0:=by rw [zt,sv2,bOk,jg,bOk]; exact UM hx0
  have il:zg ixT (vE 2) (qZ (cE (.int 1))) (enS ns k c3 d3 e3' (.vl (.int (((k.all.length - 1) / 2:Nat):Int))))= .ok xl:=by
   rw [zt,sv2,bOk]
   show ixT (.lst k.all) (.int (-1))=_
   exact VC hxl
  rw [uk,jz,sv1,bOk,i0,bOk,il,bOk,Up hk h5 hx0 hxl,bOk,sw2,bOk,List.drop_zero,List.take_of_length_le (by omega),xZ ((XB hk).le (by omega)),bOk]
end G
namespace G
open PySem PySem.Spec PyProof.Rows L2 PV
noncomputable def top (i:Nat):Stmt:=PySem.Challenge.pw_worthkinds_k75_whole_steps.main.body.getD i (.Pass ⟨0,0,0,0⟩)
noncomputable abbrev ux:Stmt:=top 41
noncomputable abbrev YE:List Str:=["_law_script","_law_k"]
theorem yW:zo YE ["_law_script","_law_k"] (ze ux):=by refine ⟨rfl,rfl,rfl, ?_,rfl, ?_, ?_⟩ <;> decide+kernel
noncomputable abbrev uy:Stmt:=top 42
noncomputable abbrev YF:List Str:=["_law_script","_law_k","_law_many","_law_drawn"]
theorem WB:zo YF ["_law_script","_law_k","_law_many"] (ze uy):=by refine ⟨rfl,rfl,rfl, ?_,rfl, ?_, ?_⟩ <;> decide+kernel
noncomputable abbrev Jm:Stmt:=top 43
noncomputable abbrev wz:List Str:=["_law_script","_law_at","_law_letters"]
theorem w9:zo wz ["_law_script","_law_at"] (ze Jm):=by refine ⟨rfl,rfl,rfl, ?_,rfl, ?_, ?_⟩ <;> decide+kernel
noncomputable abbrev jE:Stmt:=top 44
noncomputable abbrev JT:List Str:=["_law_script","_law_at","_law_low","_law_words","_law_k","_law_word"]
theorem zT:zo JT ["_law_script","_law_at"] (ze jE):=by refine ⟨rfl,rfl,rfl, ?_,rfl, ?_, ?_⟩ <;> decide+kernel
noncomputable abbrev wH:Stmt:=top 45
noncomputable abbrev uz:List Str:=["_law_script","_law_at","_law_deep","_law_way","_law_some","_law_low"]
theorem Jg:zo uz ["_law_script","_law_at","_law_deep"] (ze wH):=by refine ⟨rfl,rfl,rfl, ?_,rfl, ?_, ?_⟩ <;> decide+kernel
noncomputable abbrev Jn:Stmt:=top 49
noncomputable abbrev wA:List Str:=["_law_lists","_law_made","_law_some","_law_longer","_law_ahead"]
theorem Zh:zo wA ["_law_lists"] (ze Jn):=by refine ⟨rfl,rfl,rfl, ?_,rfl, ?_, ?_⟩ <;> decide+kernel
noncomputable abbrev wt:Stmt:=top 48
noncomputable abbrev Wi:List Str:=["_law_kind_here","_law_made","_law_size_here"]
theorem wI:zo Wi ["_law_kind_here"] (ze wt):=by refine ⟨rfl,rfl,rfl, ?_,rfl, ?_, ?_⟩ <;> decide+kernel
noncomputable abbrev wJ:Stmt:=top 46
noncomputable abbrev uA:List Str:=["_law_kind_here","_law_sizes","_law_made","_law_size_here","_law_inner"]
theorem Z8:zo uA ["_law_kind_here"] (ze wJ):=by refine ⟨rfl,rfl,rfl, ?_,rfl, ?_, ?_⟩ <;> decide+kernel
noncomputable abbrev WC:Stmt:=top 47
noncomputable abbrev yX:List Str:=["_law_script","_law_at","_law_most","_law_kind_here","_law_k"]
theorem jN:zo yX ["_law_script","_law_at","_law_most"] (ze WC):=by refine ⟨rfl,rfl,rfl, ?_,rfl, ?_, ?_⟩ <;> decide+kernel
noncomputable abbrev Uq:Stmt:=top 11
noncomputable abbrev Qi:List Str:=["thing"]
theorem YG:zo Qi ["thing"] (ze Uq):=by refine ⟨rfl,rfl,rfl, ?_,rfl, ?_, ?_⟩ <;> decide+kernel
noncomputable abbrev yY:Stmt:=top 14
noncomputable abbrev VE:List Str:=["low","high","least","most"]
theorem Qj:zo VE ["low","high","least","most"] (ze yY):=by refine ⟨rfl,rfl,rfl, ?_,rfl, ?_, ?_⟩ <;> decide+kernel
noncomputable abbrev W3:Stmt:=top 12
noncomputable abbrev UX:List Str:=["thing","least","most"]
theorem U3:zo UX ["thing","least","most"] (ze W3):=by refine ⟨rfl,rfl,rfl, ?_,rfl, ?_, ?_⟩ <;> decide+kernel
noncomputable abbrev uB:Stmt:=top 13
noncomputable abbrev yZ:List Str:=["thing"]
theorem Qk:zo yZ ["thing"] (ze uB):=by refine ⟨rfl,rfl,rfl, ?_,rfl, ?_, ?_⟩ <;> decide+kernel
noncomputable abbrev uC:Stmt:=top 17
noncomputable abbrev YH:List Str:=["thing"]
theorem Y0:zo YH ["thing"] (ze uC):=by refine ⟨rfl,rfl,rfl, ?_,rfl, ?_, ?_⟩ <;> decide+kernel
noncomputable abbrev jO:Stmt:=top 16
noncomputable abbrev JQ:List Str:=["thing","words"]
theorem wB:zo JQ ["thing"] (ze jO):=by refine ⟨rfl,rfl,rfl, ?_,rfl, ?_, ?_⟩ <;> decide+kernel
noncomputable abbrev JU:Stmt:=top 15
noncomputable abbrev WR:List Str:=["thing","levels"]
theorem Wj:zo WR ["thing","levels"] (ze JU):=by refine ⟨rfl,rfl,rfl, ?_,rfl, ?_, ?_⟩ <;> decide+kernel
noncomputable abbrev ji:Stmt:=top 18
noncomputable abbrev Jh:List Str:=["thing","levels"]
theorem wK:zo Jh ["thing","levels"] (ze ji):=by refine ⟨rfl,rfl,rfl, ?_,rfl, ?_, ?_⟩ <;> decide+kernel
noncomputable abbrev Y1:Stmt:=top 7
noncomputable abbrev VF:List Str:=["thing"]
theorem Ql:zo VF ["thing"] (ze Y1):=by refine ⟨rfl,rfl,rfl, ?_,rfl, ?_, ?_⟩ <;> decide+kernel
noncomputable abbrev uD:Stmt:=top 9
noncomputable abbrev YI:List Str:=["kind"]
theorem Y2:zo YI ["kind"] (ze uD):=by refine ⟨rfl,rfl,rfl, ?_,rfl, ?_, ?_⟩ <;> decide+kernel
noncomputable abbrev Ur:Stmt:=top 26
noncomputable abbrev Qm:List Str:=["kind"]
theorem YJ:zo Qm ["kind"] (ze Ur):=by refine ⟨rfl,rfl,rfl, ?_,rfl, ?_, ?_⟩ <;> decide+kernel
noncomputable abbrev JV:Stmt:=top 27
noncomputable abbrev WS:List Str:=["kinds","count","kind"]
theorem ZO:zo WS ["kinds"] (ze JV):=by refine ⟨rfl,rfl,rfl, ?_,rfl, ?_, ?_⟩ <;> decide+kernel
noncomputable abbrev jW:Stmt:=top 28
noncomputable abbrev wa:List Str:=["kind","length"]
theorem WT:zo wa ["kind","length"] (ze jW):=by refine ⟨rfl,rfl,rfl, ?_,rfl, ?_, ?_⟩ <;> decide+kernel
noncomputable abbrev jX:Stmt:=top 19
noncomputable abbrev wb:List Str:=["kind"]
theorem WU:zo wb ["kind"] (ze jX):=by refine ⟨rfl,rfl,rfl, ?_,rfl, ?_, ?_⟩ <;> decide+kernel
noncomputable abbrev Us:Stmt:=top 29
noncomputable abbrev Qn:List Str:=["kind","number"]
theorem YK:zo Qn ["kind","number"] (ze Us):=by refine ⟨rfl,rfl,rfl, ?_,rfl, ?_, ?_⟩ <;> decide+kernel
noncomputable abbrev Y3:Stmt:=top 30
noncomputable abbrev VG:List Str:=["kind","number","length"]
theorem Wk:zo VG ["kind","number"] (ze Y3):=by refine ⟨rfl,rfl,rfl, ?_,rfl, ?_, ?_⟩ <;> decide+kernel
noncomputable abbrev Ut:Stmt:=top 31
noncomputable abbrev Qo:List Str:=["kinds","number","parts","rest","kind","count"]
theorem jn:zo Qo ["kinds","number"] (ze Ut):=by refine ⟨rfl,rfl,rfl, ?_,rfl, ?_, ?_⟩ <;> decide+kernel
noncomputable abbrev wc:Stmt:=top 25
noncomputable abbrev WD:List Str:=["kind","count"]
theorem W4:zo WD ["kind"] (ze wc):=by refine ⟨rfl,rfl,rfl, ?_,rfl, ?_, ?_⟩ <;> decide+kernel
noncomputable abbrev qO:Stmt:=top 38
noncomputable abbrev X2:List Str:=["kind"]
theorem VH:zo X2 ["kind"] (ze qO):=by refine ⟨rfl,rfl,rfl, ?_,rfl, ?_, ?_⟩ <;> decide+kernel
noncomputable abbrev uE:Stmt:=top 20
noncomputable abbrev YL:List Str:=["kind","thing"]
theorem Y4:zo YL ["kind","thing"] (ze uE):=by refine ⟨rfl,rfl,rfl, ?_,rfl, ?_, ?_⟩ <;> decide+kernel
noncomputable abbrev wd:Stmt:=top 21
noncomputable abbrev WE:List Str:=["kinds","parts"]
theorem UY:zo WE ["kinds","parts"] (ze wd):=by refine ⟨rfl,rfl,rfl, ?_,rfl, ?_, ?_⟩ <;> decide+kernel
noncomputable abbrev Uu:Stmt:=top 8
noncomputable abbrev Qp:List Str:=["kind","thing"]
theorem YM:zo Qp ["kind","thing"] (ze Uu):=by refine ⟨rfl,rfl,rfl, ?_,rfl, ?_, ?_⟩ <;> decide+kernel
noncomputable abbrev WF:Stmt:=top 10
noncomputable abbrev Y5:List Str:=["kind","worth"]
theorem UZ:zo Y5 ["kind","worth"] (ze WF):=by refine ⟨rfl,rfl,rfl, ?_,rfl, ?_, ?_⟩ <;> decide+kernel
noncomputable abbrev Uv:Stmt:=top 32
noncomputable abbrev Qq:List Str:=["kind","worth","length"]
theorem uF:zo Qq ["kind","worth"] (ze Uv):=by refine ⟨rfl,rfl,rfl, ?_,rfl, ?_, ?_⟩ <;> decide+kernel
noncomputable abbrev JW:Stmt:=top 33
noncomputable abbrev WV:List Str:=["kinds","parts","place","kind","part"]
theorem ZP:zo WV ["kinds","parts"] (ze JW):=by refine ⟨rfl,rfl,rfl, ?_,rfl, ?_, ?_⟩ <;> decide+kernel
noncomputable abbrev uG:Stmt:=top 37
noncomputable abbrev Y6:List Str:=["kind","one","other","first","last"]
theorem Wl:zo Y6 ["kind","one","other"] (ze uG):=by refine ⟨rfl,rfl,rfl, ?_,rfl, ?_, ?_⟩ <;> decide+kernel
noncomputable abbrev wC:Stmt:=top 39
noncomputable abbrev U4:List Str:=["kind","number"]
theorem uH:zo U4 ["kind","number"] (ze wC):=by refine ⟨rfl,rfl,rfl, ?_,rfl, ?_, ?_⟩ <;> decide+kernel
noncomputable abbrev W5:Stmt:=top 36
noncomputable abbrev y0:List Str:=["kind","worth"]
theorem U5:zo y0 ["kind","worth"] (ze W5):=by refine ⟨rfl,rfl,rfl, ?_,rfl, ?_, ?_⟩ <;> decide+kernel
noncomputable abbrev WG:Stmt:=top 35
noncomputable abbrev Y7:List Str:=["kind","worth"]
theorem y3:zo Y7 ["kind","worth"] (ze WG):=by refine ⟨rfl,rfl,rfl, ?_,rfl, ?_, ?_⟩ <;> decide+kernel
noncomputable abbrev uI:Stmt:=top 24
noncomputable abbrev YN:List Str:=["kind","worth"]
theorem Y8:zo YN ["kind","worth"] (ze uI):=by refine ⟨rfl,rfl,rfl, ?_,rfl, ?_, ?_⟩ <;> decide+kernel
noncomputable abbrev Gj:Stmt:=top 50
noncomputable abbrev z0n:List Str:=["_law_script","_law_kind_here","_law_every","_law_one","_law_other","_law_k","_law_here"]
theorem uJ:zo z0n ["_law_script"] (ze Gj):=by refine ⟨rfl,rfl,rfl, ?_,rfl, ?_, ?_⟩ <;> decide+kernel
structure Fn (K:PySem.W.Frag) (mg:Str->Option Value) (x:Str) (st:Stmt) (ps:List Str) (f:Addr) (fd:FuncData):Prop where
 F:Fun K x x st f fd
 b:L2.Binds K fd ps []
 m:mg x=some (.ref f)
noncomputable abbrev Kr:List Value:=[.type "ValueError", .type "Exception", .type "BaseException", .type "object"]
set_option genInjectivity false in
set_option genSizeOf false in
structure Tx (K:PySem.W.Frag) (mg:Str->Option Value) where
 a__law_cell:Addr
 d__law_cell:FuncData
 C__law_cell:Fn K mg "_law_cell" ux ["_law_script","_law_k"] a__law_cell d__law_cell
 a__law_pick:Addr
 d__law_pick:FuncData
 C__law_pick:Fn K mg "_law_pick" uy ["_law_script","_law_k","_law_many"] a__law_pick d__law_pick
 a__law_word_of:Addr
 d__law_word_of:FuncData
 C__law_word_of:Fn K mg "_law_word_of" Jm ["_law_script","_law_at"] a__law_word_of d__law_word_of
 a__law_leaf_kind:Addr
 d__law_leaf_kind:FuncData
 C__law_leaf_kind:Fn K mg "_law_leaf_kind" jE ["_law_script","_law_at"] a__law_leaf_kind d__law_leaf_kind
 a__law_kind:Addr
 d__law_kind:FuncData
 C__law_kind:Fn K mg "_law_kind" wH ["_law_script","_law_at","_law_deep"] a__law_kind d__law_kind
 a__law_rows_of:Addr
 d__law_rows_of:FuncData
 C__law_rows_of:Fn K mg "_law_rows_of" Jn ["_law_lists"] a__law_rows_of d__law_rows_of
 a__law_all:Addr
 d__law_all:FuncData
 C__law_all:Fn K mg "_law_all" wt ["_law_kind_here"] a__law_all d__law_all
 a__law_size:Addr
 d__law_size:FuncData
 C__law_size:Fn K mg "_law_size" wJ ["_law_kind_here"] a__law_size d__law_size
 a__law_small:Addr
 d__law_small:FuncData
 C__law_small:Fn K mg "_law_small" WC ["_law_script","_law_at","_law_most"] a__law_small d__law_small
 a_is_whole:Addr
 d_is_whole:FuncData
 C_is_whole:Fn K mg "is_whole" Uq ["thing"] a_is_whole d_is_whole
 a_is_span:Addr
 d_is_span:FuncData
 C_is_span:Fn K mg "is_span" yY ["low","high","least","most"] a_is_span d_is_span
 a_is_tuple_of:Addr
 d_is_tuple_of:FuncData
 C_is_tuple_of:Fn K mg "is_tuple_of" W3 ["thing","least","most"] a_is_tuple_of d_is_tuple_of
 a_is_word:Addr
 d_is_word:FuncData
 C_is_word:Fn K mg "is_word" uB ["thing"] a_is_word d_is_word
 a_is_choice:Addr
 d_is_choice:FuncData
 C_is_choice:Fn K mg "is_choice" uC ["thing"] a_is_choice d_is_choice
 a_are_choices:Addr
 d_are_choices:FuncData
 C_are_choices:Fn K mg "are_choices" jO ["thing"] a_are_choices d_are_choices
 a_is_kind_within:Addr
 d_is_kind_within:FuncData
 C_is_kind_within:Fn K mg "is_kind_within" JU ["thing","levels"] a_is_kind_within d_is_kind_within
 a_are_kinds_within:Addr
 d_are_kinds_within:FuncData
 C_are_kinds_within:Fn K mg "are_kinds_within" ji ["thing","levels"] a_are_kinds_within d_are_kinds_within
 a_is_kind:Addr
 d_is_kind:FuncData
 C_is_kind:Fn K mg "is_kind" Y1 ["thing"] a_is_kind d_is_kind
 a_need_kind:Addr
 d_need_kind:FuncData
 C_need_kind:Fn K mg "need_kind" uD ["kind"] a_need_kind d_need_kind
 a_count_of:Addr
 d_count_of:FuncData
 C_count_of:Fn K mg "count_of" Ur ["kind"] a_count_of d_count_of
 a_count_of_parts:Addr
 d_count_of_parts:FuncData
 C_count_of_parts:Fn K mg "count_of_parts" JV ["kinds"] a_count_of_parts d_count_of_parts
 a_count_shorter:Addr
 d_count_shorter:FuncData
 C_count_shorter:Fn K mg "count_shorter" jW ["kind","length"] a_count_shorter d_count_shorter
 a_words_of_pick:Addr
 d_words_of_pick:FuncData
 C_words_of_pick:Fn K mg "words_of_pick" jX ["kind"] a_words_of_pick d_words_of_pick
 a_worth_at:Addr
 d_worth_at:FuncData
 C_worth_at:Fn K mg "worth_at" Us ["kind","number"] a_worth_at d_worth_at
 a_many_at:Addr
 d_many_at:FuncData
 C_many_at:Fn K mg "many_at" Y3 ["kind","number"] a_many_at d_many_at
 a_parts_at:Addr
 d_parts_at:FuncData
 C_parts_at:Fn K mg "parts_at" Ut ["kinds","number"] a_parts_at d_parts_at
 a_all_worths:Addr
 d_all_worths:FuncData
 C_all_worths:Fn K mg "all_worths" wc ["kind"] a_all_worths d_all_worths
 a_middle:Addr
 d_middle:FuncData
 C_middle:Fn K mg "middle" qO ["kind"] a_middle d_middle
 a_has_worth:Addr
 d_has_worth:FuncData
 C_has_worth:Fn K mg "has_worth" uE ["kind","thing"] a_has_worth d_has_worth
 a_have_parts:Addr
 d_have_parts:FuncData
 C_have_parts:Fn K mg "have_parts" wd ["kinds","parts"] a_have_parts d_have_parts
 a_is_worth:Addr
 d_is_worth:FuncData
 C_is_worth:Fn K mg "is_worth" Uu ["kind","thing"] a_is_worth d_is_worth
 a_need_worth:Addr
 d_need_worth:FuncData
 C_need_worth:Fn K mg "need_worth" WF ["kind","worth"] a_need_worth d_need_worth
 a_place_of:Addr
 d_place_of:FuncData
 C_place_of:Fn K mg "place_of" Uv ["kind","worth"] a_place_of d_place_of
 a_place_of_parts:Addr
 d_place_of_parts:FuncData
 C_place_of_parts:Fn K mg "place_of_parts" JW ["kinds","parts"] a_place_of_parts d_place_of_parts
 a_between:Addr
 d_between:FuncData
 C_between:Fn K mg "between" uG ["kind","one","other"] a_between d_between
 a_worth_if_any:Addr
 d_worth_if_any:FuncData
 C_worth_if_any:Fn K mg "worth_if_any" wC ["kind","number"] a_worth_if_any d_worth_if_any
 a_worth_ahead:Addr
 d_worth_ahead:FuncData
 C_worth_ahead:Fn K mg "worth_ahead" W5 ["kind","worth"] a_worth_ahead d_worth_ahead
 a_next_worth:Addr
 d_next_worth:FuncData
 C_next_worth:Fn K mg "next_worth" WG ["kind","worth"] a_next_worth d_next_worth
 a_number_of:Addr
 d_number_of:FuncData
 C_number_of:Fn K mg "number_of" uI ["kind","worth"] a_number_of d_number_of
 a_law:Addr
 d_law:FuncData
 C_law:Fn K mg "law" Gj ["_law_script"] a_law d_law
 z_all:mg "all"=none
 z_bool:mg "bool"=none
 z_enumerate:mg "enumerate"=none
 z_int:mg "int"=none
 z_isinstance:mg "isinstance"=none
 z_len:mg "len"=none
 z_list:mg "list"=none
 z_min:mg "min"=none
 z_range:mg "range"=none
 z_reversed:mg "reversed"=none
 z_set:mg "set"=none
 z_str:mg "str"=none
 z_sum:mg "sum"=none
 z_tuple:mg "tuple"=none
 z_zip:mg "zip"=none
 c_DEEPEST:∃ u,mg "DEEPEST"=some u/\∃ t,u=Value.int 3 t
 c_MOST_TOLD:∃ u,mg "MOST_TOLD"=some u/\∃ t,u=Value.int 500 t
set_option genInjectivity false in
set_option genSizeOf false in
structure Tq (K:PySem.W.Frag) (mg:Str->Option Value) (base:Heap) (cl:Nat->Value) where
 q_NoKind:Addr
 q_NoWorth:Addr
 q_TooMany:Addr
 l_NoKind:cl 0= .ref q_NoKind
 l_NoWorth:cl 1= .ref q_NoWorth
 l_TooMany:cl 3= .ref q_TooMany
 o_NoKind:OwnCls "NoKind" q_NoKind Kr "ValueError.__new__" mg base
 o_NoWorth:OwnCls "NoWorth" q_NoWorth Kr "ValueError.__new__" mg base
 o_TooMany:OwnCls "TooMany" q_TooMany Kr "ValueError.__new__" mg base
section
variable (P:Program) (w:World) {K:PySem.W.Frag} {mg:Str->Option Value} (base:Heap) (cl:Nat->Value) (tx:Tx K mg) (k:Nat) (c:List T->R T)
noncomputable abbrev wL:Prop:=jj P w K mg base CX0 k tx.a__law_cell tx.d__law_cell ["_law_script","_law_k"] (spP cl 2 c)
noncomputable abbrev jo:Prop:=jj P w K mg base CX0 k tx.a__law_pick tx.d__law_pick ["_law_script","_law_k","_law_many"] (spP cl 3 c)
noncomputable abbrev Jo:Prop:=jj P w K mg base CX0 k tx.a__law_word_of tx.d__law_word_of ["_law_script","_law_at"] (spP cl 2 c)
noncomputable abbrev jF:Prop:=jj P w K mg base CX0 k tx.a__law_leaf_kind tx.d__law_leaf_kind ["_law_script","_law_at"] (spP cl 2 c)
noncomputable abbrev jY:Prop:=jj P w K mg base CX0 k tx.a__law_kind tx.d__law_kind ["_law_script","_law_at","_law_deep"] (spP cl 3 c)
noncomputable abbrev Jp:Prop:=jj P w K mg base CX0 k tx.a__law_rows_of tx.d__law_rows_of ["_law_lists"] (spP cl 1 c)
noncomputable abbrev jR:Prop:=jj P w K mg base CX0 k tx.a__law_all tx.d__law_all ["_law_kind_here"] (spP cl 1 c)
noncomputable abbrev jZ:Prop:=jj P w K mg base CX0 k tx.a__law_size tx.d__law_size ["_law_kind_here"] (spP cl 1 c)
noncomputable abbrev we:Prop:=jj P w K mg base CX0 k tx.a__law_small tx.d__law_small ["_law_script","_law_at","_law_most"] (spP cl 3 c)
noncomputable abbrev JD:Prop:=jj P w K mg base CX0 k tx.a_is_whole tx.d_is_whole ["thing"] (spP cl 1 c)
noncomputable abbrev uK:Prop:=jj P w K mg base CX0 k tx.a_is_span tx.d_is_span ["low","high","least","most"] (spP cl 4 c)
noncomputable abbrev ZQ:Prop:=jj P w K mg base CX0 k tx.a_is_tuple_of tx.d_is_tuple_of ["thing","least","most"] (spP cl 3 c)
noncomputable abbrev uL:Prop:=jj P w K mg base CX0 k tx.a_is_word tx.d_is_word ["thing"] (spP cl 1 c)
noncomputable abbrev wM:Prop:=jj P w K mg base CX0 k tx.a_is_choice tx.d_is_choice ["thing"] (spP cl 1 c)
noncomputable abbrev JR:Prop:=jj P w K mg base CX0 k tx.a_are_choices tx.d_are_choices ["thing"] (spP cl 1 c)
noncomputable abbrev Z5:Prop:=jj P w K mg base CX0 k tx.a_is_kind_within tx.d_is_kind_within ["thing","levels"] (spP cl 2 c)
noncomputable abbrev Zz:Prop:=jj P w K mg base CX0 k tx.a_are_kinds_within tx.d_are_kinds_within ["thing","levels"] (spP cl 2 c)
noncomputable abbrev uM:Prop:=jj P w K mg base CX0 k tx.a_is_kind tx.d_is_kind ["thing"] (spP cl 1 c)
noncomputable abbrev J0:Prop:=jj P w K mg base (CX1 P w) k tx.a_need_kind tx.d_need_kind ["kind"] (spP cl 1 c)
noncomputable abbrev ZR:Prop:=jj P w K mg base CX0 k tx.a_count_of tx.d_count_of ["kind"] (spP cl 1 c)
noncomputable abbrev Zs:Prop:=jj P w K mg base CX0 k tx.a_count_of_parts tx.d_count_of_parts ["kinds"] (spP cl 1 c)
noncomputable abbrev Zi:Prop:=jj P w K mg base CX0 k tx.a_count_shorter tx.d_count_shorter ["kind","length"] (spP cl 2 c)
noncomputable abbrev ZJ:Prop:=jj P w K mg base CX0 k tx.a_words_of_pick tx.d_words_of_pick ["kind"] (spP cl 1 c)
noncomputable abbrev j4:Prop:=jj P w K mg base CX0 k tx.a_worth_at tx.d_worth_at ["kind","number"] (spP cl 2 c)
noncomputable abbrev W6:Prop:=jj P w K mg base CX0 k tx.a_many_at tx.d_many_at ["kind","number"] (spP cl 2 c)
noncomputable abbrev JE:Prop:=jj P w K mg base CX0 k tx.a_parts_at tx.d_parts_at ["kinds","number"] (spP cl 2 c)
noncomputable abbrev wf:Prop:=jj P w K mg base (CX1 P w) k tx.a_all_worths tx.d_all_worths ["kind"] (spP cl 1 c)
noncomputable abbrev y6:Prop:=jj P w K mg base (CX1 P w) k tx.a_middle tx.d_middle ["kind"] (spP cl 1 c)
noncomputable abbrev J4:Prop:=jj P w K mg base CX0 k tx.a_has_worth tx.d_has_worth ["kind","thing"] (spP cl 2 c)
noncomputable abbrev Ji:Prop:=jj P w K mg base CX0 k tx.a_have_parts tx.d_have_parts ["kinds","parts"] (spP cl 2 c)
noncomputable abbrev Wm:Prop:=jj P w K mg base (CX1 P w) k tx.a_is_worth tx.d_is_worth ["kind","thing"] (spP cl 2 c)
noncomputable abbrev j5:Prop:=jj P w K mg base (CX1 P w) k tx.a_need_worth tx.d_need_worth ["kind","worth"] (spP cl 2 c)
noncomputable abbrev j6:Prop:=jj P w K mg base CX0 k tx.a_place_of tx.d_place_of ["kind","worth"] (spP cl 2 c)
noncomputable abbrev ZZ:Prop:=jj P w K mg base CX0 k tx.a_place_of_parts tx.d_place_of_parts ["kinds","parts"] (spP cl 2 c)
noncomputable abbrev uN:Prop:=jj P w K mg base (CX1 P w) k tx.a_between tx.d_between ["kind","one","other"] (spP cl 3 c)
noncomputable abbrev ju:Prop:=jj P w K mg base CX0 k tx.a_worth_if_any tx.d_worth_if_any ["kind","number"] (spP cl 2 c)
noncomputable abbrev JS:Prop:=jj P w K mg base (CX1 P w) k tx.a_worth_ahead tx.d_worth_ahead ["kind","worth"] (spP cl 2 c)
noncomputable abbrev wg:Prop:=jj P w K mg base (CX1 P w) k tx.a_next_worth tx.d_next_worth ["kind","worth"] (spP cl 2 c)
noncomputable abbrev wN:Prop:=jj P w K mg base (CX1 P w) k tx.a_number_of tx.d_number_of ["kind","worth"] (spP cl 2 c)
noncomputable abbrev Kj:Prop:=jj P w K mg base (CX1 P w) k tx.a_law tx.d_law ["_law_script"] (spP cl 1 c)
end
theorem cZ {X:Cx} {Y:Fx} {cl:Nat->Value} {k j n:Nat} {f:Addr} {fd:FuncData} {ps:List Str} {g:List T->R T} {x:Str} {st:Stmt} {a:Expr} {es:List Expr} {ga:En->R (List T)} {p pos:Pos} (hy:Y.cl=cl) (F:jj X.prog X.w X.K X.mg X.base CX0 j f fd ps (spP cl n g)) (hr:WH k X.A) (C:Fn X.K X.mg x st ps f fd) (ha:Yq X Y (a :: es) ga) (hj:j<=k:=by omega) (gl:Gl X x:=by rfl) (hd:(x == ("__debug__":Str))=false:=by decide)
  (hs:starEach (a :: es) X.env=(false,eval a X.env) :: starEach es X.env:=by exact ZD rfl) (hz:((backTo pos (starEach es X.env)).any fun x=>x.fst)=false:=by exact JH rfl):Snd X Y (.Call (.Name x p) (a :: es) [] pos) (zc n g ga):=kE hy F hr hj gl C.m C.F.kp C.b ha hd hs hz
theorem cX {X:Cx} {Y:Fx} {cl:Nat->Value} {k j n:Nat} {f:Addr} {fd:FuncData} {ps:List Str} {g:List T->R T} {x:Str} {st:Stmt} {a:Expr} {es:List Expr} {ga:En->R (List T)} {p pos:Pos} (hy:Y.cl=cl) (hp:u9 (CX1 X.prog X.w) X Y.E) (F:jj X.prog X.w X.K X.mg X.base (CX1 X.prog X.w) j f fd ps (spP cl n g)) (hr:WH k X.A) (C:Fn X.K X.mg x st ps f fd) (ha:Yq X Y (a :: es) ga) (hj:j<=k:=by omega) (gl:Gl X x:=by rfl) (hd:(x == ("__debug__":Str))=false:=by decide)
  (hs:starEach (a :: es) X.env=(false,eval a X.env) :: starEach es X.env:=by exact ZD rfl) (hz:((backTo pos (starEach es X.env)).any fun x=>x.fst)=false:=by exact JH rfl):Snd X Y (.Call (.Name x p) (a :: es) [] pos) (zc n g ga):=kG hy hp F hr hj gl C.m C.F.kp C.b ha hd hs hz
section
variable {P:Program} {w:World} {K:PySem.W.Frag} {mg:Str->Option Value} {base:Heap} {cl:Nat->Value} {tx:Tx K mg}
end
end G
namespace G
open PySem PySem.Spec PyProof.Rows L2 PV
section
variable {P:Program} {w:World} {K:PySem.W.Frag} {mg:Str->Option Value} {base:Heap} {cl:Nat->Value} {tx:Tx K mg}
theorem Y9:wL P w base cl tx 1 (fun ts=>zp (ui  (en0 2 ts))):=by
 refine j7 tx.C__law_cell.F yW rfl (fun cdv A outer s H E Y hy hr=> ?_) (fun ts h=>rfl)
 refine zi ?_ ?_
 refine Za ?_ ?_ ?_
 exact zY xh qd (zy 1 (pv 1)) (Snd.b (JI (by rfl) tx.z_len (zy 0 (pv 0)))) (zv _)
 exact zn (zz (Ze (zb 0 (pv 0)) (zb 1 (pv 1))))
 exact Z9
 refine zi ?_ ?_
 refine Za ?_ ?_ ?_
 exact zY ZK (zM hr.units) (zy 0 (pv 0)) (Snd.b (uU zj)) (zv _)
 exact zn (zz zd)
 exact Z9
 refine zn ?_
 refine zz ?_
 refine zQ ?_ ?_
 refine jK ?_ ?_
 exact Ze (zb 0 (pv 0)) (QY (zb 1 (pv 1)) (JI (by rfl) tx.z_len (zy 0 (pv 0))))
 exact zd
 exact zb 1 (pv 1)
end
end G
namespace G
open PySem PySem.Spec PyProof.Rows L2 PV
section
variable {P:Program} {w:World} {K:PySem.W.Frag} {mg:Str->Option Value} {base:Heap} {cl:Nat->Value} {tx:Tx K mg}
theorem Ya {c__law_cell:List T->R T} (O__law_cell:wL P w base cl tx 1 c__law_cell):jo P w base cl tx 2 (fun ts=>zp (uj c__law_cell (en0 4 ts))):=by
 refine j7 tx.C__law_pick.F WB rfl (fun cdv A outer s H E Y hy hr=> ?_) (fun ts h=>rfl)
 refine zi ?_ ?_
 refine ZT (i:=3) WB.nd (by rfl) (.inl (by rfl)) ?_
 refine QY ?_ ?_
 refine jK ?_ ?_
 refine zQ ?_ ?_
 exact cZ hy O__law_cell hr tx.C__law_cell (za (zb 0 (pv 0)) (za (zb 1 (pv 1)) zj))
 exact jK zd (zQ (zb 1 (pv 1)) zd)
 exact zd
 exact zd
 refine zn ?_
 refine zz ?_
 refine QY ?_ ?_
 refine QY ?_ ?_
 exact zQ (jK (zb 3 (pv 3)) (zb 3 (pv 3))) (QZ (zb 3 (pv 3)) zd)
 exact zd
 exact zb 2 (pv 2)
end
end G
namespace G
open PySem PySem.Spec PyProof.Rows L2 PV
section
variable {P:Program} {w:World} {K:PySem.W.Frag} {mg:Str->Option Value} {base:Heap} {cl:Nat->Value} {tx:Tx K mg}
theorem uO {c__law_pick:List T->R T} (O__law_pick:jo P w base cl tx 2 c__law_pick):Jo P w base cl tx 3 (fun ts=>zp (jr c__law_pick (en0 3 ts))):=by
 refine j7 tx.C__law_word_of.F w9 rfl (fun cdv A outer s H E Y hy hr=> ?_) (fun ts h=>rfl)
 refine zi ?_ ?_
 exact ZT (i:=2) w9.nd (by rfl) (.inr (by rfl)) ZA
 refine zi ?_ ?_
 refine Za ?_ ?_ ?_
 refine zY xi qe ?_ ?_ (zv _)
 refine Snd.b ?_
 refine cZ hy O__law_pick hr tx.C__law_pick ?_
 exact za (zb 0 (pv 0)) (za (zb 1 (pv 1)) (za zd zj))
 exact Snd.b zd
 refine zn ?_
 refine zz ?_
 refine Ze ?_ ?_
 refine uU ?_
 refine za ?_ ?_
 exact ZA
 exact za ZA (za ZA (za ZA zj))
 refine cZ hy O__law_pick hr tx.C__law_pick ?_
 refine za ?_ ?_
 exact zb 0 (pv 0)
 exact za (zQ (zb 1 (pv 1)) zd) (za zd zj)
 exact Z9
 refine zn ?_
 refine zz ?_
 refine gx ?_
 refine Snd.b ?_
 refine Jt (jH ["_law_k","_law_script","_law_at","_law_letters"] wz (ze Jm) (by rfl) (by rfl) (by decide+kernel) (by rfl) ?_ (fun _ _ _ _ _ _=>zZ (show List.Nodup (["_law_k","_law_script","_law_at","_law_letters"]:List Str) by decide+kernel) (by rfl) (.inl (by rfl)) (.inr (by rfl))) (ZL 0) (ZM 0) (fun Y' hy' _ _ _ _ _ _=> ?_) (fun Y' hy' _ _ _ _ _ _=> ?_))
 refine Uc (by rfl) tx.z_range ?_
 refine zQ ?_ ?_
 exact zd
 refine cZ hy O__law_pick hr tx.C__law_pick ?_
 refine za ?_ ?_
 exact zb 0 (pv 0)
 exact za (zQ (zb 1 (pv 1)) zd) (za zd zj)
 exact jG
 refine Ze ?_ ?_
 exact zb 3 (pv 3)
 refine cZ (hy'.trans hy) O__law_pick hr tx.C__law_pick ?_
 refine za ?_ ?_
 exact zb 1 (pv 1)
 refine za ?_ ?_
 exact zQ (zQ (zb 2 (pv 2)) zd) (zb 0 (pv 0))
 exact za zd zj
end
end G
namespace G
open PySem PySem.Spec PyProof.Rows L2 PV
section
variable {P:Program} {w:World} {K:PySem.W.Frag} {mg:Str->Option Value} {base:Heap} {cl:Nat->Value} {tx:Tx K mg}
theorem Wn {c__law_pick c__law_word_of:List T->R T} (O__law_pick:jo P w base cl tx 2 c__law_pick) (O__law_word_of:Jo P w base cl tx 3 c__law_word_of):jF P w base cl tx 4 (fun ts=>zp (ZX c__law_pick c__law_word_of (en0 6 ts))):=by
 refine j7 tx.C__law_leaf_kind.F zT rfl (fun cdv A outer s H E Y hy hr=> ?_) (fun ts h=>rfl)
 refine zi ?_ ?_
 refine Za ?_ ?_ ?_
 refine zY xi qe ?_ ?_ (zv _)
 refine Snd.b ?_
 refine cZ hy O__law_pick hr tx.C__law_pick ?_
 exact za (zb 0 (pv 0)) (za (zb 1 (pv 1)) (za zd zj))
 exact Snd.b zd
 refine zi ?_ ?_
 refine ZT (i:=2) zT.nd (by rfl) (.inl (by rfl)) ?_
 refine Wa ?_ ?_
 refine cZ hy O__law_pick hr tx.C__law_pick ?_
 refine za ?_ ?_
 exact zb 0 (pv 0)
 exact za (zQ (zb 1 (pv 1)) zd) (za zd zj)
 exact zd
 refine zi ?_ ?_
 refine Za ?_ ?_ ?_
 refine zY ZK (zM hr.units) ?_ ?_ (zv _)
 refine Snd.b ?_
 refine cZ hy O__law_pick hr tx.C__law_pick ?_
 refine za ?_ ?_
 exact zb 0 (pv 0)
 exact za (zQ (zb 1 (pv 1)) zd) (za zd zj)
 exact Snd.b zd
 refine zn ?_
 refine ZT (i:=2) zT.nd (by rfl) (.inl (by rfl)) ?_
 refine Ze ?_ ?_
 refine uU ?_
 refine za ?_ ?_
 exact v6 zd
 exact za zd (za zd zj)
 refine cZ hy O__law_pick hr tx.C__law_pick ?_
 refine za ?_ ?_
 exact zb 0 (pv 0)
 exact za (zQ (zb 1 (pv 1)) zd) (za zd zj)
 exact Z9
 refine zn ?_
 refine zz ?_
 refine uT ?_
 refine za ?_ ?_
 exact ZA
 refine za ?_ ?_
 exact zb 2 (pv 2)
 refine za ?_ ?_
 refine Xe (by rfl) (by rfl) tx.z_min ?_ ?_
 exact zd
 refine zQ ?_ ?_
 exact zb 2 (pv 2)
 refine cZ hy O__law_pick hr tx.C__law_pick ?_
 refine za ?_ ?_
 exact zb 0 (pv 0)
 exact za (zQ (zb 1 (pv 1)) zd) (za zd zj)
 exact zj
 exact Z9
 refine zi ?_ ?_
 exact qg (i:=3) zT.nd (by rfl) (.inl (by rfl)) zj
 refine zi ?_ ?_
 refine ue PassesOwn.never (by rfl) ?_ ?_ ?_
 refine Uc (by rfl) tx.z_range ?_
 refine zQ ?_ ?_
 exact zd
 refine cZ hy O__law_pick hr tx.C__law_pick ?_
 refine za ?_ ?_
 exact zb 0 (pv 0)
 exact za (zQ (zb 1 (pv 1)) zd) (za zd zj)
 exact wT (i:=4) zT.nd (by rfl) (.inl (by rfl))
 refine zi ?_ ?_
 refine ZT (i:=5) zT.nd (by rfl) (.inl (by rfl)) ?_
 refine cZ hy O__law_word_of hr tx.C__law_word_of ?_
 refine za ?_ ?_
 exact zb 0 (pv 0)
 refine za ?_ ?_
 exact zQ (zQ (zb 1 (pv 1)) zd) (jK zd (zb 4 (pv 4)))
 exact zj
 refine zn ?_
 refine Za ?_ ?_ ?_
 exact zY X9 (vc hr.units) (zy 5 (pv 5)) (zy 3 (pv 3)) (by rfl)
 exact zn (gp (i:=3) (pv 3) (zb 5 (pv 5)))
 exact Z9
 refine zn ?_
 refine zz ?_
 refine uT ?_
 refine za ?_ ?_
 exact ZA
 refine za ?_ ?_
 refine vh (by rfl) tx.z_tuple ?_
 refine Jt (jH ["_law_k","_law_word","_law_script","_law_at"] JT (ze jE) (by rfl) (by rfl) (by decide+kernel) (by rfl) ?_ (fun _ _ _ _ _ _=>YY (by rfl) (J8 (zZ (show List.Nodup (["_law_k","_law_word","_law_script","_law_at"]:List Str) by decide+kernel) (by rfl) (.inl (by rfl)) (.inr (by rfl))) (J8 (zZ (show List.Nodup (["_law_k","_law_word","_law_script","_law_at"]:List Str) by decide+kernel) (by rfl) (.inl (by rfl)) (.inr (by rfl))) Uw))) (UE _ 0 1) (UG 0 1) (fun Y' hy' _ _ _ _ _ _=> ?_) (fun Y' hy' _ _ _ _ _ _=> ?_))
 exact gv (by rfl) tx.z_enumerate (zb 3 (pv 3))
 exact jG
 refine uT ?_
 refine za ?_ ?_
 exact zb 1 (pv 1)
 refine za ?_ ?_
 refine zQ ?_ ?_
 exact zd
 refine cZ (hy'.trans hy) O__law_pick hr tx.C__law_pick ?_
 refine za ?_ ?_
 exact zb 2 (pv 2)
 refine za ?_ ?_
 exact zQ (zQ (zb 3 (pv 3)) zd) (zb 0 (pv 0))
 exact za zd zj
 exact zj
 exact zj
end
end G
namespace G
open PySem PySem.Spec PyProof.Rows L2 PV
section
variable {P:Program} {w:World} {K:PySem.W.Frag} {mg:Str->Option Value} {base:Heap} {cl:Nat->Value} {tx:Tx K mg}
theorem Yb {j:Nat} (hj:4<=j) {c__law_pick c__law_leaf_kind c__law_kind:List T->R T} (O__law_pick:jo P w base cl tx 2 c__law_pick) (O__law_leaf_kind:jF P w base cl tx 4 c__law_leaf_kind) (O__law_kind:jY P w base cl tx j c__law_kind):jY P w base cl tx (j+1) (fun ts=>zp (JJ c__law_pick c__law_leaf_kind c__law_kind (en0 6 ts))):=by
 refine j7 tx.C__law_kind.F Jg rfl (fun cdv A outer s H E Y hy hr=> ?_) (fun ts h=>rfl)
 refine zi ?_ ?_
 refine ZT (i:=3) Jg.nd (by rfl) (.inl (by rfl)) ?_
 refine cZ hy O__law_pick hr tx.C__law_pick ?_
 exact za (zb 0 (pv 0)) (za (zb 1 (pv 1)) (za zd zj))
 refine zi ?_ ?_
 refine Za ?_ ?_ ?_
 refine qf.t ?_
 refine Xc ?_ ?_
 exact zY ZK (zM hr.units) (zy 2 (pv 2)) (Snd.b zd) (zv _)
 exact Yr (zY xh qd (zy 3 (pv 3)) (Snd.b zd) (zv _))
 refine zn ?_
 refine zz ?_
 refine cZ hy O__law_leaf_kind hr tx.C__law_leaf_kind ?_
 exact za (zb 0 (pv 0)) (za (zQ (zb 1 (pv 1)) zd) zj)
 exact Z9
 refine zi ?_ ?_
 refine Za ?_ ?_ ?_
 exact zY xh qd (zy 3 (pv 3)) (Snd.b zd) (zv _)
 refine zi ?_ ?_
 refine Xo (i:=4) (jH ["_law_k","_law_script","_law_at","_law_deep"] uz (ze wH) (by rfl) (by rfl) (by decide+kernel) (by rfl) ?_ (fun _ _ _ _ _ _=>zZ (show List.Nodup (["_law_k","_law_script","_law_at","_law_deep"]:List Str) by decide+kernel) (by rfl) (.inl (by rfl)) (.inr (by rfl))) (ZL 0) (ZM 0) (fun Y' hy' _ _ _ _ _ _=> ?_) (fun Y' hy' _ _ _ _ _ _=> ?_)) Jg.nd (by rfl) (.inl (by rfl)) (by rfl)
 refine Uc (by rfl) tx.z_range ?_
 refine zQ ?_ ?_
 exact zd
 refine cZ hy O__law_pick hr tx.C__law_pick ?_
 refine za ?_ ?_
 exact zb 0 (pv 0)
 exact za (zQ (zb 1 (pv 1)) zd) (za zd zj)
 exact jG
 refine cZ (hy'.trans hy) O__law_kind hr tx.C__law_kind ?_
 refine za ?_ ?_
 exact zb 1 (pv 1)
 refine za ?_ ?_
 refine zQ ?_ ?_
 exact zQ (jK zd (zb 2 (pv 2))) zd
 exact jK zd (zb 0 (pv 0))
 exact za (Wa (zb 3 (pv 3)) zd) zj
 refine zn ?_
 refine zz ?_
 exact uT (za ZA (za (vh (by rfl) tx.z_tuple (zb 4 (pv 4))) zj))
 exact Z9
 refine zi ?_ ?_
 refine ZT (i:=5) Jg.nd (by rfl) (.inl (by rfl)) ?_
 refine cZ hy O__law_pick hr tx.C__law_pick ?_
 refine za ?_ ?_
 exact zb 0 (pv 0)
 exact za (zQ (zb 1 (pv 1)) zd) (za zd zj)
 refine zn ?_
 refine zz ?_
 refine uT ?_
 refine za ?_ ?_
 exact ZA
 refine za ?_ ?_
 refine cZ hy O__law_kind hr tx.C__law_kind ?_
 refine za ?_ ?_
 exact zb 0 (pv 0)
 refine za ?_ ?_
 exact zQ (jK zd (zb 1 (pv 1))) zd
 exact za (Wa (zb 2 (pv 2)) zd) zj
 refine za ?_ ?_
 exact zb 5 (pv 5)
 refine za ?_ ?_
 refine Xe (by rfl) (by rfl) tx.z_min ?_ ?_
 exact zd
 refine zQ ?_ ?_
 exact zb 5 (pv 5)
 refine cZ hy O__law_pick hr tx.C__law_pick ?_
 refine za ?_ ?_
 exact zb 0 (pv 0)
 exact za (zQ (zb 1 (pv 1)) zd) (za zd zj)
 exact zj
end
end G
namespace G
open PySem PySem.Spec PyProof.Rows L2 PV
section
variable {P:Program} {w:World} {K:PySem.W.Frag} {mg:Str->Option Value} {base:Heap} {cl:Nat->Value} {tx:Tx K mg}
theorem uP:Jp P w base cl tx 1 (fun ts=>zp (jt  (en0 5 ts))):=by
 refine j7 tx.C__law_rows_of.F Zh rfl (fun cdv A outer s H E Y hy hr=> ?_) (fun ts h=>rfl)
 refine zi ?_ ?_
 exact ZT (i:=1) Zh.nd (by rfl) (.inl (by rfl)) (uU (za (uT zj) zj))
 refine zi ?_ ?_
 refine ue PassesOwn.never (by rfl) ?_ ?_ ?_
 exact Wd (zb 0 (pv 0))
 exact wT (i:=2) Zh.nd (by rfl) (.inl (by rfl))
 refine zi ?_ ?_
 exact qg (i:=3) Zh.nd (by rfl) (.inl (by rfl)) zj
 refine zi ?_ ?_
 refine ue PassesOwn.never (by rfl) ?_ ?_ ?_
 exact Wd (zb 1 (pv 1))
 exact wT (i:=4) Zh.nd (by rfl) (.inr (by rfl))
 refine zn ?_
 refine gq (i:=3) (pv 3) ?_
 refine Jt (jH ["_law_one","_law_ahead"] wA (ze Jn) (by rfl) (by rfl) (by decide+kernel) (by rfl) ?_ (fun _ _ _ _ _ _=>zZ (show List.Nodup (["_law_one","_law_ahead"]:List Str) by decide+kernel) (by rfl) (.inl (by rfl)) (.inr (by rfl))) (ZL 0) (ZM 0) (fun Y' hy' _ _ _ _ _ _=> ?_) (fun Y' hy' _ _ _ _ _ _=> ?_))
 exact Wd (zb 2 (pv 2))
 exact jG
 exact zQ (zb 1 (pv 1)) (uT (za (zb 0 (pv 0)) zj))
 exact zn (s_mv (i:=1) (j:=3) (pv 3) Zh.nd (by rfl) (.inl (by rfl)))
 exact zn (zz (zb 1 (pv 1)))
end
end G
namespace G
open PySem PySem.Spec PyProof.Rows L2 PV
section
variable {P:Program} {w:World} {K:PySem.W.Frag} {mg:Str->Option Value} {base:Heap} {cl:Nat->Value} {tx:Tx K mg}
theorem YO {j:Nat} (hj:1<=j) {c__law_all c__law_rows_of:List T->R T} (O__law_all:jR P w base cl tx j c__law_all) (O__law_rows_of:Jp P w base cl tx 1 c__law_rows_of):jR P w base cl tx (j+1) (fun ts=>zp (zA c__law_all c__law_rows_of (en0 3 ts))):=by
 refine j7 tx.C__law_all.F wI rfl (fun cdv A outer s H E Y hy hr=> ?_) (fun ts h=>rfl)
 refine zi ?_ ?_
 refine Za ?_ ?_ ?_
 exact zY ZK (zM hr.units) (Snd.b (Ze (zb 0 (pv 0)) zd)) (Snd.b ZA) (zv _)
 refine zn ?_
 refine zz ?_
 refine kQ hr.hd (by rfl) tx.z_list (by rfl) tx.z_range ?_ ?_
 exact Ze (zb 0 (pv 0)) zd
 exact zQ (Ze (zb 0 (pv 0)) zd) zd
 exact Z9
 refine zi ?_ ?_
 refine Za ?_ ?_ ?_
 exact zY ZK (zM hr.units) (Snd.b (Ze (zb 0 (pv 0)) zd)) (Snd.b ZA) (zv _)
 refine zn ?_
 refine zz ?_
 refine Jt (jH ["_law_word","_law_heavy"] Wi (ze wt) (by rfl) (by rfl) (by decide+kernel) (by rfl) ?_ (fun _ _ _ _ _ _=>YY (by rfl) (J8 (zZ (show List.Nodup (["_law_word","_law_heavy"]:List Str) by decide+kernel) (by rfl) (.inl (by rfl)) (.inr (by rfl))) (J8 (zZ (show List.Nodup (["_law_word","_law_heavy"]:List Str) by decide+kernel) (by rfl) (.inl (by rfl)) (.inr (by rfl))) Uw))) (UE _ 0 1) (UG 0 1) (fun Y' hy' _ _ _ _ _ _=> ?_) (fun Y' hy' _ _ _ _ _ _=> ?_))
 exact Wd (Ze (zb 0 (pv 0)) zd)
 exact jG
 exact zb 0 (pv 0)
 exact Z9
 refine zi ?_ ?_
 refine Za ?_ ?_ ?_
 exact zY ZK (zM hr.units) (Snd.b (Ze (zb 0 (pv 0)) zd)) (Snd.b ZA) (zv _)
 refine zn ?_
 refine zz ?_
 refine cZ hy O__law_rows_of hr tx.C__law_rows_of ?_
 refine za ?_ ?_
 refine Jt (jH ["_law_one"] Wi (ze wt) (by rfl) (by rfl) (by decide+kernel) (by rfl) ?_ (fun _ _ _ _ _ _=>zZ (show List.Nodup (["_law_one"]:List Str) by decide+kernel) (by rfl) (.inl (by rfl)) (.inr (by rfl))) (ZL 0) (ZM 0) (fun Y' hy' _ _ _ _ _ _=> ?_) (fun Y' hy' _ _ _ _ _ _=> ?_))
 exact Wd (Ze (zb 0 (pv 0)) zd)
 exact jG
 exact cZ (hy'.trans hy) O__law_all hr tx.C__law_all (za (zb 0 (pv 0)) zj)
 exact zj
 exact Z9
 refine zi ?_ ?_
 exact qg (i:=1) wI.nd (by rfl) (.inl (by rfl)) zj
 refine zi ?_ ?_
 refine ue PassesOwn.never (by rfl) ?_ ?_ ?_
 refine vw (by rfl) tx.z_range ?_ ?_
 exact Ze (zb 0 (pv 0)) zd
 exact zQ (Ze (zb 0 (pv 0)) zd) zd
 exact wT (i:=2) wI.nd (by rfl) (.inl (by rfl))
 refine zn ?_
 refine gq (i:=1) (pv 1) ?_
 refine cZ hy O__law_rows_of hr tx.C__law_rows_of ?_
 refine za ?_ ?_
 refine jK ?_ ?_
 refine uU ?_
 refine za ?_ ?_
 exact cZ hy O__law_all hr tx.C__law_all (za (Ze (zb 0 (pv 0)) zd) zj)
 exact zj
 exact zb 2 (pv 2)
 exact zj
 exact zn (zz (zb 1 (pv 1)))
end
end G
namespace G
open PySem PySem.Spec PyProof.Rows L2 PV
section
variable {P:Program} {w:World} {K:PySem.W.Frag} {mg:Str->Option Value} {base:Heap} {cl:Nat->Value} {tx:Tx K mg}
theorem Yc {j:Nat} (hj:9<=j) {c__law_all c__law_size:List T->R T} (O__law_all:jR P w base cl tx 9 c__law_all) (O__law_size:jZ P w base cl tx j c__law_size):jZ P w base cl tx (j+1) (fun ts=>zp (zE c__law_all c__law_size (en0 5 ts))):=by
 refine j7 tx.C__law_size.F Z8 rfl (fun cdv A outer s H E Y hy hr=> ?_) (fun ts h=>rfl)
 refine zi ?_ ?_
 refine Za ?_ ?_ ?_
 refine zY xj (Xa hr.units) ?_ ?_ (by rfl)
 exact Snd.b (Ze (zb 0 (pv 0)) zd)
 exact Snd.b (uT (za ZA (za ZA zj)))
 refine zn ?_
 exact zz (JI (by rfl) tx.z_len (Snd.b (cZ hy O__law_all hr tx.C__law_all (za (zb 0 (pv 0)) zj))))
 exact Z9
 refine zi ?_ ?_
 refine ZT (i:=1) Z8.nd (by rfl) (.inl (by rfl)) ?_
 refine s_if ?_ ?_ ?_
 exact zY ZK (zM hr.units) (Snd.b (Ze (zb 0 (pv 0)) zd)) (Snd.b ZA) (zv _)
 refine Jt (jH ["_law_one"] uA (ze wJ) (by rfl) (by rfl) (by decide+kernel) (by rfl) ?_ (fun _ _ _ _ _ _=>zZ (show List.Nodup (["_law_one"]:List Str) by decide+kernel) (by rfl) (.inl (by rfl)) (.inr (by rfl))) (ZL 0) (ZM 0) (fun Y' hy' _ _ _ _ _ _=> ?_) (fun Y' hy' _ _ _ _ _ _=> ?_))
 exact Wd (Ze (zb 0 (pv 0)) zd)
 exact jG
 exact cZ (hy'.trans hy) O__law_size hr tx.C__law_size (za (zb 0 (pv 0)) zj)
 exact uU zj
 refine zi ?_ ?_
 exact ZT (i:=2) Z8.nd (by rfl) (.inl (by rfl)) zd
 refine zi ?_ ?_
 refine ue PassesOwn.never (by rfl) ?_ ?_ ?_
 exact Wd (zb 1 (pv 1))
 exact wT (i:=3) Z8.nd (by rfl) (.inl (by rfl))
 exact zn (ZT (i:=2) Z8.nd (by rfl) (.inl (by rfl)) (jK (zb 2 (pv 2)) (zb 3 (pv 3))))
 refine zi ?_ ?_
 refine Za ?_ ?_ ?_
 exact zY ZK (zM hr.units) (Snd.b (Ze (zb 0 (pv 0)) zd)) (Snd.b ZA) (zv _)
 refine zi ?_ ?_
 exact ZT (i:=4) Z8.nd (by rfl) (.inl (by rfl)) (cZ hy O__law_size hr tx.C__law_size (za (Ze (zb 0 (pv 0)) zd) zj))
 refine zi ?_ ?_
 refine ZT (i:=2) Z8.nd (by rfl) (.inl (by rfl)) ?_
 refine zQ ?_ ?_
 refine ql (by rfl) tx.z_int ?_
 exact UB ZK (zM hr.units) (Snd.b (Ze (zb 0 (pv 0)) zd)) (Snd.b zd) (zv _)
 refine jK ?_ ?_
 exact zb 4 (pv 4)
 refine ql (by rfl) tx.z_int ?_
 refine Wb Jk Jk ZU ZU ?_ ?_ ?_
 exact Snd.b (Ze (zb 0 (pv 0)) zd)
 exact Snd.b zd
 exact Snd.b (Ze (zb 0 (pv 0)) zd)
 refine zi ?_ ?_
 refine ZT (i:=2) Z8.nd (by rfl) (.inl (by rfl)) ?_
 refine zQ ?_ ?_
 exact zb 2 (pv 2)
 refine jK ?_ ?_
 exact jK (zb 4 (pv 4)) (zb 4 (pv 4))
 refine ql (by rfl) tx.z_int ?_
 refine Wb Jk Jk ZU ZU ?_ ?_ ?_
 exact Snd.b (Ze (zb 0 (pv 0)) zd)
 exact Snd.b zd
 exact Snd.b (Ze (zb 0 (pv 0)) zd)
 refine zn ?_
 refine ZT (i:=2) Z8.nd (by rfl) (.inl (by rfl)) ?_
 refine zQ ?_ ?_
 exact zb 2 (pv 2)
 refine jK ?_ ?_
 exact jK (jK (zb 4 (pv 4)) (zb 4 (pv 4))) (zb 4 (pv 4))
 refine ql (by rfl) tx.z_int ?_
 exact UB ZK (zM hr.units) (Snd.b (Ze (zb 0 (pv 0)) zd)) (Snd.b zd) (zv _)
 exact Z9
 exact zn (zz (zb 2 (pv 2)))
end
end G
namespace G
open PySem PySem.Spec PyProof.Rows L2 PV
section
variable {P:Program} {w:World} {K:PySem.W.Frag} {mg:Str->Option Value} {base:Heap} {cl:Nat->Value} {tx:Tx K mg}
theorem y7 {c__law_kind c__law_size:List T->R T} (O__law_kind:jY P w base cl tx 12 c__law_kind) (O__law_size:jZ P w base cl tx 17 c__law_size):we P w base cl tx 18 (fun ts=>zp (Ja c__law_kind c__law_size (en0 5 ts))):=by
 refine j7 tx.C__law_small.F jN rfl (fun cdv A outer s H E Y hy hr=> ?_) (fun ts h=>rfl)
 refine zi ?_ ?_
 refine ZT (i:=3) jN.nd (by rfl) (.inl (by rfl)) ?_
 refine cZ hy O__law_kind hr tx.C__law_kind ?_
 exact za (zb 0 (pv 0)) (za (zb 1 (pv 1)) (za zd zj))
 refine zi ?_ ?_
 refine ue PassesOwn.never (by rfl) ?_ ?_ ?_
 exact Uc (by rfl) tx.z_range zd
 exact wT (i:=4) jN.nd (by rfl) (.inl (by rfl))
 refine zi ?_ ?_
 refine Za ?_ ?_ ?_
 exact zY Jk ZU (Snd.b (cZ hy O__law_size hr tx.C__law_size (za (zb 3 (pv 3)) zj))) (zy 2 (pv 2)) (zv _)
 exact zn (zz (zb 3 (pv 3)))
 exact Z9
 refine zn ?_
 refine ZT (i:=3) jN.nd (by rfl) (.inl (by rfl)) ?_
 refine cZ hy O__law_kind hr tx.C__law_kind ?_
 refine za ?_ ?_
 exact zb 0 (pv 0)
 refine za ?_ ?_
 exact zQ (zQ (zb 1 (pv 1)) zd) (jK zd (zb 4 (pv 4)))
 exact za zd zj
 refine zn ?_
 refine zz ?_
 refine s_if ?_ ?_ ?_
 exact zY Jk ZU (Snd.b (cZ hy O__law_size hr tx.C__law_size (za (zb 3 (pv 3)) zj))) (zy 2 (pv 2)) (zv _)
 exact zb 3 (pv 3)
 refine uT ?_
 refine za ?_ ?_
 exact ZA
 exact za (v6 zd) (za zd zj)
end
end G
namespace G
open PySem PySem.Spec PyProof.Rows L2 PV
section
variable {P:Program} {w:World} {K:PySem.W.Frag} {mg:Str->Option Value} {base:Heap} {cl:Nat->Value} {tx:Tx K mg}
theorem YQ:JD P w base cl tx 1 (fun ts=>zp (Uf  (en0 1 ts))):=by
 refine j7 tx.C_is_whole.F YG rfl (fun cdv A outer s H E Y hy hr=> ?_) (fun ts h=>rfl)
 refine zn ?_
 refine zz ?_
 exact wu (vi (n:="int") (kq _) (by rfl) tx.z_isinstance (by rfl) tx.z_int PyProof.Rows.Boot.«int» (zy 0 (pv 0))) (WK (z00 (vi (n:="bool") (xo _) (by rfl) tx.z_isinstance (by rfl) tx.z_bool PyProof.Rows.Boot.«bool» (zy 0 (pv 0)))))
end
end G
namespace G
open PySem PySem.Spec PyProof.Rows L2 PV
section
variable {P:Program} {w:World} {K:PySem.W.Frag} {mg:Str->Option Value} {base:Heap} {cl:Nat->Value} {tx:Tx K mg}
theorem Qr {c_is_whole:List T->R T} (O_is_whole:JD P w base cl tx 1 c_is_whole):uK P w base cl tx 2 (fun ts=>zp (yD c_is_whole (en0 4 ts))):=by
 refine j7 tx.C_is_span.F Qj rfl (fun cdv A outer s H E Y hy hr=> ?_) (fun ts h=>rfl)
 refine zn ?_
 refine zz ?_
 refine wu ?_ ?_
 exact cZ hy O_is_whole hr tx.C_is_whole (za (zb 0 (pv 0)) zj)
 refine wu ?_ ?_
 exact cZ hy O_is_whole hr tx.C_is_whole (za (zb 1 (pv 1)) zj)
 exact WK (xk Jk Jk Jk ZU ZU ZU (zy 2 (pv 2)) (zy 0 (pv 0)) (zy 1 (pv 1)) (zy 3 (pv 3)))
end
end G
namespace G
open PySem PySem.Spec PyProof.Rows L2 PV
section
variable {P:Program} {w:World} {K:PySem.W.Frag} {mg:Str->Option Value} {base:Heap} {cl:Nat->Value} {tx:Tx K mg}
theorem U6:ZQ P w base cl tx 1 (fun ts=>zp (wW  (en0 3 ts))):=by
 refine j7 tx.C_is_tuple_of.F U3 rfl (fun cdv A outer s H E Y hy hr=> ?_) (fun ts h=>rfl)
 refine zn ?_
 refine zz ?_
 refine wu ?_ ?_
 exact vi (n:="tuple") (yy _) (by rfl) tx.z_isinstance (by rfl) tx.z_tuple PyProof.Rows.Boot.«tuple» (zy 0 (pv 0))
 exact WK (Wb Jk Jk ZU ZU (zy 1 (pv 1)) (Snd.b (JI (by rfl) tx.z_len (zy 0 (pv 0)))) (zy 2 (pv 2)))
end
end G
namespace G
open PySem PySem.Spec PyProof.Rows L2 PV
section
variable {P:Program} {w:World} {K:PySem.W.Frag} {mg:Str->Option Value} {base:Heap} {cl:Nat->Value} {tx:Tx K mg}
theorem Qs:uL P w base cl tx 1 (fun ts=>zp (yE  (en0 1 ts))):=by
 refine j7 tx.C_is_word.F Qk rfl (fun cdv A outer s H E Y hy hr=> ?_) (fun ts h=>rfl)
 refine zi ?_ ?_
 refine Za ?_ ?_ ?_
 refine qf.t ?_
 refine Xc ?_ ?_
 exact yx (Q1 (Snd.b (vi (n:="str") (kr _) (by rfl) tx.z_isinstance (by rfl) tx.z_str PyProof.Rows.Boot.«str» (zy 0 (pv 0)))))
 refine Yr ?_
 refine yx ?_
 refine ve Jk Jk ZU ZU ?_ ?_ ?_
 exact Snd.b zd
 exact Snd.b (JI (by rfl) tx.z_len (zy 0 (pv 0)))
 exact Snd.b zd
 exact zn (zz xa)
 exact Z9
 refine zn ?_
 refine zz ?_
 refine xp hr.hd (by rfl) tx.z_all ?_
 refine Snd.b ?_
 refine Jt (jH ["sign"] yZ (ze uB) (by rfl) (by rfl) (by decide+kernel) (by rfl) ?_ (fun _ _ _ _ _ _=>zZ (show List.Nodup (["sign"]:List Str) by decide+kernel) (by rfl) (.inl (by rfl)) (.inr (by rfl))) (ZL 0) (ZM 0) (fun Y' hy' _ _ _ _ _ _=> ?_) (fun Y' hy' _ _ _ _ _ _=> ?_))
 exact Wd (zb 0 (pv 0))
 exact jG
 exact Wb Jk Jk ZU ZU (Snd.b ZA) (zy 0 (pv 0)) (Snd.b ZA)
end
end G
namespace G
open PySem PySem.Spec PyProof.Rows L2 PV
section
variable {P:Program} {w:World} {K:PySem.W.Frag} {mg:Str->Option Value} {base:Heap} {cl:Nat->Value} {tx:Tx K mg}
theorem Yd {c_is_whole c_is_tuple_of c_is_word:List T->R T} (O_is_whole:JD P w base cl tx 1 c_is_whole) (O_is_tuple_of:ZQ P w base cl tx 1 c_is_tuple_of) (O_is_word:uL P w base cl tx 1 c_is_word):wM P w base cl tx 2 (fun ts=>zp (JK c_is_whole c_is_tuple_of c_is_word (en0 1 ts))):=by
 refine j7 tx.C_is_choice.F Y0 rfl (fun cdv A outer s H E Y hy hr=> ?_) (fun ts h=>rfl)
 refine zn ?_
 refine zz ?_
 refine wu ?_ ?_
 refine cZ hy O_is_tuple_of hr tx.C_is_tuple_of ?_
 exact za (zb 0 (pv 0)) (za zd (za zd zj))
 refine wu ?_ ?_
 exact cZ hy O_is_word hr tx.C_is_word (za (Ze (zb 0 (pv 0)) zd) zj)
 refine wu ?_ ?_
 exact cZ hy O_is_whole hr tx.C_is_whole (za (Ze (zb 0 (pv 0)) zd) zj)
 refine WK ?_
 refine Wb Jk Jk ZU ZU ?_ ?_ ?_
 exact Snd.b zd
 exact Snd.b (Ze (zb 0 (pv 0)) zd)
 exact Snd.b zd
end
end G
namespace G
open PySem PySem.Spec PyProof.Rows L2 PV
section
variable {P:Program} {w:World} {K:PySem.W.Frag} {mg:Str->Option Value} {base:Heap} {cl:Nat->Value} {tx:Tx K mg}
theorem U7 {c_is_tuple_of c_is_choice:List T->R T} (O_is_tuple_of:ZQ P w base cl tx 1 c_is_tuple_of) (O_is_choice:wM P w base cl tx 2 c_is_choice):JR P w base cl tx 3 (fun ts=>zp (jL c_is_tuple_of c_is_choice (en0 2 ts))):=by
 refine j7 tx.C_are_choices.F wB rfl (fun cdv A outer s H E Y hy hr=> ?_) (fun ts h=>rfl)
 refine zi ?_ ?_
 refine Za ?_ ?_ ?_
 refine qf.t ?_
 refine Xc ?_ ?_
 refine yx ?_
 refine Q1 ?_
 refine Snd.b ?_
 refine cZ hy O_is_tuple_of hr tx.C_is_tuple_of ?_
 exact za (zb 0 (pv 0)) (za zd (za zd zj))
 refine Yr ?_
 refine yx ?_
 refine Q1 ?_
 refine Snd.b ?_
 refine xp hr.hd (by rfl) tx.z_all ?_
 refine Snd.b ?_
 refine Jt (jH ["part"] JQ (ze jO) (by rfl) (by rfl) (by decide+kernel) (by rfl) ?_ (fun _ _ _ _ _ _=>zZ (show List.Nodup (["part"]:List Str) by decide+kernel) (by rfl) (.inl (by rfl)) (.inr (by rfl))) (ZL 0) (ZM 0) (fun Y' hy' _ _ _ _ _ _=> ?_) (fun Y' hy' _ _ _ _ _ _=> ?_))
 exact Wd (zb 0 (pv 0))
 exact jG
 exact cZ (hy'.trans hy) O_is_choice hr tx.C_is_choice (za (zb 0 (pv 0)) zj)
 exact zn (zz xa)
 exact Z9
 refine zi ?_ ?_
 refine Xo (i:=1) (jH ["choice"] JQ (ze jO) (by rfl) (by rfl) (by decide+kernel) (by rfl) ?_ (fun _ _ _ _ _ _=>zZ (show List.Nodup (["choice"]:List Str) by decide+kernel) (by rfl) (.inl (by rfl)) (.inr (by rfl))) (ZL 0) (ZM 0) (fun Y' hy' _ _ _ _ _ _=> ?_) (fun Y' hy' _ _ _ _ _ _=> ?_)) wB.nd (by rfl) (.inl (by rfl)) (by rfl)
 exact Wd (zb 0 (pv 0))
 exact jG
 exact Ze (zb 0 (pv 0)) zd
 refine zn ?_
 refine zz ?_
 exact UB ZK (zM hr.units) (Snd.b (gy hr.hd (by rfl) tx.z_len (by rfl) tx.z_set (zy 1 (pv 1)))) (Snd.b (JI (by rfl) tx.z_len (zy 1 (pv 1)))) (zv _)
end
end G
namespace G
open PySem PySem.Spec PyProof.Rows L2 PV
section
variable {P:Program} {w:World} {K:PySem.W.Frag} {mg:Str->Option Value} {base:Heap} {cl:Nat->Value} {tx:Tx K mg}
theorem Wo {j:Nat} (hj:3<=j) {c_is_span c_is_kind_within c_are_choices c_are_kinds_within:List T->R T} (O_is_span:uK P w base cl tx 2 c_is_span) (O_is_kind_within:Z5 P w base cl tx j c_is_kind_within) (O_are_choices:JR P w base cl tx 3 c_are_choices) (O_are_kinds_within:Zz P w base cl tx j c_are_kinds_within):Z5 P w base cl tx (j+1) (fun ts=>zp (ZY c_is_span c_is_kind_within c_are_choices c_are_kinds_within (en0 2 ts))):=by
 refine j7 tx.C_is_kind_within.F Wj rfl (fun cdv A outer s H E Y hy hr=> ?_) (fun ts h=>rfl)
 refine zi ?_ ?_
 refine Za ?_ ?_ ?_
 refine qf.t ?_
 refine Xc ?_ ?_
 exact zY ZK (zM hr.units) (zy 1 (pv 1)) (Snd.b zd) (zv _)
 refine Xc ?_ ?_
 exact yx (Q1 (Snd.b (vi (n:="tuple") (yy _) (by rfl) tx.z_isinstance (by rfl) tx.z_tuple PyProof.Rows.Boot.«tuple» (zy 0 (pv 0)))))
 exact Yr (zY ZK (zM hr.units) (Snd.b (JI (by rfl) tx.z_len (zy 0 (pv 0)))) (Snd.b zd) (zv _))
 exact zn (zz xa)
 exact Z9
 refine zi ?_ ?_
 refine Za ?_ ?_ ?_
 exact zY ZK (zM hr.units) (Snd.b (Ze (zb 0 (pv 0)) zd)) (Snd.b ZA) (zv _)
 refine zn ?_
 refine zz ?_
 refine wu ?_ ?_
 exact UB ZK (zM hr.units) (Snd.b (JI (by rfl) tx.z_len (zy 0 (pv 0)))) (Snd.b zd) (zv _)
 refine WK ?_
 refine cZ hy O_is_span hr tx.C_is_span ?_
 refine za ?_ ?_
 exact Ze (zb 0 (pv 0)) zd
 refine za ?_ ?_
 exact Ze (zb 0 (pv 0)) zd
 exact za (v6 zd) (za zd zj)
 exact Z9
 refine zi ?_ ?_
 refine Za ?_ ?_ ?_
 exact zY ZK (zM hr.units) (Snd.b (Ze (zb 0 (pv 0)) zd)) (Snd.b ZA) (zv _)
 refine zn ?_
 refine zz ?_
 refine wu ?_ ?_
 exact UB ZK (zM hr.units) (Snd.b (JI (by rfl) tx.z_len (zy 0 (pv 0)))) (Snd.b zd) (zv _)
 exact WK (cZ hy O_are_choices hr tx.C_are_choices (za (Ze (zb 0 (pv 0)) zd) zj))
 exact Z9
 refine zi ?_ ?_
 refine Za ?_ ?_ ?_
 exact zY ZK (zM hr.units) (Snd.b (Ze (zb 0 (pv 0)) zd)) (Snd.b ZA) (zv _)
 refine zn ?_
 refine zz ?_
 refine wu ?_ ?_
 exact UB ZK (zM hr.units) (Snd.b (JI (by rfl) tx.z_len (zy 0 (pv 0)))) (Snd.b zd) (zv _)
 refine WK ?_
 refine cZ hy O_are_kinds_within hr tx.C_are_kinds_within ?_
 refine za ?_ ?_
 exact Ze (zb 0 (pv 0)) zd
 exact za (Wa (zb 1 (pv 1)) zd) zj
 exact Z9
 refine zi ?_ ?_
 refine Za ?_ ?_ ?_
 exact zY ZK (zM hr.units) (Snd.b (Ze (zb 0 (pv 0)) zd)) (Snd.b ZA) (zv _)
 refine zn ?_
 refine zz ?_
 refine wu ?_ ?_
 exact UB ZK (zM hr.units) (Snd.b (JI (by rfl) tx.z_len (zy 0 (pv 0)))) (Snd.b zd) (zv _)
 refine wu ?_ ?_
 refine cZ hy O_is_span hr tx.C_is_span ?_
 refine za ?_ ?_
 exact Ze (zb 0 (pv 0)) zd
 refine za ?_ ?_
 exact Ze (zb 0 (pv 0)) zd
 exact za zd (za zd zj)
 refine WK ?_
 refine cZ hy O_is_kind_within hr tx.C_is_kind_within ?_
 refine za ?_ ?_
 exact Ze (zb 0 (pv 0)) zd
 exact za (Wa (zb 1 (pv 1)) zd) zj
 exact Z9
 exact zn (zz xa)
end
end G
namespace G
open PySem PySem.Spec PyProof.Rows L2 PV
section
variable {P:Program} {w:World} {K:PySem.W.Frag} {mg:Str->Option Value} {base:Heap} {cl:Nat->Value} {tx:Tx K mg}
theorem wO {j:Nat} (hj:3<=j) {c_is_tuple_of c_is_kind_within:List T->R T} (O_is_tuple_of:ZQ P w base cl tx 1 c_is_tuple_of) (O_is_kind_within:Z5 P w base cl tx j c_is_kind_within):Zz P w base cl tx (j+1) (fun ts=>zp (Zx c_is_tuple_of c_is_kind_within (en0 2 ts))):=by
 refine j7 tx.C_are_kinds_within.F wK rfl (fun cdv A outer s H E Y hy hr=> ?_) (fun ts h=>rfl)
 refine zn ?_
 refine zz ?_
 refine wu ?_ ?_
 refine cZ hy O_is_tuple_of hr tx.C_is_tuple_of ?_
 exact za (zb 0 (pv 0)) (za zd (za zd zj))
 refine WK ?_
 refine xp hr.hd (by rfl) tx.z_all ?_
 refine Snd.b ?_
 refine Jt (jH ["part","levels"] Jh (ze ji) (by rfl) (by rfl) (by decide+kernel) (by rfl) ?_ (fun _ _ _ _ _ _=>zZ (show List.Nodup (["part","levels"]:List Str) by decide+kernel) (by rfl) (.inl (by rfl)) (.inr (by rfl))) (ZL 0) (ZM 0) (fun Y' hy' _ _ _ _ _ _=> ?_) (fun Y' hy' _ _ _ _ _ _=> ?_))
 exact Wd (zb 0 (pv 0))
 exact jG
 exact cZ (hy'.trans hy) O_is_kind_within hr tx.C_is_kind_within (za (zb 0 (pv 0)) (za (zb 1 (pv 1)) zj))
end
end G
namespace G
open PySem PySem.Spec PyProof.Rows L2 PV
section
variable {P:Program} {w:World} {K:PySem.W.Frag} {mg:Str->Option Value} {base:Heap} {cl:Nat->Value} {tx:Tx K mg}
theorem Qt {c_is_kind_within:List T->R T} (O_is_kind_within:Z5 P w base cl tx 23 c_is_kind_within):uM P w base cl tx 24 (fun ts=>zp (wY c_is_kind_within (en0 1 ts))):=by
 obtain ⟨u_DEEPEST,c_DEEPEST⟩:=tx.c_DEEPEST
 refine j7 tx.C_is_kind.F Ql rfl (fun cdv A outer s H E Y hy hr=> ?_) (fun ts h=>rfl)
 refine zn ?_
 exact zz (cZ hy O_is_kind_within hr tx.C_is_kind_within (za (zb 0 (pv 0)) (za (Ys (by rfl) c_DEEPEST.1 c_DEEPEST.2) zj)))
end
end G
namespace G
open PySem PySem.Spec PyProof.Rows L2 PV
section
variable {P:Program} {w:World} {K:PySem.W.Frag} {mg:Str->Option Value} {base:Heap} {cl:Nat->Value} {tx:Tx K mg}
theorem Ye {c_is_kind:List T->R T} (xq:Tq K mg base cl) (O_is_kind:uM P w base cl tx 24 c_is_kind):J0 P w base cl tx 25 (fun ts=>zp (JL c_is_kind (en0 1 ts))):=by
 refine wx tx.C_need_kind.F Y2 rfl (fun cdv A outer s H E Y hy hE hr=> ?_) (fun ts h=>rfl)
 refine zn ?_
 refine Za ?_ ?_ ?_
 exact yx (Q1 (Snd.b (cZ hy O_is_kind hr tx.C_is_kind (za (zb 0 (pv 0)) zj))))
 exact zn (UI (c:=0) xq.o_NoKind PySem.F.excBase_ValueError (by decide) PySem.F.excBase_ValueError hE (by rw [hy]; exact xq.l_NoKind) (by rfl))
 exact Z9
end
end G
namespace G
open PySem PySem.Spec PyProof.Rows L2 PV
section
variable {P:Program} {w:World} {K:PySem.W.Frag} {mg:Str->Option Value} {base:Heap} {cl:Nat->Value} {tx:Tx K mg}
theorem YR {j:Nat} (hj:0<=j) {c_count_of_parts c_count_shorter:List T->R T} (O_count_of_parts:Zs P w base cl tx j c_count_of_parts) (O_count_shorter:Zi P w base cl tx j c_count_shorter):ZR P w base cl tx (j+1) (fun ts=>zp (wm c_count_of_parts c_count_shorter (en0 1 ts))):=by
 refine j7 tx.C_count_of.F YJ rfl (fun cdv A outer s H E Y hy hr=> ?_) (fun ts h=>rfl)
 refine zi ?_ ?_
 refine Za ?_ ?_ ?_
 exact zY ZK (zM hr.units) (Snd.b (Ze (zb 0 (pv 0)) zd)) (Snd.b ZA) (zv _)
 refine zn ?_
 refine zz ?_
 refine zQ ?_ ?_
 exact Wa (Ze (zb 0 (pv 0)) zd) (Ze (zb 0 (pv 0)) zd)
 exact zd
 exact Z9
 refine zi ?_ ?_
 refine Za ?_ ?_ ?_
 exact zY ZK (zM hr.units) (Snd.b (Ze (zb 0 (pv 0)) zd)) (Snd.b ZA) (zv _)
 exact zn (zz (JI (by rfl) tx.z_len (Snd.b (Ze (zb 0 (pv 0)) zd))))
 exact Z9
 refine zi ?_ ?_
 refine Za ?_ ?_ ?_
 exact zY ZK (zM hr.units) (Snd.b (Ze (zb 0 (pv 0)) zd)) (Snd.b ZA) (zv _)
 refine zn ?_
 exact zz (cZ hy O_count_of_parts hr tx.C_count_of_parts (za (Ze (zb 0 (pv 0)) zd) zj))
 exact Z9
 refine zn ?_
 refine zz ?_
 refine cZ hy O_count_shorter hr tx.C_count_shorter ?_
 refine za ?_ ?_
 exact zb 0 (pv 0)
 exact za (zQ (Ze (zb 0 (pv 0)) zd) zd) zj
end
end G
namespace G
open PySem PySem.Spec PyProof.Rows L2 PV
section
variable {P:Program} {w:World} {K:PySem.W.Frag} {mg:Str->Option Value} {base:Heap} {cl:Nat->Value} {tx:Tx K mg}
theorem Wp {j:Nat} (hj:0<=j) {c_count_of:List T->R T} (O_count_of:ZR P w base cl tx j c_count_of):Zs P w base cl tx (j+1) (fun ts=>zp (zG c_count_of (en0 3 ts))):=by
 refine j7 tx.C_count_of_parts.F ZO rfl (fun cdv A outer s H E Y hy hr=> ?_) (fun ts h=>rfl)
 refine zi ?_ ?_
 exact ZT (i:=1) ZO.nd (by rfl) (.inl (by rfl)) zd
 refine zi ?_ ?_
 refine ue PassesOwn.never (by rfl) ?_ ?_ ?_
 exact Wd (zb 0 (pv 0))
 exact wT (i:=2) ZO.nd (by rfl) (.inl (by rfl))
 refine zn ?_
 exact ZT (i:=1) ZO.nd (by rfl) (.inl (by rfl)) (jK (zb 1 (pv 1)) (cZ hy O_count_of hr tx.C_count_of (za (zb 2 (pv 2)) zj)))
 exact zn (zz (zb 1 (pv 1)))
end
end G
namespace G
open PySem PySem.Spec PyProof.Rows L2 PV
section
variable {P:Program} {w:World} {K:PySem.W.Frag} {mg:Str->Option Value} {base:Heap} {cl:Nat->Value} {tx:Tx K mg}
theorem WW {j:Nat} (hj:0<=j) {c_count_of_parts:List T->R T} (O_count_of_parts:Zs P w base cl tx j c_count_of_parts):Zi P w base cl tx (j+1) (fun ts=>zp (zV c_count_of_parts (en0 2 ts))):=by
 refine j7 tx.C_count_shorter.F WT rfl (fun cdv A outer s H E Y hy hr=> ?_) (fun ts h=>rfl)
 refine zn ?_
 refine zz ?_
 refine z0b hr.hd (by rfl) tx.z_sum ?_
 refine Snd.b ?_
 refine Jt (jH ["each","kind"] wa (ze jW) (by rfl) (by rfl) (by decide+kernel) (by rfl) ?_ (fun _ _ _ _ _ _=>zZ (show List.Nodup (["each","kind"]:List Str) by decide+kernel) (by rfl) (.inl (by rfl)) (.inr (by rfl))) (ZL 0) (ZM 0) (fun Y' hy' _ _ _ _ _ _=> ?_) (fun Y' hy' _ _ _ _ _ _=> ?_))
 exact vw (by rfl) tx.z_range (Ze (zb 0 (pv 0)) zd) (zb 1 (pv 1))
 exact jG
 refine cZ (hy'.trans hy) O_count_of_parts hr tx.C_count_of_parts ?_
 refine za ?_ ?_
 refine jK ?_ ?_
 exact uU (za (Ze (zb 1 (pv 1)) zd) zj)
 exact zb 0 (pv 0)
 exact zj
end
end G
namespace G
open PySem PySem.Spec PyProof.Rows L2 PV
section
variable {P:Program} {w:World} {K:PySem.W.Frag} {mg:Str->Option Value} {base:Heap} {cl:Nat->Value} {tx:Tx K mg}
theorem WX:ZJ P w base cl tx 1 (fun ts=>zp (je  (en0 1 ts))):=by
 refine j7 tx.C_words_of_pick.F WU rfl (fun cdv A outer s H E Y hy hr=> ?_) (fun ts h=>rfl)
 refine zn ?_
 refine zz ?_
 refine Jt (jH ["choice"] wb (ze jX) (by rfl) (by rfl) (by decide+kernel) (by rfl) ?_ (fun _ _ _ _ _ _=>zZ (show List.Nodup (["choice"]:List Str) by decide+kernel) (by rfl) (.inl (by rfl)) (.inr (by rfl))) (ZL 0) (ZM 0) (fun Y' hy' _ _ _ _ _ _=> ?_) (fun Y' hy' _ _ _ _ _ _=> ?_))
 exact Wd (Ze (zb 0 (pv 0)) zd)
 exact jG
 exact Ze (zb 0 (pv 0)) zd
end
end G
namespace G
open PySem PySem.Spec PyProof.Rows L2 PV
section
variable {P:Program} {w:World} {K:PySem.W.Frag} {mg:Str->Option Value} {base:Heap} {cl:Nat->Value} {tx:Tx K mg}
theorem YS {j:Nat} (hj:20<=j) {c_words_of_pick c_many_at c_parts_at:List T->R T} (O_words_of_pick:ZJ P w base cl tx 1 c_words_of_pick) (O_many_at:W6 P w base cl tx j c_many_at) (O_parts_at:JE P w base cl tx j c_parts_at):j4 P w base cl tx (j+1) (fun ts=>zp (wn c_words_of_pick c_many_at c_parts_at (en0 2 ts))):=by
 refine j7 tx.C_worth_at.F YK rfl (fun cdv A outer s H E Y hy hr=> ?_) (fun ts h=>rfl)
 refine zi ?_ ?_
 refine Za ?_ ?_ ?_
 exact zY ZK (zM hr.units) (Snd.b (Ze (zb 0 (pv 0)) zd)) (Snd.b ZA) (zv _)
 exact zn (zz (zQ (Ze (zb 0 (pv 0)) zd) (zb 1 (pv 1))))
 exact Z9
 refine zi ?_ ?_
 refine Za ?_ ?_ ?_
 exact zY ZK (zM hr.units) (Snd.b (Ze (zb 0 (pv 0)) zd)) (Snd.b ZA) (zv _)
 refine zn ?_
 exact zz (Ze (cZ hy O_words_of_pick hr tx.C_words_of_pick (za (zb 0 (pv 0)) zj)) (zb 1 (pv 1)))
 exact Z9
 refine zi ?_ ?_
 refine Za ?_ ?_ ?_
 exact zY ZK (zM hr.units) (Snd.b (Ze (zb 0 (pv 0)) zd)) (Snd.b ZA) (zv _)
 refine zn ?_
 refine zz ?_
 refine cZ hy O_parts_at hr tx.C_parts_at ?_
 exact za (Ze (zb 0 (pv 0)) zd) (za (zb 1 (pv 1)) zj)
 exact Z9
 refine zn ?_
 exact zz (cZ hy O_many_at hr tx.C_many_at (za (zb 0 (pv 0)) (za (zb 1 (pv 1)) zj)))
end
end G
namespace G
open PySem PySem.Spec PyProof.Rows L2 PV
section
variable {P:Program} {w:World} {K:PySem.W.Frag} {mg:Str->Option Value} {base:Heap} {cl:Nat->Value} {tx:Tx K mg}
theorem Qu {j:Nat} (hj:20<=j) {c_count_shorter c_parts_at:List T->R T} (O_count_shorter:Zi P w base cl tx 20 c_count_shorter) (O_parts_at:JE P w base cl tx j c_parts_at):W6 P w base cl tx (j+1) (fun ts=>zp (Jw c_count_shorter c_parts_at (en0 3 ts))):=by
 refine j7 tx.C_many_at.F Wk rfl (fun cdv A outer s H E Y hy hr=> ?_) (fun ts h=>rfl)
 refine zi ?_ ?_
 exact ZT (i:=2) Wk.nd (by rfl) (.inl (by rfl)) (Ze (zb 0 (pv 0)) zd)
 refine zi ?_ ?_
 refine kv (n:=8) PassesOwn.never ?_ ?_
 refine zY Jk ZU ?_ ?_ (zv _)
 refine Snd.b ?_
 refine cZ hy O_count_shorter hr tx.C_count_shorter ?_
 exact za (zb 0 (pv 0)) (za (zQ (zb 2 (pv 2)) zd) zj)
 exact zy 1 (pv 1)
 exact zn (ZT (i:=2) Wk.nd (by rfl) (.inl (by rfl)) (zQ (zb 2 (pv 2)) zd))
 refine zn ?_
 refine zz ?_
 refine cZ hy O_parts_at hr tx.C_parts_at ?_
 refine za ?_ ?_
 refine jK ?_ ?_
 exact uU (za (Ze (zb 0 (pv 0)) zd) zj)
 exact zb 2 (pv 2)
 refine za ?_ ?_
 refine Wa ?_ ?_
 exact zb 1 (pv 1)
 exact cZ hy O_count_shorter hr tx.C_count_shorter (za (zb 0 (pv 0)) (za (zb 2 (pv 2)) zj))
 exact zj
end
end G
namespace G
open PySem PySem.Spec PyProof.Rows L2 PV
section
variable {P:Program} {w:World} {K:PySem.W.Frag} {mg:Str->Option Value} {base:Heap} {cl:Nat->Value} {tx:Tx K mg}
theorem YT {j:Nat} (hj:20<=j) {c_count_of c_worth_at:List T->R T} (O_count_of:ZR P w base cl tx 20 c_count_of) (O_worth_at:j4 P w base cl tx j c_worth_at):JE P w base cl tx (j+1) (fun ts=>zp (jm c_count_of c_worth_at (en0 6 ts))):=by
 refine j7 tx.C_parts_at.F jn rfl (fun cdv A outer s H E Y hy hr=> ?_) (fun ts h=>rfl)
 refine zi ?_ ?_
 exact qg (i:=2) jn.nd (by rfl) (.inl (by rfl)) zj
 refine zi ?_ ?_
 exact ZT (i:=3) jn.nd (by rfl) (.inl (by rfl)) (zb 1 (pv 1))
 refine zi ?_ ?_
 refine ue PassesOwn.never (by rfl) ?_ ?_ ?_
 exact z0f (by rfl) tx.z_reversed (zb 0 (pv 0))
 exact wT (i:=4) jn.nd (by rfl) (.inl (by rfl))
 refine zi ?_ ?_
 exact ZT (i:=5) jn.nd (by rfl) (.inl (by rfl)) (cZ hy O_count_of hr tx.C_count_of (za (zb 4 (pv 4)) zj))
 refine zi ?_ ?_
 refine gp (i:=2) (pv 2) ?_
 refine cZ hy O_worth_at hr tx.C_worth_at ?_
 exact za (zb 4 (pv 4)) (za (QY (zb 3 (pv 3)) (zb 5 (pv 5))) zj)
 exact zn (ZT (i:=3) jn.nd (by rfl) (.inl (by rfl)) (QZ (zb 3 (pv 3)) (zb 5 (pv 5))))
 exact zn (zz (gQ hr.hd (by rfl) tx.z_tuple (by rfl) tx.z_reversed (zb 2 (pv 2))))
end
end G
namespace G
open PySem PySem.Spec PyProof.Rows L2 PV
section
variable {P:Program} {w:World} {K:PySem.W.Frag} {mg:Str->Option Value} {base:Heap} {cl:Nat->Value} {tx:Tx K mg}
theorem y8 {c_need_kind c_count_of c_worth_at:List T->R T} (xq:Tq K mg base cl) (O_need_kind:J0 P w base cl tx 25 c_need_kind) (O_count_of:ZR P w base cl tx 20 c_count_of) (O_worth_at:j4 P w base cl tx 40 c_worth_at):wf P w base cl tx 41 (fun ts=>zp (Jb c_need_kind c_count_of c_worth_at (en0 2 ts))):=by
 obtain ⟨u_MOST_TOLD,c_MOST_TOLD⟩:=tx.c_MOST_TOLD
 refine wx tx.C_all_worths.F W4 rfl (fun cdv A outer s H E Y hy hE hr=> ?_) (fun ts h=>rfl)
 refine zi ?_ ?_
 exact Ws (cX hy (hE ▸ JG) O_need_kind hr tx.C_need_kind (za (zb 0 (pv 0)) zj))
 refine zi ?_ ?_
 exact ZT (i:=1) W4.nd (by rfl) (.inl (by rfl)) (cZ hy O_count_of hr tx.C_count_of (za (zb 0 (pv 0)) zj))
 refine zi ?_ ?_
 refine Za ?_ ?_ ?_
 exact zY xi qe (zy 1 (pv 1)) (Snd.b (Ys (by rfl) c_MOST_TOLD.1 c_MOST_TOLD.2)) (zv _)
 exact zn (UI (c:=3) xq.o_TooMany PySem.F.excBase_ValueError (by decide) PySem.F.excBase_ValueError hE (by rw [hy]; exact xq.l_TooMany) (by rfl))
 exact Z9
 refine zn ?_
 refine gG (jH ["number","kind"] WD (ze wc) (by rfl) (by rfl) (by decide+kernel) (by rfl) ?_ (fun _ _ _ _ _ _=>zZ (show List.Nodup (["number","kind"]:List Str) by decide+kernel) (by rfl) (.inl (by rfl)) (.inr (by rfl))) (ZL 0) (ZM 0) (fun Y' hy' _ _ _ _ _ _=> ?_) (fun Y' hy' _ _ _ _ _ _=> ?_))
 exact Uc (by rfl) tx.z_range (zb 1 (pv 1))
 exact jG
 exact cZ (hy'.trans hy) O_worth_at hr tx.C_worth_at (za (zb 1 (pv 1)) (za (zb 0 (pv 0)) zj))
end
end G
namespace G
open PySem PySem.Spec PyProof.Rows L2 PV
section
variable {P:Program} {w:World} {K:PySem.W.Frag} {mg:Str->Option Value} {base:Heap} {cl:Nat->Value} {tx:Tx K mg}
theorem VI {c_need_kind c_count_of c_worth_at:List T->R T} (O_need_kind:J0 P w base cl tx 25 c_need_kind) (O_count_of:ZR P w base cl tx 20 c_count_of) (O_worth_at:j4 P w base cl tx 40 c_worth_at):y6 P w base cl tx 41 (fun ts=>zp (u0 c_need_kind c_count_of c_worth_at (en0 1 ts))):=by
 refine wx tx.C_middle.F VH rfl (fun cdv A outer s H E Y hy hE hr=> ?_) (fun ts h=>rfl)
 refine zi ?_ ?_
 exact Ws (cX hy (hE ▸ JG) O_need_kind hr tx.C_need_kind (za (zb 0 (pv 0)) zj))
 refine zn ?_
 refine zz ?_
 refine cZ hy O_worth_at hr tx.C_worth_at ?_
 refine za ?_ ?_
 exact zb 0 (pv 0)
 refine za ?_ ?_
 refine QZ ?_ ?_
 exact Wa (cZ hy O_count_of hr tx.C_count_of (za (zb 0 (pv 0)) zj)) zd
 exact zd
 exact zj
end
end G
namespace G
open PySem PySem.Spec PyProof.Rows L2 PV
section
variable {P:Program} {w:World} {K:PySem.W.Frag} {mg:Str->Option Value} {base:Heap} {cl:Nat->Value} {tx:Tx K mg}
theorem Yf {j:Nat} (hj:1<=j) {c_is_whole c_is_tuple_of c_words_of_pick c_have_parts:List T->R T} (O_is_whole:JD P w base cl tx 1 c_is_whole) (O_is_tuple_of:ZQ P w base cl tx 1 c_is_tuple_of) (O_words_of_pick:ZJ P w base cl tx 1 c_words_of_pick) (O_have_parts:Ji P w base cl tx j c_have_parts):J4 P w base cl tx (j+1) (fun ts=>zp (zW c_is_whole c_is_tuple_of c_words_of_pick c_have_parts (en0 2 ts))):=by
 refine j7 tx.C_has_worth.F Y4 rfl (fun cdv A outer s H E Y hy hr=> ?_) (fun ts h=>rfl)
 refine zi ?_ ?_
 refine Za ?_ ?_ ?_
 exact zY ZK (zM hr.units) (Snd.b (Ze (zb 0 (pv 0)) zd)) (Snd.b ZA) (zv _)
 refine zn ?_
 refine zz ?_
 refine wu ?_ ?_
 exact cZ hy O_is_whole hr tx.C_is_whole (za (zb 1 (pv 1)) zj)
 refine WK ?_
 refine Wb Jk Jk ZU ZU ?_ ?_ ?_
 exact Snd.b (Ze (zb 0 (pv 0)) zd)
 exact zy 1 (pv 1)
 exact Snd.b (Ze (zb 0 (pv 0)) zd)
 exact Z9
 refine zi ?_ ?_
 refine Za ?_ ?_ ?_
 exact zY ZK (zM hr.units) (Snd.b (Ze (zb 0 (pv 0)) zd)) (Snd.b ZA) (zv _)
 refine zn ?_
 refine zz ?_
 exact UB xj (Xa hr.units) (zy 1 (pv 1)) (Snd.b (cZ hy O_words_of_pick hr tx.C_words_of_pick (za (zb 0 (pv 0)) zj))) (by rfl)
 exact Z9
 refine zi ?_ ?_
 refine Za ?_ ?_ ?_
 exact zY ZK (zM hr.units) (Snd.b (Ze (zb 0 (pv 0)) zd)) (Snd.b ZA) (zv _)
 refine zn ?_
 refine zz ?_
 refine wu ?_ ?_
 refine cZ hy O_is_tuple_of hr tx.C_is_tuple_of ?_
 refine za ?_ ?_
 exact zb 1 (pv 1)
 refine za ?_ ?_
 exact JI (by rfl) tx.z_len (Snd.b (Ze (zb 0 (pv 0)) zd))
 exact za (JI (by rfl) tx.z_len (Snd.b (Ze (zb 0 (pv 0)) zd))) zj
 refine WK ?_
 refine cZ hy O_have_parts hr tx.C_have_parts ?_
 exact za (Ze (zb 0 (pv 0)) zd) (za (zb 1 (pv 1)) zj)
 exact Z9
 refine zn ?_
 refine zz ?_
 refine wu ?_ ?_
 refine cZ hy O_is_tuple_of hr tx.C_is_tuple_of ?_
 refine za ?_ ?_
 exact zb 1 (pv 1)
 refine za ?_ ?_
 exact Ze (zb 0 (pv 0)) zd
 exact za (Ze (zb 0 (pv 0)) zd) zj
 refine WK ?_
 refine cZ hy O_have_parts hr tx.C_have_parts ?_
 refine za ?_ ?_
 refine jK ?_ ?_
 exact uU (za (Ze (zb 0 (pv 0)) zd) zj)
 exact JI (by rfl) tx.z_len (zy 1 (pv 1))
 exact za (zb 1 (pv 1)) zj
end
end G
namespace G
open PySem PySem.Spec PyProof.Rows L2 PV
section
variable {P:Program} {w:World} {K:PySem.W.Frag} {mg:Str->Option Value} {base:Heap} {cl:Nat->Value} {tx:Tx K mg}
theorem y9 {j:Nat} (hj:1<=j) {c_has_worth:List T->R T} (O_has_worth:J4 P w base cl tx j c_has_worth):Ji P w base cl tx (j+1) (fun ts=>zp (jy c_has_worth (en0 2 ts))):=by
 refine j7 tx.C_have_parts.F UY rfl (fun cdv A outer s H E Y hy hr=> ?_) (fun ts h=>rfl)
 refine zn ?_
 refine zz ?_
 refine xp hr.hd (by rfl) tx.z_all ?_
 refine Snd.b ?_
 refine Jt (jH ["kind","part"] WE (ze wd) (by rfl) (by rfl) (by decide+kernel) (by rfl) ?_ (fun _ _ _ _ _ _=>YY (by rfl) (J8 (zZ (show List.Nodup (["kind","part"]:List Str) by decide+kernel) (by rfl) (.inl (by rfl)) (.inr (by rfl))) (J8 (zZ (show List.Nodup (["kind","part"]:List Str) by decide+kernel) (by rfl) (.inl (by rfl)) (.inr (by rfl))) Uw))) (UE _ 0 1) (UG 0 1) (fun Y' hy' _ _ _ _ _ _=> ?_) (fun Y' hy' _ _ _ _ _ _=> ?_))
 exact kP (by rfl) tx.z_zip (zb 0 (pv 0)) (zb 1 (pv 1))
 exact jG
 exact cZ (hy'.trans hy) O_has_worth hr tx.C_has_worth (za (zb 0 (pv 0)) (za (zb 1 (pv 1)) zj))
end
end G
namespace G
open PySem PySem.Spec PyProof.Rows L2 PV
section
variable {P:Program} {w:World} {K:PySem.W.Frag} {mg:Str->Option Value} {base:Heap} {cl:Nat->Value} {tx:Tx K mg}
theorem YU {c_need_kind c_has_worth:List T->R T} (O_need_kind:J0 P w base cl tx 25 c_need_kind) (O_has_worth:J4 P w base cl tx 21 c_has_worth):Wm P w base cl tx 26 (fun ts=>zp (wo c_need_kind c_has_worth (en0 2 ts))):=by
 refine wx tx.C_is_worth.F YM rfl (fun cdv A outer s H E Y hy hE hr=> ?_) (fun ts h=>rfl)
 refine zi ?_ ?_
 exact Ws (cX hy (hE ▸ JG) O_need_kind hr tx.C_need_kind (za (zb 0 (pv 0)) zj))
 refine zn ?_
 exact zz (cZ hy O_has_worth hr tx.C_has_worth (za (zb 0 (pv 0)) (za (zb 1 (pv 1)) zj)))
end
end G
namespace G
open PySem PySem.Spec PyProof.Rows L2 PV
section
variable {P:Program} {w:World} {K:PySem.W.Frag} {mg:Str->Option Value} {base:Heap} {cl:Nat->Value} {tx:Tx K mg}
theorem ya {c_is_worth:List T->R T} (xq:Tq K mg base cl) (O_is_worth:Wm P w base cl tx 26 c_is_worth):j5 P w base cl tx 27 (fun ts=>zp (Jc c_is_worth (en0 2 ts))):=by
 refine wx tx.C_need_worth.F UZ rfl (fun cdv A outer s H E Y hy hE hr=> ?_) (fun ts h=>rfl)
 refine zn ?_
 refine Za ?_ ?_ ?_
 refine yx ?_
 refine Q1 ?_
 exact Snd.b (cX hy (hE ▸ JG) O_is_worth hr tx.C_is_worth (za (zb 0 (pv 0)) (za (zb 1 (pv 1)) zj)))
 exact zn (UI (c:=1) xq.o_NoWorth PySem.F.excBase_ValueError (by decide) PySem.F.excBase_ValueError hE (by rw [hy]; exact xq.l_NoWorth) (by rfl))
 exact Z9
end
end G
namespace G
open PySem PySem.Spec PyProof.Rows L2 PV
section
variable {P:Program} {w:World} {K:PySem.W.Frag} {mg:Str->Option Value} {base:Heap} {cl:Nat->Value} {tx:Tx K mg}
theorem YV {j:Nat} (hj:20<=j) {c_words_of_pick c_count_shorter c_place_of_parts:List T->R T} (O_words_of_pick:ZJ P w base cl tx 1 c_words_of_pick) (O_count_shorter:Zi P w base cl tx 20 c_count_shorter) (O_place_of_parts:ZZ P w base cl tx j c_place_of_parts):j6 P w base cl tx (j+1) (fun ts=>zp (wp c_words_of_pick c_count_shorter c_place_of_parts (en0 3 ts))):=by
 refine j7 tx.C_place_of.F uF rfl (fun cdv A outer s H E Y hy hr=> ?_) (fun ts h=>rfl)
 refine zi ?_ ?_
 refine Za ?_ ?_ ?_
 exact zY ZK (zM hr.units) (Snd.b (Ze (zb 0 (pv 0)) zd)) (Snd.b ZA) (zv _)
 exact zn (zz (Wa (zb 1 (pv 1)) (Ze (zb 0 (pv 0)) zd)))
 exact Z9
 refine zi ?_ ?_
 refine Za ?_ ?_ ?_
 exact zY ZK (zM hr.units) (Snd.b (Ze (zb 0 (pv 0)) zd)) (Snd.b ZA) (zv _)
 refine zn ?_
 refine zz ?_
 exact vM hr.units (Snd.b (cZ hy O_words_of_pick hr tx.C_words_of_pick (za (zb 0 (pv 0)) zj))) (zy 1 (pv 1))
 exact Z9
 refine zi ?_ ?_
 refine Za ?_ ?_ ?_
 exact zY ZK (zM hr.units) (Snd.b (Ze (zb 0 (pv 0)) zd)) (Snd.b ZA) (zv _)
 refine zn ?_
 refine zz ?_
 refine cZ hy O_place_of_parts hr tx.C_place_of_parts ?_
 exact za (Ze (zb 0 (pv 0)) zd) (za (zb 1 (pv 1)) zj)
 exact Z9
 refine zi ?_ ?_
 exact ZT (i:=2) uF.nd (by rfl) (.inl (by rfl)) (JI (by rfl) tx.z_len (zy 1 (pv 1)))
 refine zn ?_
 refine zz ?_
 refine zQ ?_ ?_
 exact cZ hy O_count_shorter hr tx.C_count_shorter (za (zb 0 (pv 0)) (za (zb 2 (pv 2)) zj))
 refine cZ hy O_place_of_parts hr tx.C_place_of_parts ?_
 refine za ?_ ?_
 refine jK ?_ ?_
 exact uU (za (Ze (zb 0 (pv 0)) zd) zj)
 exact zb 2 (pv 2)
 exact za (zb 1 (pv 1)) zj
end
end G
namespace G
open PySem PySem.Spec PyProof.Rows L2 PV
section
variable {P:Program} {w:World} {K:PySem.W.Frag} {mg:Str->Option Value} {base:Heap} {cl:Nat->Value} {tx:Tx K mg}
theorem Wq {j:Nat} (hj:20<=j) {c_count_of c_place_of:List T->R T} (O_count_of:ZR P w base cl tx 20 c_count_of) (O_place_of:j6 P w base cl tx j c_place_of):ZZ P w base cl tx (j+1) (fun ts=>zp (Z2 c_count_of c_place_of (en0 5 ts))):=by
 refine j7 tx.C_place_of_parts.F ZP rfl (fun cdv A outer s H E Y hy hr=> ?_) (fun ts h=>rfl)
 refine zi ?_ ?_
 exact ZT (i:=2) ZP.nd (by rfl) (.inl (by rfl)) zd
 refine zi ?_ ?_
 refine ue PassesOwn.never (by rfl) ?_ ?_ ?_
 exact kP (by rfl) tx.z_zip (zb 0 (pv 0)) (zb 1 (pv 1))
 exact Xm (i:=3) (j:=4) (by rfl) ZP.nd (by rfl) (by rfl) (.inl (by rfl)) (.inl (by rfl))
 refine zn ?_
 refine ZT (i:=2) ZP.nd (by rfl) (.inl (by rfl)) ?_
 refine zQ ?_ ?_
 exact jK (zb 2 (pv 2)) (cZ hy O_count_of hr tx.C_count_of (za (zb 3 (pv 3)) zj))
 exact cZ hy O_place_of hr tx.C_place_of (za (zb 3 (pv 3)) (za (zb 4 (pv 4)) zj))
 exact zn (zz (zb 2 (pv 2)))
end
end G
namespace G
open PySem PySem.Spec PyProof.Rows L2 PV
section
variable {P:Program} {w:World} {K:PySem.W.Frag} {mg:Str->Option Value} {base:Heap} {cl:Nat->Value} {tx:Tx K mg}
theorem Qv {c_need_worth c_worth_at c_place_of:List T->R T} (xq:Tq K mg base cl) (O_need_worth:j5 P w base cl tx 27 c_need_worth) (O_worth_at:j4 P w base cl tx 40 c_worth_at) (O_place_of:j6 P w base cl tx 40 c_place_of):uN P w base cl tx 41 (fun ts=>zp (wZ c_need_worth c_worth_at c_place_of (en0 5 ts))):=by
 obtain ⟨u_MOST_TOLD,c_MOST_TOLD⟩:=tx.c_MOST_TOLD
 refine wx tx.C_between.F Wl rfl (fun cdv A outer s H E Y hy hE hr=> ?_) (fun ts h=>rfl)
 refine zi ?_ ?_
 exact Ws (cX hy (hE ▸ JG) O_need_worth hr tx.C_need_worth (za (zb 0 (pv 0)) (za (zb 1 (pv 1)) zj)))
 refine zi ?_ ?_
 exact Ws (cX hy (hE ▸ JG) O_need_worth hr tx.C_need_worth (za (zb 0 (pv 0)) (za (zb 2 (pv 2)) zj)))
 refine zi ?_ ?_
 exact ZT (i:=3) Wl.nd (by rfl) (.inl (by rfl)) (cZ hy O_place_of hr tx.C_place_of (za (zb 0 (pv 0)) (za (zb 1 (pv 1)) zj)))
 refine zi ?_ ?_
 exact ZT (i:=4) Wl.nd (by rfl) (.inl (by rfl)) (cZ hy O_place_of hr tx.C_place_of (za (zb 0 (pv 0)) (za (zb 2 (pv 2)) zj)))
 refine zi ?_ ?_
 refine Za ?_ ?_ ?_
 refine zY xi qe ?_ ?_ (zv _)
 exact Snd.b (zQ (Wa (zb 4 (pv 4)) (zb 3 (pv 3))) zd)
 exact Snd.b (Ys (by rfl) c_MOST_TOLD.1 c_MOST_TOLD.2)
 exact zn (UI (c:=3) xq.o_TooMany PySem.F.excBase_ValueError (by decide) PySem.F.excBase_ValueError hE (by rw [hy]; exact xq.l_TooMany) (by rfl))
 exact Z9
 refine zn ?_
 refine zz ?_
 refine Jt (jH ["number","kind"] Y6 (ze uG) (by rfl) (by rfl) (by decide+kernel) (by rfl) ?_ (fun _ _ _ _ _ _=>zZ (show List.Nodup (["number","kind"]:List Str) by decide+kernel) (by rfl) (.inl (by rfl)) (.inr (by rfl))) (ZL 0) (ZM 0) (fun Y' hy' _ _ _ _ _ _=> ?_) (fun Y' hy' _ _ _ _ _ _=> ?_))
 exact vw (by rfl) tx.z_range (zb 3 (pv 3)) (zQ (zb 4 (pv 4)) zd)
 exact jG
 exact cZ (hy'.trans hy) O_worth_at hr tx.C_worth_at (za (zb 1 (pv 1)) (za (zb 0 (pv 0)) zj))
end
end G
namespace G
open PySem PySem.Spec PyProof.Rows L2 PV
section
variable {P:Program} {w:World} {K:PySem.W.Frag} {mg:Str->Option Value} {base:Heap} {cl:Nat->Value} {tx:Tx K mg}
theorem uQ {c_count_of c_worth_at:List T->R T} (O_count_of:ZR P w base cl tx 20 c_count_of) (O_worth_at:j4 P w base cl tx 40 c_worth_at):ju P w base cl tx 41 (fun ts=>zp (Zu c_count_of c_worth_at (en0 2 ts))):=by
 refine j7 tx.C_worth_if_any.F uH rfl (fun cdv A outer s H E Y hy hr=> ?_) (fun ts h=>rfl)
 refine zi ?_ ?_
 refine Za ?_ ?_ ?_
 refine yx ?_
 refine ve Jk xh ZU qd ?_ ?_ ?_
 exact Snd.b zd
 exact zy 1 (pv 1)
 exact Snd.b (cZ hy O_count_of hr tx.C_count_of (za (zb 0 (pv 0)) zj))
 exact zn (zz ka)
 exact Z9
 refine zn ?_
 exact zz (cZ hy O_worth_at hr tx.C_worth_at (za (zb 0 (pv 0)) (za (zb 1 (pv 1)) zj)))
end
end G
namespace G
open PySem PySem.Spec PyProof.Rows L2 PV
section
variable {P:Program} {w:World} {K:PySem.W.Frag} {mg:Str->Option Value} {base:Heap} {cl:Nat->Value} {tx:Tx K mg}
theorem U8 {c_need_worth c_place_of c_worth_if_any:List T->R T} (O_need_worth:j5 P w base cl tx 27 c_need_worth) (O_place_of:j6 P w base cl tx 40 c_place_of) (O_worth_if_any:ju P w base cl tx 41 c_worth_if_any):JS P w base cl tx 42 (fun ts=>zp (jM c_need_worth c_place_of c_worth_if_any (en0 2 ts))):=by
 refine wx tx.C_worth_ahead.F U5 rfl (fun cdv A outer s H E Y hy hE hr=> ?_) (fun ts h=>rfl)
 refine zi ?_ ?_
 exact Ws (cX hy (hE ▸ JG) O_need_worth hr tx.C_need_worth (za (zb 0 (pv 0)) (za (zb 1 (pv 1)) zj)))
 refine zn ?_
 refine zz ?_
 refine cZ hy O_worth_if_any hr tx.C_worth_if_any ?_
 refine za ?_ ?_
 exact zb 0 (pv 0)
 refine za ?_ ?_
 refine Wa ?_ ?_
 exact cZ hy O_place_of hr tx.C_place_of (za (zb 0 (pv 0)) (za (zb 1 (pv 1)) zj))
 exact zd
 exact zj
end
end G
namespace G
open PySem PySem.Spec PyProof.Rows L2 PV
section
variable {P:Program} {w:World} {K:PySem.W.Frag} {mg:Str->Option Value} {base:Heap} {cl:Nat->Value} {tx:Tx K mg}
theorem yb {c_need_worth c_place_of c_worth_if_any:List T->R T} (O_need_worth:j5 P w base cl tx 27 c_need_worth) (O_place_of:j6 P w base cl tx 40 c_place_of) (O_worth_if_any:ju P w base cl tx 41 c_worth_if_any):wg P w base cl tx 42 (fun ts=>zp (Jd c_need_worth c_place_of c_worth_if_any (en0 2 ts))):=by
 refine wx tx.C_next_worth.F y3 rfl (fun cdv A outer s H E Y hy hE hr=> ?_) (fun ts h=>rfl)
 refine zi ?_ ?_
 exact Ws (cX hy (hE ▸ JG) O_need_worth hr tx.C_need_worth (za (zb 0 (pv 0)) (za (zb 1 (pv 1)) zj)))
 refine zn ?_
 refine zz ?_
 refine cZ hy O_worth_if_any hr tx.C_worth_if_any ?_
 refine za ?_ ?_
 exact zb 0 (pv 0)
 refine za ?_ ?_
 refine zQ ?_ ?_
 exact cZ hy O_place_of hr tx.C_place_of (za (zb 0 (pv 0)) (za (zb 1 (pv 1)) zj))
 exact zd
 exact zj
end
end G
namespace G
open PySem PySem.Spec PyProof.Rows L2 PV
section
variable {P:Program} {w:World} {K:PySem.W.Frag} {mg:Str->Option Value} {base:Heap} {cl:Nat->Value} {tx:Tx K mg}
theorem Yg {c_need_worth c_place_of:List T->R T} (O_need_worth:j5 P w base cl tx 27 c_need_worth) (O_place_of:j6 P w base cl tx 40 c_place_of):wN P w base cl tx 41 (fun ts=>zp (JO c_need_worth c_place_of (en0 2 ts))):=by
 refine wx tx.C_number_of.F Y8 rfl (fun cdv A outer s H E Y hy hE hr=> ?_) (fun ts h=>rfl)
 refine zi ?_ ?_
 exact Ws (cX hy (hE ▸ JG) O_need_worth hr tx.C_need_worth (za (zb 0 (pv 0)) (za (zb 1 (pv 1)) zj)))
 refine zn ?_
 exact zz (cZ hy O_place_of hr tx.C_place_of (za (zb 0 (pv 0)) (za (zb 1 (pv 1)) zj)))
end
end G
namespace G
open PySem PySem.Spec PyProof.Rows L2 PV
section
variable {P:Program} {w:World} {K:PySem.W.Frag} {mg:Str->Option Value} {base:Heap} {cl:Nat->Value} {tx:Tx K mg}
theorem Gk {c_number_of c_all_worths c__law_pick c__law_all c__law_small c_next_worth c_worth_ahead c_between c_middle:List T->R T} (O_number_of:wN P w base cl tx 41 c_number_of) (O_all_worths:wf P w base cl tx 41 c_all_worths) (O__law_pick:jo P w base cl tx 2 c__law_pick) (O__law_all:jR P w base cl tx 9 c__law_all) (O__law_small:we P w base cl tx 18 c__law_small) (O_next_worth:wg P w base cl tx 42 c_next_worth) (O_worth_ahead:JS P w base cl tx 42 c_worth_ahead) (O_between:uN P w base cl tx 41 c_between) (O_middle:y6 P w base cl tx 41 c_middle):Kj P w base cl tx 43 (fun ts=>zp (xL c_number_of c_all_worths c__law_pick c__law_all c__law_small c_next_worth c_worth_ahead c_between c_middle (en0 7 ts))):=by
 refine wx tx.C_law.F uJ rfl (fun cdv A outer s H E Y hy hE hr=> ?_) (fun ts h=>rfl)
 refine zi ?_ ?_
 refine ZT (i:=1) uJ.nd (by rfl) (.inl (by rfl)) ?_
 refine cZ hy O__law_small hr tx.C__law_small ?_
 exact za (zb 0 (pv 0)) (za zd (za zd zj))
 refine zi ?_ ?_
 exact ZT (i:=2) uJ.nd (by rfl) (.inl (by rfl)) (cZ hy O__law_all hr tx.C__law_all (za (zb 1 (pv 1)) zj))
 refine zi ?_ ?_
 refine Za ?_ ?_ ?_
 exact zY v7 (yw hr.units) (Snd.b (cX hy (hE ▸ JG) O_all_worths hr tx.C_all_worths (za (zb 1 (pv 1)) zj))) (zy 2 (pv 2)) (zv _)
 exact zn (zz xa)
 exact Z9
 refine zi ?_ ?_
 refine ue PassesOwn.leaving (by rfl) ?_ ?_ ?_
 exact kP (by rfl) tx.z_zip (zb 2 (pv 2)) (vn (zb 2 (pv 2)) (vk zd) gj)
 exact Xm (i:=3) (j:=4) (by rfl) uJ.nd (by rfl) (by rfl) (.inl (by rfl)) (.inl (by rfl))
 refine zn ?_
 refine Za ?_ ?_ ?_
 refine qf.t ?_
 refine Xc ?_ ?_
 refine zY v7 (yw hr.units) ?_ ?_ (zv _)
 exact Snd.b (cX hy (hE ▸ JG) O_next_worth hr tx.C_next_worth (za (zb 1 (pv 1)) (za (zb 3 (pv 3)) zj)))
 exact zy 4 (pv 4)
 refine Yr ?_
 refine zY v7 (yw hr.units) ?_ ?_ (zv _)
 exact Snd.b (cX hy (hE ▸ JG) O_worth_ahead hr tx.C_worth_ahead (za (zb 1 (pv 1)) (za (zb 4 (pv 4)) zj)))
 exact zy 3 (pv 3)
 exact zn (zz xa)
 exact Z9
 refine zi ?_ ?_
 refine Za ?_ ?_ ?_
 refine qf.t ?_
 refine Xc ?_ ?_
 refine zY Xb vd ?_ ?_ (zv _)
 refine Snd.b ?_
 refine cX hy (hE ▸ JG) O_worth_ahead hr tx.C_worth_ahead ?_
 exact za (zb 1 (pv 1)) (za (Ze (zb 2 (pv 2)) zd) zj)
 exact Snd.b ka
 refine Yr ?_
 refine zY Xb vd ?_ ?_ (zv _)
 refine Snd.b ?_
 refine cX hy (hE ▸ JG) O_next_worth hr tx.C_next_worth ?_
 refine za ?_ ?_
 exact zb 1 (pv 1)
 exact za (Ze (zb 2 (pv 2)) (v6 zd)) zj
 exact Snd.b ka
 exact zn (zz xa)
 exact Z9
 refine zi ?_ ?_
 refine ue PassesOwn.leaving (by rfl) ?_ ?_ ?_
 exact Uc (by rfl) tx.z_range zd
 exact wT (i:=5) uJ.nd (by rfl) (.inl (by rfl))
 refine zi ?_ ?_
 refine z06 (i:=3) (j:=4) (by rfl) uJ.nd (by rfl) (by rfl) (by decide) (by rfl) (by rfl) ?_ (by rfl)
 refine za ?_ ?_
 refine cZ hy O__law_pick hr tx.C__law_pick ?_
 refine za ?_ ?_
 exact zb 0 (pv 0)
 exact za (zb 5 (pv 5)) (za (JI (by rfl) tx.z_len (zy 2 (pv 2))) zj)
 refine za ?_ ?_
 refine cZ hy O__law_pick hr tx.C__law_pick ?_
 refine za ?_ ?_
 exact zb 0 (pv 0)
 refine za ?_ ?_
 exact zQ zd (zb 5 (pv 5))
 exact za (JI (by rfl) tx.z_len (zy 2 (pv 2))) zj
 exact zj
 refine zn ?_
 refine Za ?_ ?_ ?_
 refine zY v7 (yw hr.units) ?_ ?_ (zv _)
 refine Snd.b ?_
 refine cX hy (hE ▸ JG) O_between hr tx.C_between ?_
 refine za ?_ ?_
 exact zb 1 (pv 1)
 refine za ?_ ?_
 exact Ze (zb 2 (pv 2)) (zb 3 (pv 3))
 exact za (Ze (zb 2 (pv 2)) (zb 4 (pv 4))) zj
 refine Snd.b ?_
 refine vn ?_ ?_ ?_
 exact zb 2 (pv 2)
 exact vk (zb 3 (pv 3))
 exact vk (zQ (zb 4 (pv 4)) zd)
 exact zn (zz xa)
 exact Z9
 refine zi ?_ ?_
 refine ZT (i:=6) uJ.nd (by rfl) (.inl (by rfl)) ?_
 exact vM hr.units (zy 2 (pv 2)) (Snd.b (cX hy (hE ▸ JG) O_middle hr tx.C_middle (za (zb 1 (pv 1)) zj)))
 refine zi ?_ ?_
 refine Za ?_ ?_ ?_
 refine qf.t ?_
 refine Xc ?_ ?_
 refine zY v7 (yw hr.units) ?_ ?_ (zv _)
 refine Snd.b ?_
 refine cX hy (hE ▸ JG) O_number_of hr tx.C_number_of ?_
 refine za ?_ ?_
 exact zb 1 (pv 1)
 exact za (cX hy (hE ▸ JG) O_middle hr tx.C_middle (za (zb 1 (pv 1)) zj)) zj
 exact zy 6 (pv 6)
 refine Yr ?_
 refine zY X9 (vc hr.units) ?_ ?_ (by rfl)
 refine Snd.b ?_
 refine Wa ?_ ?_
 exact Wa (JI (by rfl) tx.z_len (zy 2 (pv 2))) zd
 exact jK zd (zb 6 (pv 6))
 exact Snd.b (uT (za zd (za zd zj)))
 exact zn (zz xa)
 exact Z9
 refine zn ?_
 refine zz ?_
 refine UB ZK (zM hr.units) ?_ ?_ (zv _)
 refine Snd.b ?_
 refine cX hy (hE ▸ JG) O_between hr tx.C_between ?_
 refine za ?_ ?_
 exact zb 1 (pv 1)
 refine za ?_ ?_
 exact Ze (zb 2 (pv 2)) zd
 exact za (Ze (zb 2 (pv 2)) (v6 zd)) zj
 exact zy 2 (pv 2)
end
end G
namespace G
open PySem PySem.Spec PyProof.Rows L2 PV
theorem J6 {P:Program} {w:World} {K:PySem.W.Frag} {mg:Str->Option Value} {base:Heap} {CX:CXT} {cl:Nat->Value} {k n:Nat} {f:Addr} {fd:FuncData} {ps:List Str} (hn:n=ps.length):jj P w K mg base CX k f fd ps (spP cl n (fun _=> .bad)):=
 ⟨fun vs H Q E h=>by rw [← hn]; exact spP.len vs H Q E h,fun A outer s H args us vs Q E _ _ _ _ ⟨B,ts,_,_,_,q⟩=>q.elim⟩
section
variable {P:Program} {w:World} {K:PySem.W.Frag} {mg:Str->Option Value} {base:Heap} {cl:Nat->Value} {tx:Tx K mg}
theorem Gm (xq:Tq K mg base cl):Kj P w base cl tx 43 U0:=by
 have O__law_cell:wL P w base cl tx 1 jS:=Y9
 have O__law_pick:jo P w base cl tx 2 zm:=Ya O__law_cell
 have O__law_word_of:Jo P w base cl tx 3 Zt:=uO O__law_pick
 have O__law_leaf_kind:jF P w base cl tx 4 Zr:=Wn O__law_pick O__law_word_of
 have R__law_kind:∀ n:Nat,jY P w base cl tx (4+n) (Zn n 0):=by
  intro n
  induction n with
  | zero=>exact J6 rfl
  | succ n ih=>
   exact Yb (j:=4+n) (by omega) O__law_pick O__law_leaf_kind ih
 have O__law_kind:jY P w base cl tx 12 (Zo 8):=(R__law_kind 8)
 have O__law_rows_of:Jp P w base cl tx 1 zf:=uP
 have R__law_all:∀ n:Nat,jR P w base cl tx (1+n) (jP n 0):=by
  intro n
  induction n with
  | zero=>exact J6 rfl
  | succ n ih=>
   exact YO (j:=1+n) (by omega) ih O__law_rows_of
 have O__law_all:jR P w base cl tx 9 (zB 8):=(R__law_all 8)
 have R__law_size:∀ n:Nat,jZ P w base cl tx (9+n) (j0 n 0):=by
  intro n
  induction n with
  | zero=>exact J6 rfl
  | succ n ih=>
   exact Yc (j:=9+n) (by omega) O__law_all ih
 have O__law_size:jZ P w base cl tx 17 (j1 8):=(R__law_size 8)
 have O__law_small:we P w base cl tx 18 ZE:=y7 O__law_kind O__law_size
 have O_is_whole:JD P w base cl tx 1 Z1:=YQ
 have O_is_span:uK P w base cl tx 2 wV:=Qr O_is_whole
 have O_is_tuple_of:ZQ P w base cl tx 1 zq:=U6
 have O_is_word:uL P w base cl tx 1 Ju:=Qs
 have O_is_choice:wM P w base cl tx 2 j2:=Yd O_is_whole O_is_tuple_of O_is_word
 have O_are_choices:JR P w base cl tx 3 jd:=U7 O_is_tuple_of O_is_choice
 have R_is_kind_within:∀ n:Nat,Z5 P w base cl tx (3+n) (zk n 0)/\Zz P w base cl tx (3+n) (zk n 1):=by
  intro n
  induction n with
  | zero=>exact ⟨J6 rfl,J6 rfl⟩
  | succ n ih=>
   exact ⟨Wo (j:=3+n) (by omega) O_is_span ih.1 O_are_choices ih.2,wO (j:=3+n) (by omega) O_is_tuple_of ih.1⟩
 have O_is_kind_within:Z5 P w base cl tx 23 (jC 20):=(R_is_kind_within 20).1
 have O_are_kinds_within:Zz P w base cl tx 23 (wX 20):=(R_is_kind_within 20).2
 have O_is_kind:uM P w base cl tx 24 Jv:=Qt O_is_kind_within
 have O_need_kind:J0 P w base cl tx 25 zU:=Ye xq O_is_kind
 have R_count_of:∀ n:Nat,ZR P w base cl tx (0+n) (zu n 0)/\Zs P w base cl tx (0+n) (zu n 1)/\Zi P w base cl tx (0+n) (zu n 2):=by
  intro n
  induction n with
  | zero=>exact ⟨J6 rfl,J6 rfl,J6 rfl⟩
  | succ n ih=>
   exact ⟨YR (j:=0+n) (by omega) ih.2.1 ih.2.2,Wp (j:=0+n) (by omega) ih.1,WW (j:=0+n) (by omega) ih.2.1⟩
 have O_count_of:ZR P w base cl tx 20 (zw 20):=(R_count_of 20).1
 have O_count_of_parts:Zs P w base cl tx 20 (WO 20):=(R_count_of 20).2.1
 have O_count_shorter:Zi P w base cl tx 20 (zC 20):=(R_count_of 20).2.2
 have O_words_of_pick:ZJ P w base cl tx 1 zr:=WX
 have R_worth_at:∀ n:Nat,j4 P w base cl tx (20+n) (zx n 0)/\W6 P w base cl tx (20+n) (zx n 1)/\JE P w base cl tx (20+n) (zx n 2):=by
  intro n
  induction n with
  | zero=>exact ⟨J6 rfl,J6 rfl,J6 rfl⟩
  | succ n ih=>
   exact ⟨YS (j:=20+n) (by omega) O_words_of_pick ih.2.1 ih.2.2,Qu (j:=20+n) (by omega) O_count_shorter ih.2.2,YT (j:=20+n) (by omega) O_count_of ih.1⟩
 have O_worth_at:j4 P w base cl tx 40 (zN 20):=(R_worth_at 20).1
 have O_many_at:W6 P w base cl tx 40 (vT 20):=(R_worth_at 20).2.1
 have O_parts_at:JE P w base cl tx 40 (Q5 20):=(R_worth_at 20).2.2
 have O_all_worths:wf P w base cl tx 41 jx:=y8 xq O_need_kind O_count_of O_worth_at
 have O_middle:y6 P w base cl tx 41 JM:=VI O_need_kind O_count_of O_worth_at
 have R_has_worth:∀ n:Nat,J4 P w base cl tx (1+n) (zH n 0)/\Ji P w base cl tx (1+n) (zH n 1):=by
  intro n
  induction n with
  | zero=>exact ⟨J6 rfl,J6 rfl⟩
  | succ n ih=>
   exact ⟨Yf (j:=1+n) (by omega) O_is_whole O_is_tuple_of O_words_of_pick ih.2,y9 (j:=1+n) (by omega) ih.1⟩
 have O_has_worth:J4 P w base cl tx 21 (JN 20):=(R_has_worth 20).1
 have O_have_parts:Ji P w base cl tx 21 (yF 20):=(R_has_worth 20).2
 have O_is_worth:Wm P w base cl tx 26 jQ:=YU O_need_kind O_has_worth
 have O_need_worth:j5 P w base cl tx 27 zK:=ya xq O_is_worth
 have R_place_of:∀ n:Nat,j6 P w base cl tx (20+n) (Z3 n 0)/\ZZ P w base cl tx (20+n) (Z3 n 1):=by
  intro n
  induction n with
  | zero=>exact ⟨J6 rfl,J6 rfl⟩
  | succ n ih=>
   exact ⟨YV (j:=20+n) (by omega) O_words_of_pick O_count_shorter ih.2,Wq (j:=20+n) (by omega) O_count_of ih.1⟩
 have O_place_of:j6 P w base cl tx 40 (Z4 20):=(R_place_of 20).1
 have O_place_of_parts:ZZ P w base cl tx 40 (WP 20):=(R_place_of 20).2
 have O_between:uN P w base cl tx 41 Jx:=Qv xq O_need_worth O_worth_at O_place_of
 have O_worth_if_any:ju P w base cl tx 41 zD:=uQ O_count_of O_worth_at
 have O_worth_ahead:JS P w base cl tx 42 Z7:=U8 O_need_worth O_place_of O_worth_if_any
 have O_next_worth:wg P w base cl tx 42 Zj:=yb O_need_worth O_place_of O_worth_if_any
 have O_number_of:wN P w base cl tx 41 jT:=Yg O_need_worth O_place_of
 have O_law:Kj P w base cl tx 43 U0:=Gk O_number_of O_all_worths O__law_pick O__law_all O__law_small O_next_worth O_worth_ahead O_between O_middle
 exact O_law
end
noncomputable def XG:List Str:=["NoKind","NoWorth","NoRule","TooMany","Ended","NoText","NoBack"]
noncomputable def clK (K:PySem.W.Frag) (c:Nat):Value:=match PySem.W.nsIn K mainGlobals (XG.getD c "") with
 | some (some v)=>v
 | _=> .none
theorem VJ {K:PySem.W.Frag} {c:Nat} {x:Str} {q:Addr} (hx:XG.getD c ""=x) (h:PySem.W.nsIn K mainGlobals x=some (some (.ref q))):clK K c= .ref q:=by unfold clK; rw [hx,h]
theorem VL {K:PySem.W.Frag} {base:Heap} {mg:Str->Option Value} {x:Str} {C:Addr} {bmB:List Value} {newId:String} (KB:K.In base) (hb:mg x=some (.ref C)) (h:PySem.W.excIn K C bmB newId=true):OwnCls x C bmB newId mg base:=by
 unfold PySem.W.excIn at h
 split at h
 ·rename_i dd cd sl hC
  split at h
  ·rename_i C1 bm a0 a1 a2 a3 m a5 hm hs
   simp only [Bool.and_eq_true,beq_iff_eq,Bool.not_eq_true'] at h
   obtain ⟨⟨⟨⟨⟨h1,h2⟩,h3⟩,h4⟩,h5⟩,h6⟩:=h
   subst h1 h2
   cases cd with
   | mk nm bs mro ns qn hd sn sub ab col del=>
    dsimp only at hm h3 h5 h6
    subst hm h3
    obtain rfl:sl= #[a0,a1,a2,a3,some (.builtin m),a5]:=by
     cases sl; simp only at hs; rw [hs]
    exact ⟨hb,bm,ns,nm,qn,bs,hd,sn,sub,ab,col,dd,a0,a1,a2,a3,a5,_,KB _ _ hC, .of_isNs (PySem.W.isNs_of_in KB h5),PySem.W.nsMap_none_of_in KB h5 h6,PySem.W.tail_of_in KB h4⟩
  ·cases h
 ·cases h
theorem fn1 {K:PySem.W.Frag} {h:Heap} {mg:Str->Option Value} {f:Addr} {od an:Option Addr} {sl:Array (Option Value)} {oc kV dc pm cd ct:Value} {x:Str} {st:Stmt} {ps:List Str} (X:K.In h) (G:h.Ns mainGlobals mg) (e:PySem.W.nsIn K mainGlobals x=some (some (.ref f))) (l:K.lookup f=some ⟨oc,od, .func (PySem.W.fnOf x x (JY st) (jB st) (ze st) .none kV dc pm an cd ct),sl⟩) (g:PySem.W.codeIn K cd x=true) (k:PySem.W.keepIn K (.ref f)=true)
  (hb:∀ F:Fun K x x st f (PySem.W.fnOf x x (JY st) (jB st) (ze st) .none kV dc pm an cd ct),L2.Binds K (PySem.W.fnOf x x (JY st) (jB st) (ze st) .none kV dc pm an cd ct) ps []):Fn K mg x st ps f (PySem.W.fnOf x x (JY st) (jB st) (ze st) .none kV dc pm an cd ct):=
 have F:=gf (st:=st) l g k
 ⟨F,hb F,PySem.W.mg_of X G e⟩
theorem fin_ {l:PySem.W.OpenLaw} {w:World} {K:PySem.W.Frag} {h:Heap} {mg:Str->Option Value} {fa:Addr} (X:K.In h) (G:h.Ns mainGlobals mg) (hfa:mg "law"=some (.ref fa)) (tx:Tx K mg) (hB:∀ (s:Shared) (v:Value),BindsTo s tx.d_law ⟨[v],[]⟩ [("_law_script",v)]) {q_NoKind q_NoWorth q_TooMany:Addr} (n_NoKind:PySem.W.nsIn K mainGlobals "NoKind"=some (some (.ref q_NoKind))) (n_NoWorth:PySem.W.nsIn K mainGlobals "NoWorth"=some (some (.ref q_NoWorth))) (n_TooMany:PySem.W.nsIn K mainGlobals "TooMany"=some (some (.ref q_TooMany))) (b_o_NoKind:PySem.W.excIn K q_NoKind Kr "ValueError.__new__"=true) (b_o_NoWorth:PySem.W.excIn K q_NoWorth Kr "ValueError.__new__"=true) (b_o_TooMany:PySem.W.excIn K q_TooMany Kr "ValueError.__new__"=true):∃ fd:FuncData,(∀ (s:Shared) (v:Value),BindsTo s fd ⟨[v],[]⟩ [("_law_script",v)])/\∀ base:Heap,K.In base->base.Ns mainGlobals mg->jj l.prog w K mg base (CX1 l.prog w) 43 fa fd ["_law_script"] (spP (clK K) 1 U0):=by
 have e:=hfa.symm.trans tx.C_law.m
 cases e
 exact ⟨tx.d_law,hB,fun base KB _=>Gm ⟨q_NoKind,q_NoWorth,q_TooMany,(VJ (x:="NoKind") rfl n_NoKind),(VJ (x:="NoWorth") rfl n_NoWorth),(VJ (x:="TooMany") rfl n_TooMany),(VL KB (PySem.W.mg_of X G n_NoKind) b_o_NoKind),(VL KB (PySem.W.mg_of X G n_NoWorth) b_o_NoWorth),(VL KB (PySem.W.mg_of X G n_TooMany) b_o_TooMany)⟩⟩
noncomputable def YW (K:PySem.W.Frag):Bool:=K.all fun p=> !(p.2.cls == Value.type "list")
theorem Kk {K:PySem.W.Frag} (h:YW K=true) {a:Addr} {o:Obj} (e:K.lookup a=some o) (c:o.cls=Value.type "list"):False:=by
 have hm:(a,o)∈K:=by
  clear h
  induction K with
  | nil=>cases e
  | cons p r ih=>
   obtain ⟨b,u⟩:=p
   by_cases hb:a=b
   ·subst hb
    have e' :some u=some o:=by simpa [List.lookup_cons] using e
    cases e'; exact List.mem_cons_self
   ·have e' :r.lookup a=some o:=by rw [List.lookup_cons,(beq_eq_false_iff_ne.mpr hb)] at e; exact e
    exact List.mem_cons_of_mem _ (ih e')
 have:=List.all_eq_true.mp h _ hm
 rw [c] at this
 simp at this
theorem Gn {cl:Nat->Value} {K:PySem.W.Frag} {H:Hp} {a:Addr} {ns:List Int} (hL:U0 [.fz (ns.map T.int)]= .ok (.bl true)) (hK:YW K=true) (hO:Gp H) (hS:SqL K H a (ns.map V.int)):spP cl 1 U0 [.ref a] H (fun v _=>v= .bl true) fun _ _ _=>False:=by
 have scrR:∀ ns:List Int,zR H (ns.map V.int) (ns.map T.int):=fun ns=>by
  induction ns with
  | nil=>exact .nil
  | cons n r ih=>exact .cons (.int n) ih
 rcases hS with (h | ⟨o,h⟩) | ⟨o,its,n,e,c,_⟩
 ·rcases hO a with z | ⟨ob,xs,z⟩ <;> (rw [h] at z; cases z)
 ·refine ⟨H,[.fz (ns.map T.int)],rfl,zJ.refl H, .cons (.fz h (scrR ns)) .nil, ?_⟩
  rw [hL]
  intro v H' _ r
  cases r; rfl
 ·exact (Kk hK e c).elim
theorem walk {l:PySem.W.OpenLaw} {q:Program} {loose:List Str} {XP:(Str->Option Value)->Heap->Prop} {YP:World->Heap->Prop} {d:DefRec} {K:Params->PySem.W.Frag} (hn:l.most=some 63) (hdf:d.params.defaults=[])
  (hL:∀ ns:List Int,ns.length<=63->U0 [.fz (ns.map T.int)]= .ok (.bl true)) (hK:∀ p,YW (K p)=true)
  (hY:∀ (w:World) (h:Heap),YP w h->(K w.params).In h)
  (F:∀ (w:World) (mg:Str->Option Value) (fa:Addr) (h:Heap),(K w.params).In h->h.Ns mainGlobals mg->mg d.name=some (.ref fa)->
   ∃ fd:FuncData,(∀ (s:Shared) (u:Value),BindsTo s fd ⟨[u],[]⟩ [("_law_script",u)])/\∀ base:Heap,(K w.params).In base->base.Ns mainGlobals mg->jj l.prog w (K w.params) mg base (CX1 l.prog w) 43 fa fd ["_law_script"] (spP (clK (K w.params)) 1 U0)):
  PySem.W.WalkO q loose XP YP l.row.toRowW d [] (fun f vs=>PySem.call f vs):=
 L2.walk_of (n:=63) (k:=43) (x:="_law_script") (CX:=fun w=>(CX1 l.prog w)) (sp:=fun w=>spP (clK (K w.params)) 1 U0) hn (by decide) hdf ⟨rfl,by decide,by decide⟩ hY F (fun w H a ns hl hO hS=>Gn (hL ns hl) (hK w.params) hO hS) fun _ _ _ _ _ ⟨_,_,_,_,_,_,_,z⟩=>z
end G
noncomputable def PySem.W.Fast.tw5623779759262529959 : Nat := 0
noncomputable def PySem.W.Fast.tw13034657829561271945 : Nat := 0
noncomputable def PySem.W.Fast.tw7468406461503512001 : Nat := 0
noncomputable def PySem.W.Fast.tw8600838148106374820 : Nat := 0
noncomputable def PySem.W.Fast.tw15109639062006832746 : Nat := 0
noncomputable def PySem.W.Fast.tw10061672018398559460 : Nat := 0
noncomputable def PySem.W.Fast.tw3524185090371958658 : Nat := 0
noncomputable def PySem.W.Fast.tw18197474208559385213 : Nat := 0
noncomputable def PySem.W.Fast.tw18008602061827115971 : Nat := 0
noncomputable def PySem.W.Fast.tw8465891217828511772 : Nat := 0
noncomputable def PySem.W.Fast.tw10258238902433174179 : Nat := 0
noncomputable def PySem.W.Fast.tw11974217539144331002 : Nat := 0
noncomputable def PySem.W.Fast.tw3913650843841132376 : Nat := 0
noncomputable def PySem.W.Fast.tw3481527723636214240 : Nat := 0
open PySem PySem.W PyProof.Rows
set_option maxRecDepth 100000 in
set_option maxHeartbeats 0 in
theorem PySem.Challenge.cw_worthkinds_k75_whole_steps_holds : PySem.Challenge.rw_worthkinds_k75_whole_steps.Holds := by
 w_on; o_law; k_head; (case hw=>w_witness2)
 k_fill
 refine G.walk (l:=PySem.Challenge.rw_worthkinds_k75_whole_steps) rfl rfl G.law_ok ?nl (fun w h Y=>PySem.W.kIn_of Y) ?F
 case nl=>intro p; kernel_rfl
 case F=>
  intro w mg fa h KX G0 hmg
  obtain ⟨a0,d0,C0⟩:∃ a d,G.Fn _ mg "_law_cell" G.ux ["_law_script","_law_k"] a d:=by
   refine' ⟨_,_,G.fn1 KX G0 ?e ?l ?g ?k (fun F=>F.binds (ps:=["_law_script","_law_k"]) fun _ _ _ _ _ _ us hl=>match us,hl with | [_,_],_=>rfl)⟩
   (case e=>k_is)
   (case l=>k_is)
   (case g=>k_is)
   (case k=>k_is)
  obtain ⟨a1,d1,C1⟩:∃ a d,G.Fn _ mg "_law_pick" G.uy ["_law_script","_law_k","_law_many"] a d:=by
   refine' ⟨_,_,G.fn1 KX G0 ?e ?l ?g ?k (fun F=>F.binds (ps:=["_law_script","_law_k","_law_many"]) fun _ _ _ _ _ _ us hl=>match us,hl with | [_,_,_],_=>rfl)⟩
   (case e=>k_is)
   (case l=>k_is)
   (case g=>k_is)
   (case k=>k_is)
  obtain ⟨a2,d2,C2⟩:∃ a d,G.Fn _ mg "_law_word_of" G.Jm ["_law_script","_law_at"] a d:=by
   refine' ⟨_,_,G.fn1 KX G0 ?e ?l ?g ?k (fun F=>F.binds (ps:=["_law_script","_law_at"]) fun _ _ _ _ _ _ us hl=>match us,hl with | [_,_],_=>rfl)⟩
   (case e=>k_is)
   (case l=>k_is)
   (case g=>k_is)
   (case k=>k_is)
  obtain ⟨a3,d3,C3⟩:∃ a d,G.Fn _ mg "_law_leaf_kind" G.jE ["_law_script","_law_at"] a d:=by
   refine' ⟨_,_,G.fn1 KX G0 ?e ?l ?g ?k (fun F=>F.binds (ps:=["_law_script","_law_at"]) fun _ _ _ _ _ _ us hl=>match us,hl with | [_,_],_=>rfl)⟩
   (case e=>k_is)
   (case l=>k_is)
   (case g=>k_is)
   (case k=>k_is)
  obtain ⟨a4,d4,C4⟩:∃ a d,G.Fn _ mg "_law_kind" G.wH ["_law_script","_law_at","_law_deep"] a d:=by
   refine' ⟨_,_,G.fn1 KX G0 ?e ?l ?g ?k (fun F=>F.binds (ps:=["_law_script","_law_at","_law_deep"]) fun _ _ _ _ _ _ us hl=>match us,hl with | [_,_,_],_=>rfl)⟩
   (case e=>k_is)
   (case l=>k_is)
   (case g=>k_is)
   (case k=>k_is)
  obtain ⟨a5,d5,C5⟩:∃ a d,G.Fn _ mg "_law_rows_of" G.Jn ["_law_lists"] a d:=by
   refine' ⟨_,_,G.fn1 KX G0 ?e ?l ?g ?k (fun F=>F.binds (ps:=["_law_lists"]) fun _ _ _ _ _ _ us hl=>match us,hl with | [_],_=>rfl)⟩
   (case e=>k_is)
   (case l=>k_is)
   (case g=>k_is)
   (case k=>k_is)
  obtain ⟨a6,d6,C6⟩:∃ a d,G.Fn _ mg "_law_all" G.wt ["_law_kind_here"] a d:=by
   refine' ⟨_,_,G.fn1 KX G0 ?e ?l ?g ?k (fun F=>F.binds (ps:=["_law_kind_here"]) fun _ _ _ _ _ _ us hl=>match us,hl with | [_],_=>rfl)⟩
   (case e=>k_is)
   (case l=>k_is)
   (case g=>k_is)
   (case k=>k_is)
  obtain ⟨a7,d7,C7⟩:∃ a d,G.Fn _ mg "_law_size" G.wJ ["_law_kind_here"] a d:=by
   refine' ⟨_,_,G.fn1 KX G0 ?e ?l ?g ?k (fun F=>F.binds (ps:=["_law_kind_here"]) fun _ _ _ _ _ _ us hl=>match us,hl with | [_],_=>rfl)⟩
   (case e=>k_is)
   (case l=>k_is)
   (case g=>k_is)
   (case k=>k_is)
  obtain ⟨a8,d8,C8⟩:∃ a d,G.Fn _ mg "_law_small" G.WC ["_law_script","_law_at","_law_most"] a d:=by
   refine' ⟨_,_,G.fn1 KX G0 ?e ?l ?g ?k (fun F=>F.binds (ps:=["_law_script","_law_at","_law_most"]) fun _ _ _ _ _ _ us hl=>match us,hl with | [_,_,_],_=>rfl)⟩
   (case e=>k_is)
   (case l=>k_is)
   (case g=>k_is)
   (case k=>k_is)
  obtain ⟨a9,d9,C9⟩:∃ a d,G.Fn _ mg "is_whole" G.Uq ["thing"] a d:=by
   refine' ⟨_,_,G.fn1 KX G0 ?e ?l ?g ?k (fun F=>F.binds (ps:=["thing"]) fun _ _ _ _ _ _ us hl=>match us,hl with | [_],_=>rfl)⟩
   (case e=>k_is)
   (case l=>k_is)
   (case g=>k_is)
   (case k=>k_is)
  obtain ⟨a10,d10,C10⟩:∃ a d,G.Fn _ mg "is_span" G.yY ["low","high","least","most"] a d:=by
   refine' ⟨_,_,G.fn1 KX G0 ?e ?l ?g ?k (fun F=>F.binds (ps:=["low","high","least","most"]) fun _ _ _ _ _ _ us hl=>match us,hl with | [_,_,_,_],_=>rfl)⟩
   (case e=>k_is)
   (case l=>k_is)
   (case g=>k_is)
   (case k=>k_is)
  obtain ⟨a11,d11,C11⟩:∃ a d,G.Fn _ mg "is_tuple_of" G.W3 ["thing","least","most"] a d:=by
   refine' ⟨_,_,G.fn1 KX G0 ?e ?l ?g ?k (fun F=>F.binds (ps:=["thing","least","most"]) fun _ _ _ _ _ _ us hl=>match us,hl with | [_,_,_],_=>rfl)⟩
   (case e=>k_is)
   (case l=>k_is)
   (case g=>k_is)
   (case k=>k_is)
  obtain ⟨a12,d12,C12⟩:∃ a d,G.Fn _ mg "is_word" G.uB ["thing"] a d:=by
   refine' ⟨_,_,G.fn1 KX G0 ?e ?l ?g ?k (fun F=>F.binds (ps:=["thing"]) fun _ _ _ _ _ _ us hl=>match us,hl with | [_],_=>rfl)⟩
   (case e=>k_is)
   (case l=>k_is)
   (case g=>k_is)
   (case k=>k_is)
  obtain ⟨a13,d13,C13⟩:∃ a d,G.Fn _ mg "is_choice" G.uC ["thing"] a d:=by
   refine' ⟨_,_,G.fn1 KX G0 ?e ?l ?g ?k (fun F=>F.binds (ps:=["thing"]) fun _ _ _ _ _ _ us hl=>match us,hl with | [_],_=>rfl)⟩
   (case e=>k_is)
   (case l=>k_is)
   (case g=>k_is)
   (case k=>k_is)
  obtain ⟨a14,d14,C14⟩:∃ a d,G.Fn _ mg "are_choices" G.jO ["thing"] a d:=by
   refine' ⟨_,_,G.fn1 KX G0 ?e ?l ?g ?k (fun F=>F.binds (ps:=["thing"]) fun _ _ _ _ _ _ us hl=>match us,hl with | [_],_=>rfl)⟩
   (case e=>k_is)
   (case l=>k_is)
   (case g=>k_is)
   (case k=>k_is)
  obtain ⟨a15,d15,C15⟩:∃ a d,G.Fn _ mg "is_kind_within" G.JU ["thing","levels"] a d:=by
   refine' ⟨_,_,G.fn1 KX G0 ?e ?l ?g ?k (fun F=>F.binds (ps:=["thing","levels"]) fun _ _ _ _ _ _ us hl=>match us,hl with | [_,_],_=>rfl)⟩
   (case e=>k_is)
   (case l=>k_is)
   (case g=>k_is)
   (case k=>k_is)
  obtain ⟨a16,d16,C16⟩:∃ a d,G.Fn _ mg "are_kinds_within" G.ji ["thing","levels"] a d:=by
   refine' ⟨_,_,G.fn1 KX G0 ?e ?l ?g ?k (fun F=>F.binds (ps:=["thing","levels"]) fun _ _ _ _ _ _ us hl=>match us,hl with | [_,_],_=>rfl)⟩
   (case e=>k_is)
   (case l=>k_is)
   (case g=>k_is)
   (case k=>k_is)
  obtain ⟨a17,d17,C17⟩:∃ a d,G.Fn _ mg "is_kind" G.Y1 ["thing"] a d:=by
   refine' ⟨_,_,G.fn1 KX G0 ?e ?l ?g ?k (fun F=>F.binds (ps:=["thing"]) fun _ _ _ _ _ _ us hl=>match us,hl with | [_],_=>rfl)⟩
   (case e=>k_is)
   (case l=>k_is)
   (case g=>k_is)
   (case k=>k_is)
  obtain ⟨a18,d18,C18⟩:∃ a d,G.Fn _ mg "need_kind" G.uD ["kind"] a d:=by
   refine' ⟨_,_,G.fn1 KX G0 ?e ?l ?g ?k (fun F=>F.binds (ps:=["kind"]) fun _ _ _ _ _ _ us hl=>match us,hl with | [_],_=>rfl)⟩
   (case e=>k_is)
   (case l=>k_is)
   (case g=>k_is)
   (case k=>k_is)
  obtain ⟨a19,d19,C19⟩:∃ a d,G.Fn _ mg "count_of" G.Ur ["kind"] a d:=by
   refine' ⟨_,_,G.fn1 KX G0 ?e ?l ?g ?k (fun F=>F.binds (ps:=["kind"]) fun _ _ _ _ _ _ us hl=>match us,hl with | [_],_=>rfl)⟩
   (case e=>k_is)
   (case l=>k_is)
   (case g=>k_is)
   (case k=>k_is)
  obtain ⟨a20,d20,C20⟩:∃ a d,G.Fn _ mg "count_of_parts" G.JV ["kinds"] a d:=by
   refine' ⟨_,_,G.fn1 KX G0 ?e ?l ?g ?k (fun F=>F.binds (ps:=["kinds"]) fun _ _ _ _ _ _ us hl=>match us,hl with | [_],_=>rfl)⟩
   (case e=>k_is)
   (case l=>k_is)
   (case g=>k_is)
   (case k=>k_is)
  obtain ⟨a21,d21,C21⟩:∃ a d,G.Fn _ mg "count_shorter" G.jW ["kind","length"] a d:=by
   refine' ⟨_,_,G.fn1 KX G0 ?e ?l ?g ?k (fun F=>F.binds (ps:=["kind","length"]) fun _ _ _ _ _ _ us hl=>match us,hl with | [_,_],_=>rfl)⟩
   (case e=>k_is)
   (case l=>k_is)
   (case g=>k_is)
   (case k=>k_is)
  obtain ⟨a22,d22,C22⟩:∃ a d,G.Fn _ mg "words_of_pick" G.jX ["kind"] a d:=by
   refine' ⟨_,_,G.fn1 KX G0 ?e ?l ?g ?k (fun F=>F.binds (ps:=["kind"]) fun _ _ _ _ _ _ us hl=>match us,hl with | [_],_=>rfl)⟩
   (case e=>k_is)
   (case l=>k_is)
   (case g=>k_is)
   (case k=>k_is)
  obtain ⟨a23,d23,C23⟩:∃ a d,G.Fn _ mg "worth_at" G.Us ["kind","number"] a d:=by
   refine' ⟨_,_,G.fn1 KX G0 ?e ?l ?g ?k (fun F=>F.binds (ps:=["kind","number"]) fun _ _ _ _ _ _ us hl=>match us,hl with | [_,_],_=>rfl)⟩
   (case e=>k_is)
   (case l=>k_is)
   (case g=>k_is)
   (case k=>k_is)
  obtain ⟨a24,d24,C24⟩:∃ a d,G.Fn _ mg "many_at" G.Y3 ["kind","number"] a d:=by
   refine' ⟨_,_,G.fn1 KX G0 ?e ?l ?g ?k (fun F=>F.binds (ps:=["kind","number"]) fun _ _ _ _ _ _ us hl=>match us,hl with | [_,_],_=>rfl)⟩
   (case e=>k_is)
   (case l=>k_is)
   (case g=>k_is)
   (case k=>k_is)
  obtain ⟨a25,d25,C25⟩:∃ a d,G.Fn _ mg "parts_at" G.Ut ["kinds","number"] a d:=by
   refine' ⟨_,_,G.fn1 KX G0 ?e ?l ?g ?k (fun F=>F.binds (ps:=["kinds","number"]) fun _ _ _ _ _ _ us hl=>match us,hl with | [_,_],_=>rfl)⟩
   (case e=>k_is)
   (case l=>k_is)
   (case g=>k_is)
   (case k=>k_is)
  obtain ⟨a26,d26,C26⟩:∃ a d,G.Fn _ mg "all_worths" G.wc ["kind"] a d:=by
   refine' ⟨_,_,G.fn1 KX G0 ?e ?l ?g ?k (fun F=>F.binds (ps:=["kind"]) fun _ _ _ _ _ _ us hl=>match us,hl with | [_],_=>rfl)⟩
   (case e=>k_is)
   (case l=>k_is)
   (case g=>k_is)
   (case k=>k_is)
  obtain ⟨a27,d27,C27⟩:∃ a d,G.Fn _ mg "middle" G.qO ["kind"] a d:=by
   refine' ⟨_,_,G.fn1 KX G0 ?e ?l ?g ?k (fun F=>F.binds (ps:=["kind"]) fun _ _ _ _ _ _ us hl=>match us,hl with | [_],_=>rfl)⟩
   (case e=>k_is)
   (case l=>k_is)
   (case g=>k_is)
   (case k=>k_is)
  obtain ⟨a28,d28,C28⟩:∃ a d,G.Fn _ mg "has_worth" G.uE ["kind","thing"] a d:=by
   refine' ⟨_,_,G.fn1 KX G0 ?e ?l ?g ?k (fun F=>F.binds (ps:=["kind","thing"]) fun _ _ _ _ _ _ us hl=>match us,hl with | [_,_],_=>rfl)⟩
   (case e=>k_is)
   (case l=>k_is)
   (case g=>k_is)
   (case k=>k_is)
  obtain ⟨a29,d29,C29⟩:∃ a d,G.Fn _ mg "have_parts" G.wd ["kinds","parts"] a d:=by
   refine' ⟨_,_,G.fn1 KX G0 ?e ?l ?g ?k (fun F=>F.binds (ps:=["kinds","parts"]) fun _ _ _ _ _ _ us hl=>match us,hl with | [_,_],_=>rfl)⟩
   (case e=>k_is)
   (case l=>k_is)
   (case g=>k_is)
   (case k=>k_is)
  obtain ⟨a30,d30,C30⟩:∃ a d,G.Fn _ mg "is_worth" G.Uu ["kind","thing"] a d:=by
   refine' ⟨_,_,G.fn1 KX G0 ?e ?l ?g ?k (fun F=>F.binds (ps:=["kind","thing"]) fun _ _ _ _ _ _ us hl=>match us,hl with | [_,_],_=>rfl)⟩
   (case e=>k_is)
   (case l=>k_is)
   (case g=>k_is)
   (case k=>k_is)
  obtain ⟨a31,d31,C31⟩:∃ a d,G.Fn _ mg "need_worth" G.WF ["kind","worth"] a d:=by
   refine' ⟨_,_,G.fn1 KX G0 ?e ?l ?g ?k (fun F=>F.binds (ps:=["kind","worth"]) fun _ _ _ _ _ _ us hl=>match us,hl with | [_,_],_=>rfl)⟩
   (case e=>k_is)
   (case l=>k_is)
   (case g=>k_is)
   (case k=>k_is)
  obtain ⟨a32,d32,C32⟩:∃ a d,G.Fn _ mg "place_of" G.Uv ["kind","worth"] a d:=by
   refine' ⟨_,_,G.fn1 KX G0 ?e ?l ?g ?k (fun F=>F.binds (ps:=["kind","worth"]) fun _ _ _ _ _ _ us hl=>match us,hl with | [_,_],_=>rfl)⟩
   (case e=>k_is)
   (case l=>k_is)
   (case g=>k_is)
   (case k=>k_is)
  obtain ⟨a33,d33,C33⟩:∃ a d,G.Fn _ mg "place_of_parts" G.JW ["kinds","parts"] a d:=by
   refine' ⟨_,_,G.fn1 KX G0 ?e ?l ?g ?k (fun F=>F.binds (ps:=["kinds","parts"]) fun _ _ _ _ _ _ us hl=>match us,hl with | [_,_],_=>rfl)⟩
   (case e=>k_is)
   (case l=>k_is)
   (case g=>k_is)
   (case k=>k_is)
  obtain ⟨a34,d34,C34⟩:∃ a d,G.Fn _ mg "between" G.uG ["kind","one","other"] a d:=by
   refine' ⟨_,_,G.fn1 KX G0 ?e ?l ?g ?k (fun F=>F.binds (ps:=["kind","one","other"]) fun _ _ _ _ _ _ us hl=>match us,hl with | [_,_,_],_=>rfl)⟩
   (case e=>k_is)
   (case l=>k_is)
   (case g=>k_is)
   (case k=>k_is)
  obtain ⟨a35,d35,C35⟩:∃ a d,G.Fn _ mg "worth_if_any" G.wC ["kind","number"] a d:=by
   refine' ⟨_,_,G.fn1 KX G0 ?e ?l ?g ?k (fun F=>F.binds (ps:=["kind","number"]) fun _ _ _ _ _ _ us hl=>match us,hl with | [_,_],_=>rfl)⟩
   (case e=>k_is)
   (case l=>k_is)
   (case g=>k_is)
   (case k=>k_is)
  obtain ⟨a36,d36,C36⟩:∃ a d,G.Fn _ mg "worth_ahead" G.W5 ["kind","worth"] a d:=by
   refine' ⟨_,_,G.fn1 KX G0 ?e ?l ?g ?k (fun F=>F.binds (ps:=["kind","worth"]) fun _ _ _ _ _ _ us hl=>match us,hl with | [_,_],_=>rfl)⟩
   (case e=>k_is)
   (case l=>k_is)
   (case g=>k_is)
   (case k=>k_is)
  obtain ⟨a37,d37,C37⟩:∃ a d,G.Fn _ mg "next_worth" G.WG ["kind","worth"] a d:=by
   refine' ⟨_,_,G.fn1 KX G0 ?e ?l ?g ?k (fun F=>F.binds (ps:=["kind","worth"]) fun _ _ _ _ _ _ us hl=>match us,hl with | [_,_],_=>rfl)⟩
   (case e=>k_is)
   (case l=>k_is)
   (case g=>k_is)
   (case k=>k_is)
  obtain ⟨a38,d38,C38⟩:∃ a d,G.Fn _ mg "number_of" G.uI ["kind","worth"] a d:=by
   refine' ⟨_,_,G.fn1 KX G0 ?e ?l ?g ?k (fun F=>F.binds (ps:=["kind","worth"]) fun _ _ _ _ _ _ us hl=>match us,hl with | [_,_],_=>rfl)⟩
   (case e=>k_is)
   (case l=>k_is)
   (case g=>k_is)
   (case k=>k_is)
  obtain ⟨a39,d39,C39,hB⟩:∃ a d,G.Fn _ mg "law" G.Gj ["_law_script"] a d/\∀ (s:PySem.Shared) (v:PySem.Value),BindsTo s d ⟨[v],[]⟩ [("_law_script",v)]:=by
   refine' ⟨_,_,G.fn1 KX G0 ?e ?l ?g ?k (fun F=>F.binds (ps:=["_law_script"]) fun _ _ _ _ _ _ us hl=>match us,hl with | [_],_=>rfl),fun s v=> .of_eq rfl⟩
   (case e=>k_is)
   (case l=>k_is)
   (case g=>k_is)
   (case k=>k_is)
  refine' G.fin_ KX G0 hmg ⟨a0,d0,C0,a1,d1,C1,a2,d2,C2,a3,d3,C3,a4,d4,C4,a5,d5,C5,a6,d6,C6,a7,d7,C7,a8,d8,C8,a9,d9,C9,a10,d10,C10,a11,d11,C11,a12,d12,C12,a13,d13,C13,a14,d14,C14,a15,d15,C15,a16,d16,C16,a17,d17,C17,a18,d18,C18,a19,d19,C19,a20,d20,C20,a21,d21,C21,a22,d22,C22,a23,d23,C23,a24,d24,C24,a25,d25,C25,a26,d26,C26,a27,d27,C27,a28,d28,C28,a29,d29,C29,a30,d30,C30,a31,d31,C31,a32,d32,C32,a33,d33,C33,a34,d34,C34,a35,d35,C35,a36,d36,C36,a37,d37,C37,a38,d38,C38,a39,d39,C39,PySem.W.mg_none_of KX G0 (by k_is),PySem.W.mg_none_of KX G0 (by k_is),PySem.W.mg_none_of KX G0 (by k_is),PySem.W.mg_none_of KX G0 (by k_is),PySem.W.mg_none_of KX G0 (by k_is),PySem.W.mg_none_of KX G0 (by k_is),PySem.W.mg_none_of KX G0 (by k_is),PySem.W.mg_none_of KX G0 (by k_is),PySem.W.mg_none_of KX G0 (by k_is),PySem.W.mg_none_of KX G0 (by k_is),PySem.W.mg_none_of KX G0 (by k_is),PySem.W.mg_none_of KX G0 (by k_is),PySem.W.mg_none_of KX G0 (by k_is),PySem.W.mg_none_of KX G0 (by k_is),PySem.W.mg_none_of KX G0 (by k_is),⟨_,PySem.W.mg_of KX G0 (by k_is),_,rfl⟩,⟨_,PySem.W.mg_of KX G0 (by k_is),_,rfl⟩⟩ hB ?n0 ?n1 ?n2 ?b0 ?b1 ?b2
  (case n0=>k_is)
  (case n1=>k_is)
  (case n2=>k_is)
  (case b0=>kernel_rfl)
  (case b1=>kernel_rfl)
  (case b2=>kernel_rfl)
