import PyProof.Rows.All
import Wide.All
import OpenK.AllK
import Wide.FinOn
import Lean
import PyProof.EqAt
import PyProof.EqKinds
import PyProof.TupleCall
import PyProof.NeKinds
import PyProof.WalksEnum
import PyProof.StrWalks
import PyProof.ExcAttrAll.ValueError
import PyProof.ZipIter
import KE.KRevIter
import PyProof.ListNew
import PyProof.WalksMore
import PyProof.ReprLoop
import PyProof.FactsAll.list
import PyProof.CollectIter
import PyProof.TupleOfGen
import PySem.Challenge.RW_worthkinds_k02_whole_worths
set_option maxHeartbeats 4000000
set_option Elab.async false
set_option linter.all false
set_option maxRecDepth 100000
namespace L2
open PySem PySem.Spec PyProof.Rows
noncomputable abbrev Key:=Sum Int Str
noncomputable def K4:Key->Value->Bool
 | .inl k,v=>Value.isInt k v
 | .inr x,v=>Value.isStrOf x v
noncomputable def keyH (w:World):Key->Int
 | .inl k=>hashInt k
 | .inr x=>hashStr w x
theorem Zq:∀ {k:Key} {v:Value},K4 k v=true->(∃ i t,k=Sum.inl i/\v=Value.int i t)\/(∃ x t,k=Sum.inr x/\v=Value.str x t)
 | .inl i,v,h=>by
  obtain ⟨t,e⟩:=Value.isInt_shape (k:=i) (v:=v) h
  exact .inl ⟨i,t,rfl,e⟩
 | .inr x,v,h=>by
  obtain ⟨t,e⟩:=Value.isStrOf_shape (x:=x) (v:=v) h
  exact .inr ⟨x,t,rfl,e⟩
theorem K5 (a b:Int):decide ((Sum.inl a:Key)=Sum.inl b)=(a == b):=by
 by_cases e:a=b
 ·subst e; simp
 ·have h:¬ (Sum.inl a:Key)=Sum.inl b:=fun q=>e (Sum.inl.inj q)
  rw [decide_eq_false h]
  exact (beq_eq_false_iff_ne.mpr e).symm
theorem K6 (a b:Str):decide ((Sum.inr a:Key)=Sum.inr b)=decide (a=b):=by
 by_cases e:a=b
 ·subst e; simp
 ·have h:¬ (Sum.inr a:Key)=Sum.inr b:=fun q=>e (Sum.inr.inj q)
  rw [decide_eq_false h,decide_eq_false e]
theorem K7 (a:Int) (b:Str):decide ((Sum.inl a:Key)=Sum.inr b)=false:=decide_eq_false (fun q=>nomatch q)
theorem K8 (a:Str) (b:Int):decide ((Sum.inr a:Key)=Sum.inl b)=false:=decide_eq_false (fun q=>nomatch q)
noncomputable def Yr (prog:Program) (w:World):PySem.KeyKind prog w Key where
 is:=K4
 hash:=keyH w
 inj:=fun v a b ha hb=>by
  rcases Zq ha with ⟨i,t,rfl,rfl⟩ | ⟨x,t,rfl,rfl⟩
  ·rcases Zq hb with ⟨j,u,rfl,e⟩ | ⟨y,u,rfl,e⟩
   ·injection e with e1 _; rw [e1]
   ·exact nomatch e
  ·rcases Zq hb with ⟨j,u,rfl,e⟩ | ⟨y,u,rfl,e⟩
   ·exact nomatch e
   ·injection e with e1 _; rw [e1]
 byValue:=fun k v h=>by
  rcases Zq h with ⟨i,t,rfl,rfl⟩ | ⟨x,t,rfl,rfl⟩ <;> rfl
 pyHash:=fun hv h=>by
  rcases Zq hv with ⟨i,t,rfl,rfl⟩ | ⟨x,t,rfl,rfl⟩
  ·exact wpAny_pyHash_int h
  ·exact wpAny_pyHash_str h
 eqBool:=fun hu hv h=>by
  rcases Zq hu with ⟨i,t,rfl,rfl⟩ | ⟨x,t,rfl,rfl⟩
  ·rcases Zq hv with ⟨j,u,rfl,rfl⟩ | ⟨y,u,rfl,rfl⟩
   ·rw [K5] at h; exact wpAny_eqBool_int h
   ·rw [K7] at h; exact SeqAt.EqAt.int_str i t y u _ _ _ _ h
  ·rcases Zq hv with ⟨j,u,rfl,rfl⟩ | ⟨y,u,rfl,rfl⟩
   ·rw [K8] at h; exact SeqAt.EqAt.str_int x t j u _ _ _ _ h
   ·rw [K6] at h; exact wpAny_eqBool_str h
 «strs»:=fun k x t v h=>by
  rcases Zq h with ⟨i,u,rfl,e⟩ | ⟨y,u,rfl,e⟩
  ·exact nomatch e
  ·injection e with e1 _
   subst e1
   cases v <;> rfl
end L2
namespace L2
open PySem PySem.Spec PyProof.Rows
inductive V where
 | non | bl (b:Bool) | int (i:Int) | str (x:Str) | byt (b:Array UInt8) | flt (b:UInt64) | ref (a:Addr) | ty (n:String)
 deriving DecidableEq
noncomputable def jf:V->Value->Prop
 | .non,u=>u=Value.none
 | .bl b,u=>u=Value.bool b
 | .int i,u=>∃ t,u=Value.int i t
 | .str x,u=>∃ t,u=Value.str x t
 | .byt b,u=>∃ t,u=Value.bytes b t
 | .flt b,u=>∃ t,u=Value.float b t
 | .ref a,u=>u=Value.ref a
 | .ty n,u=>u=Value.type n
noncomputable abbrev ZY:List V->List Value->Prop:=Paired jf
theorem ZY.length {xs:List V} {us:List Value} (r:ZY xs us):xs.length=us.length:=Paired.length r
theorem ZY.get:∀ {xs:List V} {us:List Value} {i:Nat} {x:V},ZY xs us->xs[i]? =some x->∃ u,us[i]? =some u/\jf x u
 | _,_,_,_, .nil,e=>by simp at e
 | _,_,0,_, .cons r _,e=>by simp at e; subst e; exact ⟨_,rfl,r⟩
 | _,_,i+1,x, .cons _ t,e=>by
  obtain ⟨u,h1,h2⟩:=ZY.get (i:=i) (x:=x) t (by simpa using e)
  exact ⟨u,by simpa using h1,h2⟩
theorem ZY.append:∀ {xs ys:List V} {us ws:List Value},ZY xs us->ZY ys ws->ZY (xs++ys) (us++ws)
 | _,_,_,_, .nil,s=>s
 | _,_,_,_, .cons r t,s=> .cons r (ZY.append t s)
theorem ZY.take:∀ {xs:List V} {us:List Value} (n:Nat),ZY xs us->ZY (xs.take n) (us.take n)
 | _,_,0,_=> .nil
 | _,_,_+1, .nil=> .nil
 | _,_,n+1, .cons r t=> .cons r (ZY.take n t)
theorem ZY.drop:∀ {xs:List V} {us:List Value} (n:Nat),ZY xs us->ZY (xs.drop n) (us.drop n)
 | _,_,0,r=>r
 | _,_,_+1, .nil=> .nil
 | _,_,n+1, .cons _ t=>ZY.drop n t
noncomputable def Gd:Option V->Option Value->Prop
 | some v,some u=>jf v u
 | none,none=>True
 | _,_=>False
noncomputable def KV {κ:Type}:List (κ×V)->List (κ×Value)->Prop:=Paired fun (p:κ×V) (q:κ×Value)=>p.1=q.1/\jf p.2 q.2
noncomputable def kV:Key->V
 | .inl i=> .int i
 | .inr x=> .str x
inductive HO where
 | lst (xs:List V)
 | tup (xs:List V)
 | dK (kvs:List (Key×V)) | dT (kvs:List (List Key×V))
 | set (S:Int->Bool) (n:Nat)
 | ins (C dx:Addr) (fs:List (Str×V))
 | own (x:Addr)
 | xd (fs:List (Str×V))
 | met (f x:Addr)
 | rng (lo hi:Int)
 | frz (o:Obj) (u:HO)
 | tbl (ps:Array Value)
 | ext (φ:Heap->Prop)
noncomputable abbrev Hp:=Addr->Option HO
noncomputable def upd (H:Hp) (a:Addr) (o:HO):Hp:=fun b=>if b=a then some o else H b
theorem Zj {H:Hp} {a:Addr} {o:HO}:upd H a o a=some o:=by unfold upd; rw [if_pos rfl]
theorem zF {H:Hp} {a b:Addr} {o:HO} (h:b ≠ a):upd H a o b=H b:=by unfold upd; rw [if_neg h]
theorem Z6 {H:Hp} {a b:Addr} {o:HO} (h:H a=some o) (h' :H b=none):a ≠ b:=by
 intro e; subst e; rw [h] at h'; cases h'
section
variable (P:Program) (w:World)
noncomputable def j7 (H:Hp) (h:Heap) (a:Addr):HO->Prop
 | .lst xs=>xs.length<=sizeLine/\∃ (its:List Value) (n:Nat),ZY xs its/\h.get? a=some { cls:= .type "list",data:= .seq its.toArray n }
 | .tup xs=>xs.length<=sizeLine/\∃ its:List Value,ZY xs its/\IsTup h a its.toArray
 | .dK kvs=>kvs.length<=sizeLine/\(a == sysModules)=false/\∃ vs,KV kvs vs/\h.DictOf (Yr P w) a vs
 | .dT kvs=>kvs.length<=sizeLine/\(a == sysModules)=false/\∃ xs:List (List Key×Addr×Value),
   Paired (fun (p:List Key×V) (q:List Key×Addr×Value)=>p.1=q.1/\H q.2.1=some (.tup (p.1.map kV))/\jf p.2 q.2.2) kvs xs/\
   ∃ o es ep,h.get? a=some o/\o.ExactDict/\o.data= .dict es ep/\es.toList=xs.map (entryOfKey (tupleKind (Yr P w)))/\(xs.map (·.1)).Nodup
 | .set S n=>h.SetOf (intKind P w) a S n
 | .ins C dx fs=>H dx=some (.own a)/\fs.length<=1000/\dx ≠ a/\h.get? a=some (PySem.W.instObj C dx)/\
   ∃ mA,h.Ns1 dx mA/\(∀ f,Gd (fs.lookup f) (mA f))/\PySem.Within mA (fs.map (·.1))
 | .own _=>∃ o,h.get? a=some o
 | .xd fs=>∃ mA,h.Ns1 a mA/\∀ f,Gd (fs.lookup f) (mA f)
 | .rng lo hi=>∃ t u v,h.get? a=some { cls:= .type "range",data:= .fields #[.int lo t, .int hi u, .int 1 v] }
 | .frz o u=>h.get? a=some o/\j7 H h a u
 | .tbl ps=>h.get? a=some { cls:= .none,data:= .fields ps }
 | .met f x=>h.get? a=some (PySem.W.methodObj (.ref f) (.ref x))
 | .ext φ=>φ h/\(∃ o,h.get? a=some o)/\∀ h1 h2:Heap,φ h1->(∀ o,h1.get? a=some o->h2.get? a=some o)->φ h2
noncomputable def HOk (H:Hp) (h:Heap):Prop:=∀ a o,H a=some o->j7 P w H h a o
end
section
variable {P:Program} {w:World} {H H' :Hp} {h h' :Heap} {a:Addr} {o:HO}
theorem j7.lt (x:j7 P w H h a o):a < h.objs.size:=by
 cases o with
 | lst xs=>obtain ⟨_,_,_,_,e⟩:=x; exact Heap.lt_size e
 | tup xs=>obtain ⟨_,_,_,p⟩:=x; exact p.lt
 | dK kvs=>obtain ⟨_,_,_,_,o,_,_,e,_⟩:=x; exact Heap.lt_size e
 | dT kvs=>obtain ⟨_,_,_,_,o,_,_,e,_⟩:=x; exact Heap.lt_size e
 | set S n=>obtain ⟨o,_,_,_,e,_⟩:=x; exact Heap.lt_size e
 | ins C dx fs=>obtain ⟨_,_,_,e,_⟩:=x; exact Heap.lt_size e
 | own y=>obtain ⟨_,e⟩:=x; exact Heap.lt_size e
 | xd fs=>obtain ⟨_,⟨_,_,_,e,_⟩,_⟩:=x; exact Heap.lt_size e
 | rng lo hi=>obtain ⟨_,_,_,e⟩:=x; exact Heap.lt_size e
 | frz ob u=>obtain ⟨e,_⟩:=x; exact Heap.lt_size e
 | tbl ps=>exact Heap.lt_size (show h.get? a=some _ from x)
 | met f y=>exact Heap.lt_size (show h.get? a=some _ from x)
 | ext φ=>obtain ⟨_,⟨_,e⟩,_⟩:=x; exact Heap.lt_size e
theorem Paired.mapP {α β:Type} {F G:α->β->Prop}:∀ {l₁:List α} {l₂:List β},Paired F l₁ l₂->(∀ a b,F a b->G a b)->Paired G l₁ l₂
 | _,_, .nil,_=> .nil
 | _,_, .cons r t,f=> .cons (f _ _ r) (Paired.mapP t f)
theorem j7.stay (x:j7 P w H h a o) (k:∀ b u,(b=a\/H b=some (.own a))->h.get? b=some u->h'.get? b=some u)
  (ho:∀ b,H b=some (.own a)->H' b=some (.own a)) (ht:∀ b xs,H b=some (.tup xs)->H' b=some (.tup xs)):j7 P w H' h' a o:=by
 induction o with
 | lst xs=>obtain ⟨z,its,n,r,e⟩:=x; exact ⟨z,its,n,r,k _ _ (.inl rfl) e⟩
 | tup xs=>obtain ⟨z,its,r,ob,e,c⟩:=x; exact ⟨z,its,r,ob,k _ _ (.inl rfl) e,c⟩
 | dK kvs=>obtain ⟨z,y,vs,r,ob,es,ep,e,c⟩:=x; exact ⟨z,y,vs,r,ob,es,ep,k _ _ (.inl rfl) e,c⟩
 | dT kvs=>
  obtain ⟨z,y,xs,r,ob,es,ep,e,c⟩:=x
  exact ⟨z,y,xs,Paired.mapP r fun p q z=>⟨z.1,ht _ _ z.2.1,z.2.2⟩,ob,es,ep,k _ _ (.inl rfl) e,c⟩
 | set S n=>obtain ⟨ob,es,ep,t,e,c⟩:=x; exact ⟨ob,es,ep,t,k _ _ (.inl rfl) e,c⟩
 | ins C dx fs=>
  obtain ⟨d,z,ne,e,mA,⟨od,es,ep,e2,c⟩,r⟩:=x
  exact ⟨ho _ d,z,ne,k _ _ (.inl rfl) e,mA,⟨od,es,ep,k _ _ (.inr d) e2,c⟩,r⟩
 | own y=>obtain ⟨ob,e⟩:=x; exact ⟨ob,k _ _ (.inl rfl) e⟩
 | xd fs=>obtain ⟨mA,⟨od,es,ep,e,c⟩,r⟩:=x; exact ⟨mA,⟨od,es,ep,k _ _ (.inl rfl) e,c⟩,r⟩
 | rng lo hi=>obtain ⟨t,u,v,e⟩:=x; exact ⟨t,u,v,k _ _ (.inl rfl) e⟩
 | frz ob u ih=>obtain ⟨e,q⟩:=x; exact ⟨k _ _ (.inl rfl) e,ih q⟩
 | tbl ps=>
  have e:h.get? a=some { cls:= .none,data:= .fields ps }:=x
  show h'.get? a=some { cls:= .none,data:= .fields ps }
  exact k a _ (.inl rfl) e
 | met f y=>
  have e:h.get? a=some (PySem.W.methodObj (.ref f) (.ref y)):=x
  show h'.get? a=some (PySem.W.methodObj (.ref f) (.ref y))
  exact k a _ (.inl rfl) e
 | ext φ=>obtain ⟨p,⟨o,e⟩,st⟩:=x; exact ⟨st _ _ p fun o q=>k _ _ (.inl rfl) q,⟨o,k _ _ (.inl rfl) e⟩,st⟩
theorem HOk.lt (x:HOk P w H h) (e:H a=some o):a < h.objs.size:=(x a o e).lt
theorem HOk.fresh (x:HOk P w H h) (e:h.objs.size<=a):H a=none:=by
 cases q:H a with
 | none=>rfl
 | some u=>exact absurd (Nat.lt_of_lt_of_le (x.lt q) e) (Nat.lt_irrefl _)
theorem HOk.kept (x:HOk P w H h) (k:∀ b u,h.get? b=some u->h'.get? b=some u):HOk P w H h' :=fun a o e=>
 (x a o e).stay (fun b u _ q=>k b u q) (fun _ q=>q) fun _ _ q=>q
theorem HOk.laid (x:HOk P w H h) (k:∀ b u,h.get? b=some u->h'.get? b=some u) (hp:h.objs.size<=a) (new:j7 P w (upd H a o) h' a o):HOk P w (upd H a o) h' :=fun b u e=>by
 have hn:=x.fresh hp
 by_cases hb:b=a
 ·subst hb; rw [Zj] at e; cases e; exact new
 ·rw [zF hb] at e
  exact (x b u e).stay (fun c v _ q=>k c v q) (fun c q=>by rw [zF (Z6 q hn)]; exact q) fun c xs q=>by rw [zF (Z6 q hn)]; exact q
end
noncomputable def Rd (H:Hp) (a:Addr) (u:HO):Prop:=H a=some u\/∃ o,H a=some (.frz o u)
theorem Rd.ok {P:Program} {w:World} {H:Hp} {h:Heap} {a:Addr} {u:HO} (r:Rd H a u) (x:HOk P w H h):j7 P w H h a u:=by
 rcases r with r | ⟨o,r⟩
 ·exact x a u r
 ·obtain ⟨_,q⟩:=x a _ r
  exact q
noncomputable def Mut:Option HO->Prop
 | some (.lst _)=>True
 | some (.dK _)=>True
 | some (.dT _)=>True
 | some (.set _ _)=>True
 | some (.ins _ _ _)=>True
 | some (.ext _)=>True
 | _=>False
section
variable {P:Program} {w:World} {H:Hp} {h h' :Heap} {x e:Addr} {o' :HO}
theorem HOk.write (ok:HOk P w H h) (mu:Mut (H x)) (he:e=x\/H e=some (.own x)) (k:∀ b u,b ≠ e->h.get? b=some u->h'.get? b=some u) (heo:∃ u,h'.get? e=some u)
  (new:j7 P w (upd H x o') h' x o'):HOk P w (upd H x o') h' :=fun b u q=>by
 have nown:∀ c y,H c=some (.own y)->c ≠ x:=fun c y r z=>by subst z; rw [r] at mu; exact mu
 have ntup:∀ c xs,H c=some (.tup xs)->c ≠ x:=fun c xs r z=>by subst z; rw [r] at mu; exact mu
 by_cases hb:b=x
 ·subst hb; rw [Zj] at q; cases q; exact new
 ·rw [zF hb] at q
  by_cases hbe:b=e
  ·have q' :H b=some (.own x):=by
    rcases he with z | z
    ·exact absurd (hbe.trans z) hb
    ·rw [hbe]; exact z
   rw [q] at q'; cases q'
   obtain ⟨v,hv⟩:=heo
   exact ⟨v,by rw [hbe]; exact hv⟩
  ·refine (ok b u q).stay (fun c v hc r=>k c v ?_ r) (fun c r=>by rw [zF (nown c b r)]; exact r) fun c xs r=>by rw [zF (ntup c xs r)]; exact r
   rcases hc with rfl | hc
   ·exact hbe
   ·rintro rfl
    rcases he with z | z
    ·exact nown c b hc z
    ·rw [hc] at z; cases z; exact hb rfl
end
structure Un (fs ex:List Addr) (H H' :Hp) (h h' :Heap):Prop where
 keep:∀ b o,h.get? b=some o->H b=none->b ∉ fs->b ∉ ex->h'.get? b=some o
 slot:∀ b o,h.get? b=some o->H b=none->b∈fs->b ∉ ex->∃ sl,h'.get? b=some { o with slots:=sl }
 free:∀ b o,h.get? b=some o->H b=none->b ∉ ex->H' b=none
 there:∀ b o,h.get? b=some o->b ∉ ex->∃ o',h'.get? b=some o'
 tups:∀ b xs,H b=some (.tup xs)->H' b=some (.tup xs)
 frzs:∀ b o u,H b=some (.frz o u)->H' b=some (.frz o u)
 tbls:∀ b ps,H b=some (.tbl ps)->∃ more,H' b=some (.tbl (ps++more))
section
variable {fs fs' ex ex' :List Addr} {H H1 H2:Hp} {h h1 h2 h' :Heap} {a x e:Addr} {o:HO}
theorem Un.any (u:Un fs ex H H1 h h1) {b:Addr} {ob:Obj} (q:h.get? b=some ob) (n:H b=none) (hx:b ∉ ex):∃ sl,h1.get? b=some { ob with slots:=sl }:=by
 by_cases hb:b∈fs
 ·exact u.slot b ob q n hb hx
 ·exact ⟨ob.slots,u.keep b ob q n hb hx⟩
theorem Un.kept (k:∀ b u,h.get? b=some u->h'.get? b=some u):Un fs ex H H h h' :=
 ⟨fun b ob q _ _ _=>k b ob q,fun b ob q _ _ _=>⟨ob.slots,k b ob q⟩,fun _ _ _ n _=>n,fun b ob q _=>⟨ob,k b ob q⟩,fun _ _ q=>q,fun _ _ _ q=>q,fun _ ps q=>⟨#[],by rw [q]; simp⟩⟩
theorem Un.refl:Un fs ex H H h h:=Un.kept fun _ _ q=>q
theorem Un.laid (k:∀ b u,h.get? b=some u->h'.get? b=some u) (hp:h.objs.size<=a) (hn:H a=none):Un fs ex H (upd H a o) h h' where
 keep:=fun b u q _ _ _=>k b u q
 slot:=fun b u q _ _ _=>⟨u.slots,k b u q⟩
 free:=fun b u q n _=>by rw [zF (Nat.ne_of_lt (Nat.lt_of_lt_of_le (Heap.lt_size q) hp))]; exact n
 there:=fun b u q _=>⟨u,k b u q⟩
 tups:=fun b xs q=>by rw [zF (Z6 q hn)]; exact q
 frzs:=fun b u xs q=>by rw [zF (Z6 q hn)]; exact q
 tbls:=fun b ps q=>⟨#[],by rw [zF (Z6 q hn),q]; simp⟩
theorem Un.write (mu:Mut (H x)) (he:e=x\/H e=some (.own x)) (k:∀ b u,b ≠ e->h.get? b=some u->h'.get? b=some u) (heo:∃ u,h'.get? e=some u):Un fs ex H (upd H x o) h h' :=by
 have hx:∀ b,H b=none->b ≠ x:=fun b n z=>by subst z; rw [n] at mu; exact mu
 have hb:∀ b,H b=none->b ≠ e:=fun b n z=>by
  subst z
  rcases he with r | r
  ·exact hx b n r
  ·rw [n] at r; cases r
 have hm:∀ b u,H b=some u->¬ Mut (some u)->b ≠ x:=fun b u q nm z=>by subst z; rw [q] at mu; exact nm mu
 refine ⟨fun b u q n _ _=>k b u (hb b n) q,fun b u q n _ _=>⟨u.slots,k b u (hb b n) q⟩,fun b u q n _=>by rw [zF (hx b n)]; exact n,fun b u q _=> ?_,
  fun b xs q=>by rw [zF (hm b _ q fun z=>z)]; exact q,fun b u xs q=>by rw [zF (hm b _ q fun z=>z)]; exact q,fun b ps q=>⟨#[],by rw [zF (hm b _ q fun z=>z),q]; simp⟩⟩
 by_cases hbe:b=e
 ·subst hbe; exact heo
 ·exact ⟨u,k b u hbe q⟩
end
noncomputable def trk (h:Heap) (H:Hp):List Addr:=(List.range h.objs.size).filter fun a=>(H a).isSome
noncomputable def Vq (h:Heap) (H:Hp):Heap:=PySem.W.hideAll h (trk h H)
theorem Qt (h:Heap) (H:Hp):(Vq h H).objs.size=h.objs.size:=PySem.W.hideAll_size _ _
theorem Vr {h:Heap} {H:Hp} {b:Addr} {o:Obj} (e:h.get? b=some o) (n:H b=none):(Vq h H).get? b=some o:=
 PySem.W.hideAll_get _ e fun hm=>by
  have q:(H b).isSome=true:=(List.mem_filter.mp hm).2
  rw [n] at q; simp at q
theorem Xe {h:Heap} {H:Hp} {b:Addr} {o:Obj} (e:(Vq h H).get? b=some o):h.get? b=some o/\H b=none:=by
 have e' :h.get? b=some o:=PySem.W.of_hideAll (trk h H) e
 refine ⟨e', ?_⟩
 cases q:H b with
 | none=>rfl
 | some x=>
  have hm:b∈trk h H:=List.mem_filter.mpr ⟨List.mem_range.mpr (Heap.lt_size e'),by simp [q]⟩
  have z:(Vq h H).get? b=none:=PySem.W.hideAll_none (trk h H) hm
  rw [z] at e; cases e
end L2
namespace L2
open PySem PySem.Spec PyProof.Rows
structure Mod (K:PySem.W.Frag) (mg:Str->Option Value) (base:Heap):Prop where
 kin:K.In base
 glob:base.Ns mainGlobals mg
 blt:∃ mb,base.Ns builtinsNs mb/\∀ x:Str,x ≠ "__name__"->mb x=bootBuiltins x
 nolimit:base.NoLimit
structure Cx where
 prog:Program
 w:World
 K:PySem.W.Frag
 mg:Str->Option Value
 base:Heap
 A:Around
 N:List Str
 s₀:Shared
 H₀:Hp
 env:Env
 outer:List Env
 stack:List Env
 ex:List Addr
 fn:Str->Bool
 calm:Bool
 pn:List (Addr×Obj)
 xe:Value->Shared->Prop
noncomputable def frs (l:List Env):List Addr:=l.filterMap (·.frame)
noncomputable abbrev Cx.fs (X:Cx):List Addr:=frs X.outer
noncomputable def Vis (sc:Scope) (x:Str):Prop:=sc.names.lookup x=some .local\/sc.names.lookup x=some .cell\/sc.names.lookup x=some .free
noncomputable def Loc (sc:Scope) (x:Str):Prop:=sc.names.lookup x=some .local\/sc.names.lookup x=some .cell
noncomputable def Look (env:Env) (h:Heap) (m:Str->Option Value) (x:Str) (u:Value):Prop:=
 (env.kindOf x=some .local/\m x=some u)\/((env.kindOf x=some .cell\/env.kindOf x=some .free)/\∃ c,env.cells.lookup x=some c/\h.IsCell c (some u))
structure Cx.Ok (X:Cx):Prop where
 mod:Mod X.K X.mg X.base
 kind:X.env.scope.kind= .function
 glob:X.env.globals=mainGlobals
 blt:X.env.builtins=builtinsNs
 above:X.s₀.heap.objs.size<=X.env.locals
 inj:∀ x y c,X.env.cells.lookup x=some c->X.env.cells.lookup y=some c->x=y
 has:∀ x,(X.env.kindOf x=some .cell\/X.env.kindOf x=some .free)->∃ c,X.env.cells.lookup x=some c
 cab:∀ x c,X.fn x=true->X.env.cells.lookup x=some c->X.s₀.heap.objs.size<=c
 hd:X.calm=true->X.A.handled=none
 frames:X.A.frames=some X.stack
 stk:X.stack=X.outer\/(X.stack=X.env :: X.outer/\X.env.frame=some X.env.locals)
 exf:∀ b∈X.ex,b ≠ X.env.locals/\∀ x c,X.env.cells.lookup x=some c->c ≠ b
 bs:∀ b o,X.base.get? b=some o->X.s₀.heap.get? b=some o/\X.H₀ b=none
 bsz:X.base.objs.size<=X.s₀.heap.objs.size
 noex:∀ b o,X.base.get? b=some o->b ∉ X.ex
 exfs:∀ b∈X.ex,b ∉ X.fs
 funs:X.s₀.heap.FunFrames X.base X.outer
 frf:∀ b∈X.fs,X.H₀ b=none
structure Inv (X:Cx) (pins:List (Addr×Obj)) (σ:List (Option V)) (H:Hp) (s:Shared):Prop where
 ok:X.Ok
 os:s.os=X.s₀.os
 bare:AllBare s.gens
 base:Un X.fs X.ex X.H₀ H X.s₀.heap s.heap
 loc:∃ m,s.heap.Ns X.env.locals m/\∀ (i:Nat) (x:Str) (v:V),X.N[i]? =some x->σ[i]? =some (some v)->Vis X.env.scope x->∃ u,jf v u/\Look X.env s.heap m x u
 cell:∀ x c,X.env.cells.lookup x=some c->∃ v,s.heap.IsCell c v
 free:H X.env.locals=none
 freeC:∀ x c,X.env.cells.lookup x=some c->H c=none
 pin:∀ p∈X.pn++pins,s.heap.get? p.1=some p.2/\H p.1=none/\p.1 ≠ X.env.locals/\p.1 ∉ X.fs/\∀ v,p.2.data ≠ .cell v
 hok:HOk X.prog X.w H s.heap
 len:σ.length=X.N.length
section
variable {X:Cx} {pins:List (Addr×Obj)} {σ:List (Option V)} {H H' :Hp} {s:Shared} {h' :Heap}
theorem Cx.Ok.nofr (ok:X.Ok) {b:Addr} {o:Obj} (e:X.base.get? b=some o):b ∉ X.fs:=fun hb=>by
 have:=(ok.funs.mem hb).1
 rw [e] at this; cases this
theorem Inv.bs (I:Inv X pins σ H s):∀ b o,X.base.get? b=some o->s.heap.get? b=some o/\H b=none:=fun b o e=>
 ⟨I.base.keep b o (I.ok.bs b o e).1 (I.ok.bs b o e).2 (I.ok.nofr e) (I.ok.noex b o e),I.base.free b o (I.ok.bs b o e).1 (I.ok.bs b o e).2 (I.ok.noex b o e)⟩
theorem Inv.bk (I:Inv X pins σ H s):∀ b o,X.base.get? b=some o->s.heap.get? b=some o:=fun b o e=>(I.bs b o e).1
theorem Inv.mod (I:Inv X pins σ H s):Mod X.K X.mg X.base:=I.ok.mod
theorem Inv.kIn (I:Inv X pins σ H s):X.K.In s.heap:=I.ok.mod.kin.keeps I.bk
theorem Inv.lt (I:Inv X pins σ H s):X.env.locals < s.heap.objs.size:=let ⟨_,hn,_⟩:=I.loc; hn.lt
theorem Inv.sz (I:Inv X pins σ H s):X.s₀.heap.objs.size<=s.heap.objs.size:=Nat.le_trans I.ok.above (Nat.le_of_lt I.lt)
theorem Inv.nofs (I:Inv X pins σ H s) {a:Addr} (h:s.heap.objs.size<=a):a ∉ X.fs:=fun hb=>by
 obtain ⟨_,o,ho,_⟩:=I.ok.funs.mem hb
 exact absurd (Nat.lt_of_lt_of_le (Heap.lt_size ho) (Nat.le_trans I.sz h)) (Nat.lt_irrefl _)
theorem Inv.cne (I:Inv X pins σ H s):∀ x c,X.env.cells.lookup x=some c->c ≠ X.env.locals:=fun x c e z=>by
 obtain ⟨v,o,ho,hd⟩:=I.cell x c e
 obtain ⟨m,⟨o',es,ep,ho',hd',_⟩,_⟩:=I.loc
 rw [z,ho'] at ho; cases ho; rw [hd'] at hd; cases hd
theorem Inv.funs (I:Inv X pins σ H s):s.heap.FunFrames X.base X.outer:=by
 have all:∀ (l:List Env),(∀ b∈frs l,b∈X.fs)->X.s₀.heap.FunFrames X.base l->s.heap.FunFrames X.base l:=by
  intro l
  induction l with
  | nil=>intro _ _; trivial
  | cons env r ih=>
   intro hs hl
   obtain ⟨hk,⟨L,o,hf,hn,ho,hd⟩,hr⟩:=hl
   have hL:L∈X.fs:=hs L (by unfold frs; rw [List.filterMap_cons,hf]; exact List.mem_cons_self)
   obtain ⟨sl,e⟩:=I.base.slot L o ho (I.ok.frf L hL) hL fun z=>I.ok.exfs L z hL
   exact ⟨hk,⟨L,_,hf,hn,e,hd⟩,ih (fun b hb=>hs b (by unfold frs; rw [List.filterMap_cons,hf]; exact List.mem_cons_of_mem _ hb)) hr⟩
 exact all X.outer (fun _ hb=>hb) I.ok.funs
theorem Inv.stack (I:Inv X pins σ H s):s.heap.FunFrames X.base X.stack:=by
 rcases I.ok.stk with e | ⟨e,hf⟩
 ·rw [e]; exact I.funs
 ·rw [e]
  obtain ⟨m,hn,_⟩:=I.loc
  refine .cons (by rw [I.ok.kind]; decide) hf hn ?_ I.funs
  exact Heap.get?_none_of_le (Nat.le_trans I.ok.bsz I.ok.above)
theorem Inv.stkSub (I:Inv X pins σ H s):∀ b∈frs X.stack,b∈X.env.locals :: X.fs:=fun b hb=>by
 rcases I.ok.stk with e | ⟨e,hf⟩
 ·rw [e] at hb; exact List.mem_cons_of_mem _ hb
 ·rw [e] at hb
  unfold frs at hb
  rw [List.filterMap_cons,hf] at hb
  exact hb
theorem Inv.stkFree (I:Inv X pins σ H s):∀ b∈frs X.stack,H b=none:=fun b hb=>by
 rcases List.mem_cons.mp (I.stkSub b hb) with e | hb
 ·rw [e]; exact I.free
 ·obtain ⟨_,o,ho,_⟩:=I.ok.funs.mem hb
  exact I.base.free b o ho (I.ok.frf b hb) fun z=>I.ok.exfs b z hb
theorem Inv.step {g' :Array GenState} {t' :Nat} {d' :Drawn} {ch:List Addr} (I:Inv X pins σ H s)
  (hch:∀ b∈ch,(b∈X.ex\/X.s₀.heap.objs.size<=b)/\b ≠ X.env.locals/\(∀ x c,X.env.cells.lookup x=some c->c ≠ b)/\∀ p∈X.pn++pins,p.1 ≠ b)
  (keep:∀ b o,b ≠ X.env.locals->b ∉ X.fs->b ∉ ch->s.heap.get? b=some o->H b=none->h'.get? b=some o)
  (slot:∀ b o,b ≠ X.env.locals->b∈X.fs->b ∉ ch->s.heap.get? b=some o->H b=none->∃ sl,h'.get? b=some { o with slots:=sl }) (free:∀ b o,b ∉ ch->s.heap.get? b=some o->H b=none->H' b=none)
  (there:∀ b o,b ∉ ch->s.heap.get? b=some o->∃ o',h'.get? b=some o')
  (tups:∀ b xs,H b=some (.tup xs)->H' b=some (.tup xs)) (frzs:∀ b o u,H b=some (.frz o u)->H' b=some (.frz o u)) (tbls:∀ b ps,H b=some (.tbl ps)->∃ more,H' b=some (.tbl (ps++more)))
  (ns:∀ m,s.heap.Ns X.env.locals m->h'.Ns X.env.locals m) (hok:HOk X.prog X.w H' h') (hg:AllBare g'):
  Inv X pins σ H' { s with heap:=h',gens:=g',drawn:=d',toks:=t' }:=by
 have neL:∀ b o,X.s₀.heap.get? b=some o->b ≠ X.env.locals:=fun b o e=>Nat.ne_of_lt (Nat.lt_of_lt_of_le (Heap.lt_size e) I.ok.above)
 have neC:∀ b o,X.s₀.heap.get? b=some o->b ∉ X.ex->b ∉ ch:=fun b o e hx hb=>by
  rcases (hch b hb).1 with z | z
  ·exact hx z
  ·exact absurd (Nat.lt_of_lt_of_le (Heap.lt_size e) z) (Nat.lt_irrefl _)
 have cellK:∀ x c,X.env.cells.lookup x=some c->∀ v,s.heap.IsCell c v->h'.IsCell c v:=fun x c e v ⟨o,ho,hd⟩=>by
  have nch:c ∉ ch:=fun z=>(hch c z).2.2.1 x c e rfl
  by_cases hc:c∈X.fs
  ·obtain ⟨sl,q⟩:=slot c o (I.cne x c e) hc nch ho (I.freeC x c e)
   exact ⟨_,q,hd⟩
  ·exact ⟨o,keep c o (I.cne x c e) hc nch ho (I.freeC x c e),hd⟩
 refine ⟨I.ok,I.os,hg,⟨fun b o e n hb hx=> ?_,fun b o e n hb hx=> ?_,fun b o e n hx=> ?_,fun b o e hx=> ?_,fun b xs e=>tups b xs (I.base.tups b xs e),fun b o xs e=>frzs b o xs (I.base.frzs b o xs e),fun b ps e=> ?_⟩, ?_,fun x c e=> ?_, ?_,fun x c e=> ?_,fun p hp=> ?_,hok,I.len⟩
 ·exact keep b o (neL b o e) hb (neC b o e hx) (I.base.keep b o e n hb hx) (I.base.free b o e n hx)
 ·obtain ⟨sl,e1⟩:=I.base.slot b o e n hb hx
  obtain ⟨sl',e2⟩:=slot b _ (neL b o e) hb (neC b o e hx) e1 (I.base.free b o e n hx)
  exact ⟨sl',e2⟩
 ·obtain ⟨o',e1⟩:=I.base.there b o e hx
  exact free b o' (neC b o e hx) e1 (I.base.free b o e n hx)
 ·obtain ⟨o',e1⟩:=I.base.there b o e hx
  exact there b o' (neC b o e hx) e1
 ·obtain ⟨m1,e1⟩:=I.base.tbls b ps e
  obtain ⟨m2,e2⟩:=tbls b _ e1
  exact ⟨m1++m2,by rw [e2,Array.append_assoc]⟩
 ·obtain ⟨m,hn,hl⟩:=I.loc
  refine ⟨m,ns m hn,fun i x v e1 e2 e3=> ?_⟩
  obtain ⟨u,r,l⟩:=hl i x v e1 e2 e3
  refine ⟨u,r, ?_⟩
  rcases l with l | ⟨k,c,e,z⟩
  ·exact .inl l
  ·exact .inr ⟨k,c,e,cellK x c e _ z⟩
 ·obtain ⟨v,z⟩:=I.cell x c e
  exact ⟨v,cellK x c e v z⟩
 ·obtain ⟨m,⟨o,_,_,ho,_⟩,_⟩:=I.loc
  exact free _ o (fun z=>(hch _ z).2.1 rfl) ho I.free
 ·obtain ⟨v,o,ho,hd⟩:=I.cell x c e
  exact free c o (fun z=>(hch c z).2.2.1 x c e rfl) ho (I.freeC x c e)
 ·obtain ⟨e,n,ne,nf,d⟩:=I.pin p hp
  have nch:p.1 ∉ ch:=fun z=>(hch p.1 z).2.2.2 p hp rfl
  exact ⟨keep p.1 p.2 ne nf nch e n,free p.1 p.2 nch e n,ne,nf,d⟩
theorem Inv.un {t' :Nat} (I:Inv X pins σ H s) (u:Un X.fs [] H H' s.heap h') (hok:HOk X.prog X.w H' h'):Inv X pins σ H' { s with heap:=h',toks:=t' }:=by
 obtain ⟨m,⟨o,es,ep,ho,r⟩,_⟩:=id I.loc
 obtain ⟨sl,hL⟩:=u.any ho I.free (by simp)
 exact I.step (g' :=s.gens) (d' :=s.drawn) (ch:=[]) (fun _ z=>nomatch z) (fun b o _ hb _ e n=>u.keep b o e n hb (by simp)) (fun b o _ hb _ e n=>u.slot b o e n hb (by simp)) (fun b o _ e n=>u.free b o e n (by simp)) (fun b o _ e=>u.there b o e (by simp)) u.tups u.frzs u.tbls (fun m' hm=>by
  obtain ⟨o',es',ep',ho',r'⟩:=hm
  rw [ho] at ho'; cases ho'
  exact ⟨_,es',ep',hL,r'⟩) hok I.bare
theorem Inv.call {g' :Array GenState} {t' :Nat} {d' :Drawn} {ch:List Addr} (I:Inv X pins σ H s) (u:Un (frs X.stack) ch H H' s.heap h') (hok:HOk X.prog X.w H' h') (hg:AllBare g')
  (hch:∀ b∈ch,(b∈X.ex\/X.s₀.heap.objs.size<=b)/\b ≠ X.env.locals/\(∀ x c,X.env.cells.lookup x=some c->c ≠ b)/\∀ p∈X.pn++pins,p.1 ≠ b):
  Inv X pins σ H' { s with heap:=h',gens:=g',drawn:=d',toks:=t' }:=by
 obtain ⟨m,⟨o,es,ep,ho,r⟩,_⟩:=id I.loc
 obtain ⟨sl,hL⟩:=u.any ho I.free fun z=>(hch _ z).2.1 rfl
 exact I.step (ch:=ch) hch (fun b o hL hb hc e n=>u.keep b o e n (fun z=>(List.mem_cons.mp (I.stkSub b z)).elim hL hb) hc) (fun b o _ _ hc e n=>u.any e n hc) (fun b o hc e n=>u.free b o e n hc) (fun b o hc e=>u.there b o e hc) u.tups u.frzs u.tbls (fun m' hm=>by
  obtain ⟨o',es',ep',ho',r'⟩:=hm
  rw [ho] at ho'; cases ho'
  exact ⟨_,es',ep',hL,r'⟩) hok hg
theorem Inv.turned {t' :Nat} {it:Addr} (I:Inv X pins σ H s) (k:∀ b o,b ≠ it->s.heap.get? b=some o->h'.get? b=some o) (hn:H it=none) (hL:it ≠ X.env.locals)
  (h1:it∈X.ex\/X.s₀.heap.objs.size<=it) (h2:∀ x c,X.env.cells.lookup x=some c->c ≠ it) (h3:∀ p∈X.pn++pins,p.1 ≠ it):Inv X pins σ H { s with heap:=h',toks:=t' }:=by
 have nit:∀ b u,H b=some u->b ≠ it:=fun b u e z=>by rw [z,hn] at e; cases e
 refine I.step (g' :=s.gens) (d' :=s.drawn) (ch:=[it]) (fun b hb=> ?_) (fun b o _ _ hc e _=>k b o (fun z=>hc (by simp [z])) e) (fun b o _ _ hc e _=>⟨o.slots,k b o (fun z=>hc (by simp [z])) e⟩) (fun _ _ _ _ n=>n)
  (fun b o hc e=>⟨o,k b o (fun z=>hc (by simp [z])) e⟩) (fun _ _ e=>e) (fun _ _ _ e=>e) (fun b ps e=>⟨#[],by rw [e]; simp⟩) (fun m hm=> ?_) (fun b u e=> ?_) I.bare
 ·have e:b=it:=by simpa using hb
  subst e
  exact ⟨h1,hL,h2,h3⟩
 ·obtain ⟨o,es,ep,ho,r⟩:=hm
  exact ⟨o,es,ep,k _ o (Ne.symm hL) ho,r⟩
 ·refine (I.hok b u e).stay (fun c v hc q=>k c v ?_ q) (fun _ q=>q) fun _ _ q=>q
  rcases hc with z | z
  ·rw [z]; exact nit b u e
  ·exact nit c _ z
theorem Inv.tok (I:Inv X pins σ H s) (t:Nat):Inv X pins σ H { s with toks:=t }:=I.un (h' :=s.heap) (t' :=t) Un.refl I.hok
theorem Inv.kept {t' :Nat} (I:Inv X pins σ H s) (k:∀ b u,s.heap.get? b=some u->h'.get? b=some u):Inv X pins σ H { s with heap:=h',toks:=t' }:=I.un (Un.kept k) (I.hok.kept k)
theorem Inv.laid {a:Addr} {o:HO} {t' :Nat} (I:Inv X pins σ H s) (k:∀ b u,s.heap.get? b=some u->h'.get? b=some u) (hp:s.heap.objs.size<=a) (new:j7 X.prog X.w (upd H a o) h' a o):
  Inv X pins σ (upd H a o) { s with heap:=h',toks:=t' }:=I.un (Un.laid k hp (I.hok.fresh hp)) (I.hok.laid k hp new)
theorem Inv.write {x e:Addr} {o:HO} {t' :Nat} (I:Inv X pins σ H s) (mu:Mut (H x)) (he:e=x\/H e=some (.own x)) (k:∀ b u,b ≠ e->s.heap.get? b=some u->h'.get? b=some u) (heo:∃ u,h'.get? e=some u)
  (new:j7 X.prog X.w (upd H x o) h' x o):Inv X pins σ (upd H x o) { s with heap:=h',toks:=t' }:=I.un (Un.write mu he k heo) (I.hok.write mu he k heo new)
theorem Inv.pins_of {pins' :List (Addr×Obj)} (I:Inv X pins σ H s) (h:∀ p∈pins',s.heap.get? p.1=some p.2/\H p.1=none/\p.1 ≠ X.env.locals/\p.1 ∉ X.fs/\∀ v,p.2.data ≠ .cell v):Inv X pins' σ H s:=
 ⟨I.ok,I.os,I.bare,I.base,I.loc,I.cell,I.free,I.freeC,fun p hp=>(List.mem_append.mp hp).elim (fun z=>I.pin p (List.mem_append_left _ z)) (h p),I.hok,I.len⟩
theorem UB {N:List Str} (hN:N.Nodup) {i j:Nat} {x:Str} (a:N[i]? =some x) (b:N[j]? =some x):i=j:=by
 obtain ⟨h1,e1⟩:=List.getElem?_eq_some_iff.mp a
 obtain ⟨h2,e2⟩:=List.getElem?_eq_some_iff.mp b
 exact (List.getElem_inj hN).mp (e1.trans e2.symm)
theorem yl {M:Model} {A:Around} {E:Value->Shared->Prop} {i:Nat} {x:Str} {v:V} {u:Value} {Q:Unit->Shared->Prop} (I:Inv X pins σ H s) (hN:X.N.Nodup) (hi:X.N[i]? =some x) (hx:Loc X.env.scope x) (r:jf v u)
  (h:∀ s',Inv X pins (σ.set i (some v)) H s' ->(∃ a,Heap.SameBut a s.heap s'.heap/\(a=X.env.locals\/X.env.cells.lookup x=some a))->Q () s') (hf:X.fn x=true\/X.env.scope.names.lookup x=some .local:=by first | exact .inl rfl | exact .inr rfl | assumption):wpAny M A (storeName X.env x u) Q E s:=by
 obtain ⟨m,hn,hl⟩:=id I.loc
 have hcls:(X.env.scope.kind == .class || (X.env.scope.kind == .module && X.env.locals != X.env.globals))=false:=by rw [I.ok.kind]; rfl
 have hiσ:i < σ.length:=by rw [I.len]; exact (List.getElem?_eq_some_iff.mp hi).1
 have cne:=I.cne
 have tracked:∀ {a:Addr} {h' :Heap},(∃ o,s.heap.get? a=some o/\H a=none)->Heap.SameBut a s.heap h' ->HOk X.prog X.w H h' :=fun {a h'} ha hs b ob e=>by
  obtain ⟨_,_,hfree⟩:=ha
  refine (I.hok b ob e).stay (fun c w' hc q=>(hs.2 c ?_).trans q) (fun _ q=>q) fun _ _ q=>q
  rintro rfl
  rcases hc with rfl | hc
  ·rw [hfree] at e; cases e
  ·rw [hfree] at hc; cases hc
 rcases hx with hk | hk
 ·refine wpAny_storeName_local hk hn (fun h' hn' hs=> ?_) hcls
  obtain ⟨oL,_,_,hoL,_⟩:=id hn
  refine h _ ⟨I.ok,I.os,I.bare,⟨fun b o e n hb hx=> ?_,fun b o e n hb hx=> ?_,I.base.free,fun b o e hx=> ?_,I.base.tups,I.base.frzs,I.base.tbls⟩,⟨_,hn',fun j y v' e1 e2 e3=> ?_⟩,fun y c e=> ?_,I.free,I.freeC,fun p hp=> ?_,tracked ⟨oL,hoL,I.free⟩ hs,by simpa using I.len⟩ ⟨_,hs, .inl rfl⟩
  ·exact (hs.2 b (Nat.ne_of_lt (Nat.lt_of_lt_of_le (Heap.lt_size e) I.ok.above))).trans (I.base.keep b o e n hb hx)
  ·obtain ⟨sl,e1⟩:=I.base.slot b o e n hb hx
   exact ⟨sl,(hs.2 b (Nat.ne_of_lt (Nat.lt_of_lt_of_le (Heap.lt_size e) I.ok.above))).trans e1⟩
  ·obtain ⟨o',e1⟩:=I.base.there b o e hx
   exact ⟨o',(hs.2 b (Nat.ne_of_lt (Nat.lt_of_lt_of_le (Heap.lt_size e) I.ok.above))).trans e1⟩
  ·by_cases hj:j=i
   ·subst hj
    rw [hi] at e1; cases e1
    rw [List.getElem?_set_self hiσ] at e2
    cases e2
    exact ⟨u,r, .inl ⟨hk,by simp⟩⟩
   ·rw [List.getElem?_set_ne (Ne.symm hj)] at e2
    obtain ⟨u',r',q⟩:=hl j y v' e1 e2 e3
    refine ⟨u',r', ?_⟩
    rcases q with ⟨k,e⟩ | ⟨k,c,e,z⟩
    ·refine .inl ⟨k, ?_⟩
     have:y ≠ x:=fun e=>hj (UB hN e1 (e ▸ hi))
     simp [this,e]
    ·exact .inr ⟨k,c,e,z.sameBut hs (cne y c e)⟩
  ·obtain ⟨w',z⟩:=I.cell y c e
   exact ⟨w',z.sameBut hs (cne y c e)⟩
  ·obtain ⟨e,n,ne,nf,d⟩:=I.pin p hp
   exact ⟨(hs.2 p.1 ne).trans e,n,ne,nf,d⟩
 ·have hfn:X.fn x=true:=by
   rcases hf with z | z
   ·exact z
   ·rw [z] at hk; cases hk
  obtain ⟨c,hc⟩:=I.ok.has x (.inl hk)
  obtain ⟨w',z⟩:=I.cell x c hc
  refine wpAny_storeName_cell I.ok.kind hk hc z (fun h' hc' hs=> ?_)
  obtain ⟨oc,hoc,hocd⟩:=id z
  refine h { s with heap:=h' } ⟨I.ok,I.os,I.bare,⟨fun b o e n hb hx=> ?_,fun b o e n hb hx=> ?_,I.base.free,fun b o e hx=> ?_,I.base.tups,I.base.frzs,I.base.tbls⟩,⟨m,hn.sameBut hs (Ne.symm (cne x c hc)),fun j y v' e1 e2 e3=> ?_⟩,fun y c' e=> ?_,I.free,I.freeC,fun p hp=> ?_,tracked ⟨oc,hoc,I.freeC x c hc⟩ hs,by simpa using I.len⟩ ⟨c,hs, .inr hc⟩
  ·exact (hs.2 b (Nat.ne_of_lt (Nat.lt_of_lt_of_le (Heap.lt_size e) (I.ok.cab x c hfn hc)))).trans (I.base.keep b o e n hb hx)
  ·obtain ⟨sl,e1⟩:=I.base.slot b o e n hb hx
   exact ⟨sl,(hs.2 b (Nat.ne_of_lt (Nat.lt_of_lt_of_le (Heap.lt_size e) (I.ok.cab x c hfn hc)))).trans e1⟩
  ·obtain ⟨o',e1⟩:=I.base.there b o e hx
   exact ⟨o',(hs.2 b (Nat.ne_of_lt (Nat.lt_of_lt_of_le (Heap.lt_size e) (I.ok.cab x c hfn hc)))).trans e1⟩
  ·by_cases hj:j=i
   ·subst hj
    rw [hi] at e1; cases e1
    rw [List.getElem?_set_self hiσ] at e2
    cases e2
    exact ⟨u,r, .inr ⟨.inl hk,c,hc,hc'⟩⟩
   ·rw [List.getElem?_set_ne (Ne.symm hj)] at e2
    obtain ⟨u',r',q⟩:=hl j y v' e1 e2 e3
    refine ⟨u',r', ?_⟩
    rcases q with q | ⟨k,c',e,z'⟩
    ·exact .inl q
    ·refine .inr ⟨k,c',e,z'.sameBut hs ?_⟩
     rintro rfl
     exact hj (UB hN e1 (I.ok.inj _ _ _ e hc ▸ hi))
  ·by_cases hcc:c' =c
   ·subst hcc; exact ⟨_,hc'⟩
   ·obtain ⟨w2,z2⟩:=I.cell y c' e
    exact ⟨w2,z2.sameBut hs hcc⟩
  ·obtain ⟨e,n,ne,nf,d⟩:=I.pin p hp
   refine ⟨(hs.2 p.1 ?_).trans e,n,ne,nf,d⟩
   intro q
   rw [q,hoc] at e
   have q' :oc=p.2:=Option.some.inj e
   exact d w' (by rw [← q']; exact hocd)
theorem Wa {M:Model} {A:Around} {E:Value->Shared->Prop} {i:Nat} {x:Str} {v:V} {u:Value} {Q:Unit->Shared->Prop} (I:Inv X pins σ H s) (hN:X.N.Nodup) (hi:X.N[i]? =some x) (hx:Loc X.env.scope x) (r:jf v u)
  (h:∀ s',Inv X pins (σ.set i (some v)) H s' ->Q () s') (hf:X.fn x=true\/X.env.scope.names.lookup x=some .local:=by first | exact .inl rfl | exact .inr rfl | assumption):wpAny M A (storeName X.env x u) Q E s:=
 yl I hN hi hx r (fun s' I' _=>h s' I') hf
theorem Inv.call' {s' :Shared} {ch:List Addr} (I:Inv X pins σ H s) (ho:s'.os=s.os) (u:Un (frs X.stack) ch H H' s.heap s'.heap) (hok:HOk X.prog X.w H' s'.heap) (hg:AllBare s'.gens)
  (hch:∀ b∈ch,(b∈X.ex\/X.s₀.heap.objs.size<=b)/\b ≠ X.env.locals/\(∀ x c,X.env.cells.lookup x=some c->c ≠ b)/\∀ p∈X.pn++pins,p.1 ≠ b):Inv X pins σ H' s' :=by
 obtain ⟨h',g',d',t',o'⟩:=s'
 have e:o' =s.os:=ho
 subst e
 exact I.call (g' :=g') (t' :=t') (d' :=d') u hok hg hch
end
noncomputable abbrev XK:=Value->Option Addr->Hp->Prop
noncomputable abbrev St:=List (Option V)
noncomputable abbrev VK:=V->Hp->Prop
noncomputable abbrev TE:=St->Hp->VK->Prop
noncomputable abbrev TT:=St->Hp->(Bool->Hp->Prop)->Prop
noncomputable abbrev TA:=St->Hp->(List V->Hp->Prop)->Prop
structure Vs where
 nx:St->Hp->Prop
 rt:VK
 bk:St->Hp->Prop:=fun _ _=>False
 ct:St->Hp->Prop:=fun _ _=>False
noncomputable abbrev TS:=Vs->St->Hp->Prop
noncomputable def EP (X:Cx) (pins:List (Addr×Obj)) (σ:St) (Q:VK) (u:Value) (s' :Shared):Prop:=∃ v H',Inv X pins σ H' s' /\jf v u/\Q v H'
noncomputable def TP (X:Cx) (pins:List (Addr×Obj)) (σ:St) (Q:Bool->Hp->Prop) (b:Bool) (s' :Shared):Prop:=∃ H',Inv X pins σ H' s' /\Q b H'
noncomputable def AP (X:Cx) (pins:List (Addr×Obj)) (σ:St) (Q:List V->Hp->Prop) (us:List Value) (s' :Shared):Prop:=∃ vs H',Inv X pins σ H' s' /\ZY vs us/\Q vs H'
noncomputable def SP (X:Cx) (pins:List (Addr×Obj)) (D:Vs) (f:Flow) (s' :Shared):Prop:=
 match f with
 | .next=>∃ σ' H',Inv X pins σ' H' s' /\D.nx σ' H'
 | .brk=>∃ σ' H',Inv X pins σ' H' s' /\D.bk σ' H'
 | .cont=>∃ σ' H',Inv X pins σ' H' s' /\D.ct σ' H'
 | .ret u=>∃ v σ' H',Inv X pins σ' H' s' /\jf v u/\D.rt v H'
noncomputable def PE (X:Cx) (e:Expr) (t:TE):Prop:=
 ∀ (pins:List (Addr×Obj)) (s:Shared) (σ:St) (H:Hp) (Q:VK),Inv X pins σ H s->t σ H Q->wpAny (model X.prog X.w) X.A (eval e X.env) (EP X pins σ Q) X.xe s
noncomputable def PT (X:Cx) (e:Expr) (t:TT):Prop:=
 ∀ (pins:List (Addr×Obj)) (s:Shared) (σ:St) (H:Hp) (Q:Bool->Hp->Prop),Inv X pins σ H s->t σ H Q->wpAny (model X.prog X.w) X.A (isTrue e X.env (eval e X.env)) (TP X pins σ Q) X.xe s
noncomputable def PW (X:Cx) (e:Expr) (t:TT):Prop:=
 ∀ (whole:Sem Value) (pins:List (Addr×Obj)) (s:Shared) (σ:St) (H:Hp) (Q:Bool->Hp->Prop),Inv X pins σ H s->t σ H Q->wpAny (model X.prog X.w) X.A (isTrue e X.env whole) (TP X pins σ Q) X.xe s
theorem PW.pt {X:Cx} {e:Expr} {t:TT} (h:PW X e t):PT X e t:=h _
noncomputable def PA (X:Cx) (es:List Expr) (t:TA):Prop:=
 ∀ (pos:Pos) (pins:List (Addr×Obj)) (s:Shared) (σ:St) (H:Hp) (Q:List V->Hp->Prop),Inv X pins σ H s->t σ H Q->wpAny (model X.prog X.w) X.A (spliced (backTo pos (starEach es X.env))) (AP X pins σ Q) X.xe s
noncomputable def PS (X:Cx) (st:Stmt) (t:TS):Prop:=
 ∀ (pins:List (Addr×Obj)) (s:Shared) (σ:St) (H:Hp) (D:Vs),Inv X pins σ H s->t D σ H->wpAny (model X.prog X.w) X.A (exec st X.env) (SP X pins D) X.xe s
noncomputable def PSs (X:Cx) (st:List Stmt) (t:TS):Prop:=
 ∀ (pins:List (Addr×Obj)) (s:Shared) (σ:St) (H:Hp) (D:Vs),Inv X pins σ H s->t D σ H->wpAny (model X.prog X.w) X.A (execs st X.env) (SP X pins D) X.xe s
theorem thn {α:Type} {t:Sem α} {Q Q' :α->Shared->Prop} {M:Model} {A:Around} {E:Value->Shared->Prop} {s:Shared} (h:wpAny M A t Q E s) (hQ:∀ a s,Q a s->Q' a s):wpAny M A t Q' E s:=wpAny_mono h hQ fun _ _ x=>x
end L2
namespace L2
open PySem PySem.Spec PyProof.Rows
section
variable {X:Cx}
theorem bin {a b:Expr} {ta tb:TE} (ha:PE X a ta) (hb:PE X b tb) {pins:List (Addr×Obj)} {s:Shared} {σ:St} {H:Hp} {R:V->V->Hp->Prop} (I:Inv X pins σ H s) (h:ta σ H fun x H1=>tb σ H1 fun y H2=>R x y H2)
  {α:Type} {Q:α->Shared->Prop} {f:Value->Value->Sem α}
  (hf:∀ v u s2 x y H2,Inv X pins σ H2 s2->jf x v->jf y u->R x y H2->wpAny (model X.prog X.w) X.A (f v u) Q X.xe s2):
  wpAny (model X.prog X.w) X.A (eval a X.env) (fun v s₁=>wpAny (model X.prog X.w) X.A (eval b X.env) (fun u s₂=>wpAny (model X.prog X.w) X.A (f v u) Q X.xe s₂) X.xe s₁) X.xe s:=by
 refine thn (ha pins s σ H _ I h) fun v s1 ⟨x,H1,I1,r1,q1⟩=> ?_
 refine thn (hb pins s1 σ H1 _ I1 q1) fun u s2 ⟨y,H2,I2,r2,q2⟩=> ?_
 exact hf v u s2 x y H2 I2 r1 r2 q2
noncomputable def Qu (i:Nat):TE:=fun σ H Q=>∃ v,σ[i]? =some (some v)/\Q v H
noncomputable def tC (v:V):TE:=fun _ H Q=>Q v H
theorem xG {i:Nat} {x:Str} {pos:Pos} (hN:X.N[i]? =some x) (hv:Vis X.env.scope x) (hd:(x == ("__debug__":Str))=false:=by decide) (hcd:(x == ("__classdict__":Str))=false:=by decide):PE X (.Name x pos) (Qu i):=by
 intro pins s σ H Q I h
 obtain ⟨v,e,h⟩:=h
 obtain ⟨m,hn,hl⟩:=I.loc
 obtain ⟨u,r,l⟩:=hl i x v hN e hv
 have fin:EP X pins σ Q u s:=⟨v,H,I,r,h⟩
 rcases l with ⟨hk,hm⟩ | ⟨hk,c,hc,hcell⟩
 ·exact wpAny_Name (wpAny_loadName_local I.ok.kind hk hn hm fin) hd
 ·rcases hk with hk | hk
  ·exact wpAny_Name (wpAny_loadName_cell I.ok.kind hk hc hcell fin) hd
  ·exact wpAny_Name (wpAny_loadName_free I.ok.kind hk hc hcell fin hcd) hd
theorem K9 {i j pos}:PE X (.Constant (.int i) j pos) (tC (.int i)):=fun _ _ _ H _ I h=>wpAny_Constant_int ⟨.int i,H,I.tok _,⟨_,rfl⟩,h⟩
theorem Ge {b j pos}:PE X (.Constant (.bool b) j pos) (tC (.bl b)):=fun _ _ _ H _ I h=>Constant_bool ⟨.bl b,H,I,rfl,h⟩
theorem xH {j pos}:PE X (.Constant .none j pos) (tC .non):=fun _ _ _ H _ I h=>Constant_none ⟨.non,H,I,rfl,h⟩
theorem xI {x j pos}:PE X (.Constant (.str x) j pos) (tC (.str x)):=fun _ _ _ H _ I h=>Calls.Constant_str ⟨.str x,H,I.tok _,⟨_,rfl⟩,h⟩
noncomputable def Gl (X:Cx) (x:Str):Prop:=X.env.kindOf x=some .globalImplicit
theorem UC {E:Value->Shared->Prop} {pins:List (Addr×Obj)} {s:Shared} {σ:St} {H:Hp} {x:Str} {u:Value} {pos:Pos} {Q:Value->Shared->Prop} (I:Inv X pins σ H s) (hg:Gl X x) (hm:X.mg x=some u) (h:Q u s)
  (hd:(x == ("__debug__":Str))=false:=by decide):wpAny (model X.prog X.w) X.A (eval (.Name x pos) X.env) Q E s:=
 Calls.Name_function_global I.ok.kind hg (Calls.loadGlobal_global (by rw [I.ok.glob]; exact I.mod.glob.keeps I.bk) hm h) hd
theorem uj {E:Value->Shared->Prop} {pins:List (Addr×Obj)} {s:Shared} {σ:St} {H:Hp} {x:Str} {u:Value} {pos:Pos} {Q:Value->Shared->Prop} (I:Inv X pins σ H s) (hg:Gl X x) (hm:X.mg x=none) (hv:bootBuiltins x=some u) (h:Q u s)
  (hn:x ≠ "__name__":=by decide) (hd:(x == ("__debug__":Str))=false:=by decide):wpAny (model X.prog X.w) X.A (eval (.Name x pos) X.env) Q E s:=by
 obtain ⟨mb,h1,h2⟩:=I.mod.blt
 exact Calls.Name_function_global I.ok.kind hg (Calls.loadGlobal_builtin (by rw [I.ok.glob]; exact I.mod.glob.keeps I.bk) hm (by rw [I.ok.blt]; exact h1.keeps I.bk) ((h2 x hn).trans hv) h) hd
theorem Qv {x:Str} {v:V} {u:Value} {pos:Pos} (hg:Gl X x) (hm:X.mg x=some u) (r:jf v u) (hd:(x == ("__debug__":Str))=false:=by decide):PE X (.Name x pos) (tC v):=
 fun _ _ _ H _ I h=>UC I hg hm ⟨v,H,I,r,h⟩ hd
theorem Qw {x:Str} {v:V} {u:Value} {pos:Pos} (hg:Gl X x) (hm:X.mg x=none) (hv:bootBuiltins x=some u) (r:jf v u) (hn:x ≠ "__name__":=by decide) (hd:(x == ("__debug__":Str))=false:=by decide):PE X (.Name x pos) (tC v):=
 fun _ _ _ H _ I h=>uj I hg hm hv ⟨v,H,I,r,h⟩ hn hd
variable {a b:Expr} {ta tb:TE} {pos:Pos}
variable {tA tB' :TT} {rest:List Expr}
noncomputable def tAnd (t u:TT):TT:=fun σ H Q=>t σ H fun c H1=>if c=true then u σ H1 Q else Q false H1
noncomputable def tOr (t u:TT):TT:=fun σ H Q=>t σ H fun c H1=>if c=true then Q true H1 else u σ H1 Q
noncomputable def tNot (t:TT):TT:=fun σ H Q=>t σ H fun c H1=>Q (!c) H1
theorem Xf (ha:PT X a tA):PW X (.BoolOp .And [a] pos) tA:=by
 intro wh pins s σ H Q I h
 refine isTrue_and (thn (ha pins s σ H Q I h) fun c s1 e=> ?_)
 cases c with
 | true=>exact isTrue_and_nil e
 | false=>exact e
theorem Ka (ha:PT X a tA):PW X (.BoolOp .Or [a] pos) tA:=by
 intro wh pins s σ H Q I h
 refine isTrue_or (thn (ha pins s σ H Q I h) fun c s1 e=> ?_)
 cases c with
 | false=>exact isTrue_or_nil e
 | true=>exact e
theorem Kb (ha:PT X a tA) (hb:PW X (.BoolOp .And (b :: rest) pos) tB'):PW X (.BoolOp .And (a :: b :: rest) pos) (tAnd tA tB'):=by
 intro wh pins s σ H Q I h
 refine isTrue_and (thn (ha pins s σ H _ I h) fun c s1 ⟨H1,I1,q1⟩=> ?_)
 cases c with
 | true=>exact hb wh pins s1 σ H1 Q I1 q1
 | false=>exact ⟨H1,I1,q1⟩
theorem Gf (ha:PT X a tA) (hb:PW X (.BoolOp .Or (b :: rest) pos) tB'):PW X (.BoolOp .Or (a :: b :: rest) pos) (tOr tA tB'):=by
 intro wh pins s σ H Q I h
 refine isTrue_or (thn (ha pins s σ H _ I h) fun c s1 ⟨H1,I1,q1⟩=> ?_)
 cases c with
 | true=>exact ⟨H1,I1,q1⟩
 | false=>exact hb wh pins s1 σ H1 Q I1 q1
theorem Kc (ha:PT X a tA):PT X (.UnaryOp .Not a pos) (tNot tA):=by
 intro pins s σ H Q I h
 exact isTrue_not (ha pins s σ H (fun c H1=>Q (!c) H1) I h)
noncomputable def Gg (ta tb:TE):TE:=fun σ H Q=>ta σ H fun x H1=>∃ c,x= .bl c/\if c=true then tb σ H1 Q else Q (.bl false) H1
noncomputable def tOrV (ta tb:TE):TE:=fun σ H Q=>ta σ H fun x H1=>∃ c,x= .bl c/\if c=true then Q (.bl true) H1 else tb σ H1 Q
noncomputable def Gh (ta:TE):TE:=fun σ H Q=>ta σ H fun x H1=>∃ c,x= .bl c/\Q (.bl (!c)) H1
theorem Ke {op} {t:TE} (h:PE X a t):PE X (.BoolOp op [a] pos) t:=fun pins s σ H Q I hw=>BoolOp_one (h pins s σ H Q I hw)
theorem Kf (ha:PE X a ta) (hb:PE X (.BoolOp .And (b :: rest) pos) tb):PE X (.BoolOp .And (a :: b :: rest) pos) (Gg ta tb):=by
 intro pins s σ H Q I h
 refine BoolOp_and (thn (ha pins s σ H _ I h) fun v s1 ⟨x,H1,I1,r1,q1⟩=> ?_)
 obtain ⟨c,rfl,q1⟩:=q1
 cases r1
 refine wpAny_truthy_bool ?_
 cases c with
 | true=>exact hb pins s1 σ H1 Q I1 q1
 | false=>exact ⟨.bl false,H1,I1,rfl,q1⟩
theorem Gi (ha:PE X a ta) (hb:PE X (.BoolOp .Or (b :: rest) pos) tb):PE X (.BoolOp .Or (a :: b :: rest) pos) (tOrV ta tb):=by
 intro pins s σ H Q I h
 refine BoolOp_or (thn (ha pins s σ H _ I h) fun v s1 ⟨x,H1,I1,r1,q1⟩=> ?_)
 obtain ⟨c,rfl,q1⟩:=q1
 cases r1
 refine wpAny_truthy_bool ?_
 cases c with
 | false=>exact hb pins s1 σ H1 Q I1 q1
 | true=>exact ⟨.bl true,H1,I1,rfl,q1⟩
theorem Kg (ha:PE X a ta):PE X (.UnaryOp .Not a pos) (Gh ta):=by
 intro pins s σ H Q I h
 refine UnaryOp_ (thn (ha pins s σ H _ I h) fun v s1 ⟨x,H1,I1,r1,q1⟩=> ?_)
 obtain ⟨c,rfl,q1⟩:=q1
 cases r1
 exact not_of (wpAny_truthy_bool ⟨.bl (!c),H1,I1,rfl,q1⟩)
noncomputable def tIf (t:TT) (ta tb:TE):TE:=fun σ H Q=>t σ H fun c H1=>if c=true then ta σ H1 Q else tb σ H1 Q
theorem Vt {c:Expr} (hc:PT X c tA) (ha:PE X a ta) (hb:PE X b tb):PE X (.IfExp c a b pos) (tIf tA ta tb):=by
 intro pins s σ H Q I h
 refine wpAny_IfExp (thn (hc pins s σ H _ I h) fun d s1 ⟨H1,I1,q1⟩=> ?_)
 cases d with
 | true=>exact ha pins s1 σ H1 Q I1 q1
 | false=>exact hb pins s1 σ H1 Q I1 q1
end
end L2
namespace L2
open PySem PySem.Spec PyProof.Rows
noncomputable def SqL (K:PySem.W.Frag) (H:Hp) (a:Addr) (xs:List V):Prop:=
 Rd H a (.lst xs)\/
  ∃ (o:Obj) (its:Array Value) (n:Nat),K.lookup a=some o/\o.cls= .type "list"/\o.dict=none/\o.data= .seq its n/\its.size<=sizeLine/\ZY xs its.toList
noncomputable def SqT (K:PySem.W.Frag) (H:Hp) (a:Addr) (xs:List V):Prop:=
 Rd H a (.tup xs)\/
  ∃ (o:Obj) (its:Array Value) (n:Nat),K.lookup a=some o/\o.cls= .type "tuple"/\o.data= .seq its n/\its.size<=sizeLine/\ZY xs its.toList
noncomputable def absV:Value->Option V
 | .none=>some .non
 | .bool b=>some (.bl b)
 | .int i _=>some (.int i)
 | .str x _=>some (.str x)
 | .bytes b _=>some (.byt b)
 | .float b _=>some (.flt b)
 | .ref a=>some (.ref a)
 | .type n=>some (.ty n)
 | _=>none
theorem jf.abs {x:V} {u:Value} (r:jf x u):absV u=some x:=by
 cases x with
 | non=>cases r; rfl
 | bl _=>cases r; rfl
 | int _=>obtain ⟨t,rfl⟩:=r; rfl
 | str _=>obtain ⟨t,rfl⟩:=r; rfl
 | byt _=>obtain ⟨t,rfl⟩:=r; rfl
 | flt _=>obtain ⟨t,rfl⟩:=r; rfl
 | ref _=>cases r; rfl
 | ty _=>cases r; rfl
theorem jf.inj {x y:V} {u:Value} (r:jf x u) (q:jf y u):x=y:=Option.some.inj (r.abs.symm.trans q.abs)
theorem ZY.inj:∀ {xs ys:List V} {us:List Value},ZY xs us->ZY ys us->xs=ys
 | _,_,_, .nil, .nil=>rfl
 | _,_,_, .cons r t, .cons r' t' =>by rw [r.inj r',ZY.inj t t']
section
variable {X:Cx} {pins:List (Addr×Obj)} {σ:St} {H:Hp} {s:Shared} {a:Addr} {xs ys:List V}
theorem SqL.of {K:PySem.W.Frag} (h:H a=some (.lst xs)):SqL K H a xs:= .inl (.inl h)
theorem SqT.of {K:PySem.W.Frag} (h:H a=some (.tup xs)):SqT K H a xs:= .inl (.inl h)
theorem Inv.list (I:Inv X pins σ H s) (h:SqL X.K H a xs):∃ its:List Value,ZY xs its/\PlainL s.heap a its.toArray/\xs.length<=sizeLine:=by
 rcases h with h | ⟨o,its,n,hk,hc,hd,hs,hz,r⟩
 ·obtain ⟨z,its,n,r,e⟩:=h.ok I.hok
  exact ⟨its,r,⟨_,n,e,rfl,rfl,rfl⟩,z⟩
 ·refine ⟨its.toList,r,⟨o,n,I.kIn a o hk,hc,hd,by simpa using hs⟩, ?_⟩
  have e:=r.length
  simp only [Array.length_toList] at e
  omega
theorem Inv.tuple (I:Inv X pins σ H s) (h:SqT X.K H a xs):∃ its:List Value,ZY xs its/\IsTup s.heap a its.toArray/\xs.length<=sizeLine:=by
 rcases h with h | ⟨o,its,n,hk,hc,hs,hz,r⟩
 ·obtain ⟨z,its,r,p⟩:=h.ok I.hok
  exact ⟨its,r,p,z⟩
 ·refine ⟨its.toList,r,⟨o,I.kIn a o hk,hc,n,by simpa using hs⟩, ?_⟩
  have e:=r.length
  simp only [Array.length_toList] at e
  omega
theorem Inv.list_inj (I:Inv X pins σ H s) (h:SqL X.K H a xs) (h' :SqL X.K H a ys):xs=ys:=by
 obtain ⟨its,r,⟨o,n,e,_,_,d⟩,_⟩:=I.list h
 obtain ⟨its',r',⟨o',n',e',_,_,d'⟩,_⟩:=I.list h'
 rw [e] at e'; cases e'
 rw [d] at d'
 injection d' with d1 _
 have:its=its' :=by simpa using congrArg Array.toList d1
 subst this
 exact r.inj r'
theorem Inv.tuple_inj (I:Inv X pins σ H s) (h:SqT X.K H a xs) (h' :SqT X.K H a ys):xs=ys:=by
 obtain ⟨its,r,⟨o,e,_,n,d⟩,_⟩:=I.tuple h
 obtain ⟨its',r',⟨o',e',_,n',d'⟩,_⟩:=I.tuple h'
 rw [e] at e'; cases e'
 rw [d] at d'
 injection d' with d1 _
 have:its=its' :=by simpa using congrArg Array.toList d1
 subst this
 exact r.inj r'
end
noncomputable abbrev Cx.wish (X:Cx) (E:Value->Shared->Prop):Cx:={ X with xe:=E }
noncomputable abbrev Cx.nox (X:Cx):Cx:=X.wish fun _ _=>False
theorem Cx.Ok.wish {X:Cx} (ok:X.Ok) (E:Value->Shared->Prop):(X.wish E).Ok:=
 ⟨ok.mod,ok.kind,ok.glob,ok.blt,ok.above,ok.inj,ok.has,ok.cab,ok.hd,ok.frames,ok.stk,ok.exf,ok.bs,ok.bsz,ok.noex,ok.exfs,ok.funs,ok.frf⟩
theorem Cx.Ok.unwish {X:Cx} {E:Value->Shared->Prop} (ok:(X.wish E).Ok):X.Ok:=
 ⟨ok.mod,ok.kind,ok.glob,ok.blt,ok.above,ok.inj,ok.has,ok.cab,ok.hd,ok.frames,ok.stk,ok.exf,ok.bs,ok.bsz,ok.noex,ok.exfs,ok.funs,ok.frf⟩
section
variable {X:Cx} {pins:List (Addr×Obj)} {σ:St} {H:Hp} {s:Shared} {E:Value->Shared->Prop}
theorem Inv.wish (I:Inv X pins σ H s) (E:Value->Shared->Prop):Inv (X.wish E) pins σ H s:=⟨I.ok.wish E,I.os,I.bare,I.base,I.loc,I.cell,I.free,I.freeC,I.pin,I.hok,I.len⟩
theorem Inv.unwish (I:Inv (X.wish E) pins σ H s):Inv X pins σ H s:=⟨I.ok.unwish,I.os,I.bare,I.base,I.loc,I.cell,I.free,I.freeC,I.pin,I.hok,I.len⟩
theorem SP.unwish {D:Vs} {f:Flow} {s' :Shared} (h:SP (X.wish E) pins D f s'):SP X pins D f s' :=by
 cases f with
 | next=>obtain ⟨σ',H',I,q⟩:=h; exact ⟨σ',H',I.unwish,q⟩
 | brk=>obtain ⟨σ',H',I,q⟩:=h; exact ⟨σ',H',I.unwish,q⟩
 | cont=>obtain ⟨σ',H',I,q⟩:=h; exact ⟨σ',H',I.unwish,q⟩
 | ret u=>obtain ⟨v,σ',H',I,r,q⟩:=h; exact ⟨v,σ',H',I.unwish,r,q⟩
theorem PSs.nox {st:List Stmt} {t:TS} (h:PSs X.nox st t):PSs X st t:=fun pins s σ H D I hw=>
 wpAny_mono (h pins s σ H D (I.wish _) hw) (fun _ _ q=>q.unwish) fun _ _ z=>False.elim z
end
section
variable {X:Cx} {st:Stmt} {rest:List Stmt} {t u:TS} {e:Expr} {te:TE} {pos:Pos}
noncomputable def Gj:TS:=fun D σ H=>D.nx σ H
noncomputable def tSeq (t u:TS):TS:=fun D σ H=>t { D with nx:=u D } σ H
theorem Xg:PSs X [] Gj:=fun _ _ σ H _ I h=>wpAny_execs_nil ⟨σ,H,I,h⟩
theorem Vu (h1:PS X st t) (h2:PSs X rest u):PSs X (st :: rest) (tSeq t u):=by
 intro pins s σ H D I h
 refine wpAny_execs_cons (thn (h1 pins s σ H { D with nx:=u D } I h) fun f s1 q=> ?_)
 cases f with
 | next=>
  obtain ⟨σ',H',I',q⟩:=q
  exact h2 pins s1 σ' H' D I' q
 | ret v=>exact q
 | brk=>exact q
 | cont=>exact q
theorem Qx (h1:PS X st t):PSs X [st] t:=by
 intro pins s σ H D I h
 refine wpAny_execs_cons (thn (h1 pins s σ H D I h) fun f s1 q=> ?_)
 cases f with
 | next=>exact wpAny_execs_nil q
 | ret v=>exact q
 | brk=>exact q
 | cont=>exact q
theorem Inv.quiet {pins:List (Addr×Obj)} {σ:St} {H:Hp} {s:Shared} (I:Inv X pins σ H s):interactive X.env=false:=by simp [interactive,I.ok.kind]
noncomputable def Gk (te:TE):TS:=fun D σ H=>te σ H fun _ H1=>D.nx σ H1
theorem Ys (he:PE X e te) (hs:swapsWith e none pos.line X.env=pure false:=by rfl):PS X (.Expr e pos) (Gk te):=by
 intro pins s σ H D I h
 exact wpAny_Expr_any (thn (he pins s σ H _ I h) fun v s1 ⟨x,H1,I1,r1,q1⟩=>⟨σ,H1,I1,q1⟩) I.quiet hs
noncomputable def tRet (te:TE):TS:=fun D σ H=>te σ H D.rt
theorem Kh (he:PE X e te):PS X (.Return (some e) pos) (tRet te):=by
 intro pins s σ H D I h
 exact wpAny_Return_some (thn (he pins s σ H _ I h) fun v s1 ⟨x,H1,I1,r1,q1⟩=>⟨x,σ,H1,I1,r1,q1⟩)
noncomputable def tIfS (c:TT) (t u:TS):TS:=fun D σ H=>c σ H fun b H1=>if b=true then t D σ H1 else u D σ H1
theorem Gm {c:Expr} {a b:List Stmt} {tc:TT} (hc:PT X c tc) (ha:PSs X a t) (hb:PSs X b u):PS X (.If c a b pos) (tIfS tc t u):=by
 intro pins s σ H D I h
 refine wpAny_If (thn (hc pins s σ H _ I h) fun d s1 ⟨H1,I1,q1⟩=> ?_)
 cases d with
 | true=>exact ha pins s1 σ H1 D I1 q1
 | false=>exact hb pins s1 σ H1 D I1 q1
end
noncomputable abbrev TG:=V->St->Hp->(St->Hp->Prop)->Prop
noncomputable abbrev TGs:=List V->St->Hp->(St->Hp->Prop)->Prop
noncomputable def PG (X:Cx) (target:Expr) (t:TG):Prop:=
 ∀ (pins:List (Addr×Obj)) (s:Shared) (σ:St) (H:Hp) (v:V) (u:Value) (Q:St->Hp->Prop),Inv X pins σ H s->jf v u->t v σ H Q->
  wpAny (model X.prog X.w) X.A (assign target X.env u) (fun _ s' =>∃ σ' H',Inv X pins σ' H' s' /\Q σ' H') X.xe s
noncomputable def PGs (X:Cx) (ts:List Expr) (t:TGs):Prop:=
 ∀ (pins:List (Addr×Obj)) (s:Shared) (σ:St) (H:Hp) (vs:List V) (us:List Value) (Q:St->Hp->Prop),Inv X pins σ H s->ZY vs us->t vs σ H Q->
  wpAny (model X.prog X.w) X.A (assignInOrder ((assignEach ts X.env).map (·.2)) us) (fun _ s' =>∃ σ' H',Inv X pins σ' H' s' /\Q σ' H') X.xe s
section
variable {X:Cx} {pos:Pos}
noncomputable def qP (i:Nat):TG:=fun v σ H Q=>Q (σ.set i (some v)) H
theorem zP {i:Nat} {x:Str} (hN:X.N.Nodup) (hi:X.N[i]? =some x) (hx:Loc X.env.scope x) (hf:X.fn x=true\/X.env.scope.names.lookup x=some .local:=by first | exact .inl rfl | exact .inr rfl | assumption):PG X (.Name x pos) (qP i):=by
 intro pins s σ H v u Q I r h
 exact wpAny_assign_Name (Wa I hN hi hx r (fun s' I' =>⟨_,H,I',h⟩) hf)
noncomputable def gNil:TGs:=fun vs σ H Q=>vs=[]/\Q σ H
noncomputable def Xh (t:TG) (u:TGs):TGs:=fun vs σ H Q=>∃ v r,vs=v :: r/\t v σ H fun σ' H' =>u r σ' H' Q
theorem UD:PGs X [] gNil:=by
 intro pins s σ H vs us Q I r h
 obtain ⟨e,h⟩:=h
 subst e
 cases r
 exact assignInOrder_nil ⟨σ,H,I,h⟩
theorem Jn {e:Expr} {es:List Expr} {t:TG} {u:TGs} (h1:PG X e t) (h2:PGs X es u)
  (hs:(assignEach (e :: es) X.env).map (·.2)=assign e X.env :: (assignEach es X.env).map (·.2):=by rfl):PGs X (e :: es) (Xh t u):=by
 intro pins s σ H vs us Q I r h
 obtain ⟨v,vr,e1,h⟩:=h
 subst e1
 cases r with
 | cons r rr=>
  rw [hs]
  refine assignInOrder_cons (thn (h1 pins s σ H _ _ _ I r h) fun _ s1 ⟨σ1,H1,I1,q1⟩=> ?_)
  exact h2 pins s1 σ1 H1 _ _ Q I1 rr q1
noncomputable def gTup (K:PySem.W.Frag) (n:Nat) (t:TGs):TG:=fun v σ H Q=>∃ a xs,v= .ref a/\SqT K H a xs/\xs.length=n/\t xs σ H Q
theorem qj {es:List Expr} {k:Nat} {t:TGs} {n:Nat} (hc:X.calm=true) (h:PGs X es t)
  (hn:(assignEach es X.env).length=n:=by rfl) (hst:(assignEach es X.env).findIdx? (·.1)=none:=by rfl):PG X (.Tuple es k pos) (gTup X.K n t):=by
 intro pins s σ H v u Q I r hw
 obtain ⟨a,xs,e1,hq,hl,hw⟩:=hw
 subst e1
 cases r
 obtain ⟨its,rv,ht,hz⟩:=I.tuple hq
 refine assign_Tuple_tuple (I.ok.hd hc) ht (by simp [hn,← hl,rv.length]) hst fun h' hx=> ?_
 have I1:Inv X pins σ H { s with heap:=h' }:=I.kept (t' :=s.toks) fun b o e=>hx b o (Nat.ne_of_lt (Heap.lt_size e)) e
 exact h pins _ σ H xs _ Q I1 (by simpa using rv) hw
noncomputable def tAsg (te:TE) (g:TG):TS:=fun D σ H=>te σ H fun x H1=>g x σ H1 D.nx
theorem qk {i:Nat} {x:Str} {e:Expr} {te:TE} {pos' :Pos} (hN:X.N.Nodup) (hi:X.N[i]? =some x) (hx:Loc X.env.scope x) (he:PE X e te) (hs:swapsWith e (some (.Name x pos')) pos.line X.env=pure false:=by rfl) (hf:X.fn x=true\/X.env.scope.names.lookup x=some .local:=by first | exact .inl rfl | exact .inr rfl | assumption):
  PS X (.Assign [.Name x pos'] e pos) (tAsg te (qP i)):=by
 intro pins s σ H D I h
 refine wpAny_Assign_Name (thn (he pins s σ H _ I h) fun v s1 ⟨y,H1,I1,r1,q1⟩=> ?_) hs
 exact Wa I1 hN hi hx r1 (fun s2 I2=>⟨_,H1,I2,q1⟩) hf
noncomputable def tPar (i j:Nat) (ta:TA):TS:=fun D σ H=>ta σ H fun vs H1=>∃ v w,vs=[v,w]/\D.nx ((σ.set i (some v)).set j (some w)) H1
theorem Ki {i j:Nat} {x y:Str} {a b:Expr} {ta:TA} {px py pt:Pos} {kt k2 pt2} (hc:X.calm=true) (hN:X.N.Nodup) (hi:X.N[i]? =some x) (hj:X.N[j]? =some y) (hij:i ≠ j)
  (hx:X.env.scope.names.lookup x=some .local) (hy:X.env.scope.names.lookup y=some .local) (ha:PA X [a,b] ta)
  (hw:swappedStores [.Tuple [.Name x px, .Name y py] kt pt] (.Tuple [a,b] k2 pt2) X.env=pure (some [x,y]))
  (hs:swapsWithSole [.Tuple [.Name x px, .Name y py] kt pt] (.Tuple [a,b] k2 pt2) pos.line X.env=pure false:=by rfl):
  PS X (.Assign [.Tuple [.Name x px, .Name y py] kt pt] (.Tuple [a,b] k2 pt2) pos) (tPar i j ta):=by
 intro pins s σ H D I h
 rw [exec_Assign_arm]
 refine wpAny_bind (wpAny_standAt ?_)
 rw [hs]
 refine wpAny_bind (wpAny_pure ?_)
 rw [if_neg (by decide)]
 refine wpAny_bind (Tuple_ (thn (ha _ pins s σ H _ I h) fun us s1 ⟨vs,H1,I1,r1,q1⟩=> ?_))
 obtain ⟨v,w,e1,q1⟩:=q1
 subst e1
 obtain ⟨u1,u2,rfl,rv,rw'⟩:∃ u1 u2,us=[u1,u2]/\jf v u1/\jf w u2:=by
  cases r1 with
  | cons p q=>
   cases q with
   | cons p' q' =>
    cases q'
    exact ⟨_,_,rfl,p,p'⟩
 refine wpAny_newObj_type ?_ (by show 2<=sizeLine; decide)
 have I2:Inv X pins σ H1 { s1 with heap:=s1.heap.push { cls:= .type "tuple",data:= .seq [u1,u2].toArray } }:=I1.kept (t' :=s1.toks) fun b o e=>Heap.get?_push_of_some _ e
 rw [hw]
 refine wpAny_bind (wpAny_pure ?_)
 show wpAny (model X.prog X.w) X.A (do rule "assign.swapped-stores"; let items ← unpackItems (.ref s1.heap.objs.size) 2 none; assignInOrder [fun v=>bindName X.env y v,fun v=>bindName X.env x v] items.reverse; pure Flow.next) _ _ _
 refine wpAny_bind (wpAny_rule (wpAny_bind (unpackItems_tuple (items:= #[u1,u2]) (I.ok.hd hc) (IsTup.new s1.heap _) fun h' hx' => ?_)))
 have I3:=I2.kept (h' :=h') (t' :=s1.toks) fun b o e=>hx' b o (Nat.ne_of_lt (Heap.lt_size e)) e
 show wpAny _ _ (assignInOrder [fun v=>bindName X.env y v,fun v=>bindName X.env x v] [u2,u1] >>= fun _=>pure Flow.next) _ _ _
 refine wpAny_bind (assignInOrder_cons (wpAny_bindName (Wa I3 hN hj (.inl hy) rw' (fun s2 I4=> ?_) (.inr hy))))
 refine assignInOrder_cons (wpAny_bindName (Wa I4 hN hi (.inl hx) rv (fun s3 I5=>assignInOrder_nil (wpAny_pure ?_)) (.inr hx)))
 rw [List.set_comm _ _ (Ne.symm hij)] at I5
 exact ⟨_,H1,I5,q1⟩
end
section
variable {X:Cx} {pos:Pos}
end
structure It where
 go:Nat->Hp->Prop
 yld:Nat->Hp->V->Hp->Prop
 stop:Nat->Hp->Prop
noncomputable def Yt (X:Cx) (pins:List (Addr×Obj)) (H:Hp) (b:Addr):Prop:=
 H b=none/\b ≠ X.env.locals/\b ∉ X.fs/\(b∈X.ex\/X.s₀.heap.objs.size<=b)/\(∀ x c,X.env.cells.lookup x=some c->c ≠ b)/\∀ p∈X.pn++pins,p.1 ≠ b
theorem Inv.fpOk {X:Cx} {pins:List (Addr×Obj)} {σ:St} {H H' :Hp} {s:Shared} {b:Addr} (I:Inv X pins σ H s) (hb:s.heap.objs.size<=b) (hn:H' b=none):Yt X pins H' b:=by
 refine ⟨hn,Nat.ne_of_gt (Nat.lt_of_lt_of_le I.lt hb),I.nofs hb, .inr (Nat.le_trans I.sz hb),fun x c e z=> ?_,fun p hp z=> ?_⟩
 ·obtain ⟨v,q⟩:=I.cell x c e
  exact absurd (Nat.lt_of_lt_of_le q.lt (by rw [z]; exact hb)) (Nat.lt_irrefl _)
 ·exact absurd (Nat.lt_of_lt_of_le (Heap.lt_size (I.pin p hp).1) (by rw [z]; exact hb)) (Nat.lt_irrefl _)
structure Vv (P:Program) (w:World) (K:PySem.W.Frag) (tg:Expr) (J:It) (fp:List Addr) (it:Addr) (tn:Nat->Heap->Prop):Prop where
 mem:it∈fp
 obj:∀ i h,tn i h->∀ b∈fp,∃ o,h.get? b=some o/\∀ v,o.data ≠ .cell v
 keep:∀ i h h',tn i h->(∀ b∈fp,∀ o,h.get? b=some o->h'.get? b=some o)->tn i h'
 item:∀ (X:Cx),X.prog=P->X.w=w->X.K=K->X.calm=true->∀ (i:Nat) (pins:List (Addr×Obj)) (s:Shared) (σ:St) (H:Hp) (E:Value->Shared->Prop),Inv X pins σ H s->(∀ b∈fp,Yt X pins H b)->tn i s.heap->J.go i H->
  wpAny (model P w) X.A (pyNext (.ref it)) (fun r s1=>∃ u,r=some u/\
   wpAny (model P w) X.A (letOwnedTupleGo tg (.ref it) u) (fun _ s2=>∃ x H',Inv X pins σ H' s2/\jf x u/\J.yld i H x H' /\tn (i+1) s2.heap/\∀ b∈fp,H' b=none) E s1) E s
 done:∀ (X:Cx),X.prog=P->X.w=w->X.K=K->X.calm=true->∀ (i:Nat) (pins:List (Addr×Obj)) (s:Shared) (σ:St) (H:Hp) (E:Value->Shared->Prop),Inv X pins σ H s->(∀ b∈fp,Yt X pins H b)->tn i s.heap->J.stop i H->
  wpAny (model P w) X.A (pyNext (.ref it)) (fun r s1=>r=none/\Inv X pins σ H s1) E s
 self:∀ (A:Around) (i:Nat) (s:Shared) (Q:Value->Shared->Prop) (E:Value->Shared->Prop),tn i s.heap->Q (.ref it) s->wpAny (model P w) A (pyIter (.ref it)) Q E s
noncomputable abbrev TI:=St->Hp->(It->Hp->Prop)->Prop
noncomputable def PIE (X:Cx) (pins:List (Addr×Obj)) (σ:St) (tg:Expr) (R:It->Hp->Prop) (itv:Value) (s2:Shared):Prop:=
 ∃ (it:Addr) (fp:List Addr) (tn:Nat->Heap->Prop) (J:It) (H' :Hp),itv= .ref it/\Inv X pins σ H' s2/\Vv X.prog X.w X.K tg J fp it tn/\tn 0 s2.heap/\(∀ b∈fp,Yt X pins H' b)/\R J H'
noncomputable def PI (X:Cx) (tg iter:Expr) (wi:TI):Prop:=
 ∀ (pins:List (Addr×Obj)) (s:Shared) (σ:St) (H:Hp) (R:It->Hp->Prop),Inv X pins σ H s->wi σ H R->
  wpAny (model X.prog X.w) X.A (eval iter X.env) (fun v s1=>wpAny (model X.prog X.w) X.A (pyIter v) (PIE X pins σ tg R) X.xe s1) X.xe s
theorem Vw {M:Model} {A:Around} {E:Value->Shared->Prop} {s:Shared} {tg:Expr} {it:Addr} {u:Value} {o:Obj} {n:String} {vs:Array Value} {Q:Unit->Shared->Prop} (ho:s.heap.get? it=some o) (hc:o.cls= .type n) (hd:o.data= .fields vs)
  (hn:["enumerate","zip","dict_itemiterator","dict_reverseitemiterator","odict_iterator","itertools.zip_longest","itertools.pairwise"].contains n=false) (hQ:Q () s):wpAny M A (letOwnedTupleGo tg (.ref it) u) Q E s:=by
 unfold letOwnedTupleGo
 cases tg <;> first
  | exact wpAny_pure hQ
  | (cases u <;> first
    | exact wpAny_pure hQ
    | (refine wpAny_bind (wpAny_load ho ?_); rw [hc,hd]; show wpAny M A (if (["enumerate","zip","dict_itemiterator","dict_reverseitemiterator","odict_iterator","itertools.zip_longest","itertools.pairwise"].contains n && vs[0]? == some (rawInt _))=true then _ else _) Q E s; rw [if_neg (by intro h; rw [hn,Bool.false_and] at h; cases h)]; exact wpAny_pure hQ))
noncomputable def Itl (K:PySem.W.Frag) (a:Addr):It:=
 ⟨fun i H=>∃ xs x,SqL K H a xs/\xs[i]? =some x,fun i H x H' =>H' =H/\∀ xs,SqL K H a xs->xs[i]? =some x,fun i H=>∃ xs,SqL K H a xs/\xs.length<=i⟩
noncomputable def Itt (K:PySem.W.Frag) (a:Addr):It:=
 ⟨fun i H=>∃ xs x,SqT K H a xs/\xs[i]? =some x,fun i H x H' =>H' =H/\∀ xs,SqT K H a xs->xs[i]? =some x,fun i H=>∃ xs,SqT K H a xs/\xs.length<=i⟩
noncomputable def Itr (lo:Int) (n:Nat):It:=⟨fun i _=>i < n,fun i H x H' =>H' =H/\x= .int (lo+i),fun i _=>n<=i⟩
theorem Qy {P:Program} {w:World} {K:PySem.W.Frag} {tg:Expr} (a it:Addr):Vv P w K tg (Itl K a) [it] it (fun i h=>h.IsListIter it a i) where
 mem:=by simp
 obj:=fun i h st b hb=>by
  have e:b=it:=by simpa using hb
  subst e
  obtain ⟨o,e,c,d⟩:=st
  exact ⟨o,e,fun v z=>by rw [d] at z; cases z⟩
 keep:=fun i h h' st k=>st.at fun o e=>k it (by simp) o e
 item:=by
  intro X hP hw hK hc i pins s σ H E I hf st hg
  subst hP hw hK
  obtain ⟨xs,x,hq,hx⟩:=hg
  obtain ⟨its,rv,p,hz⟩:=I.list hq
  obtain ⟨u,hu,ru⟩:=rv.get hx
  obtain ⟨f0,f1,f2,f3,f4,f5⟩:=hf it (by simp)
  refine wpAny_pyNext_list_item st p.isList (x:=u) (by simpa using hu) fun h' st' sb=> ?_
  have I1:Inv X pins σ H { s with heap:=h' }:=I.turned (t' :=s.toks) (fun b o hb e=>(sb.2 b hb).trans e) f0 f1 f3 f4 f5
  obtain ⟨o,e,c,d⟩:=id st'
  exact ⟨u,rfl,Vw (s:={ s with heap:=h' }) e c d (by decide) ⟨x,H,I1,ru,⟨rfl,fun ys hy=>by rw [I.list_inj hy hq]; exact hx⟩,st',fun b hb=>(hf b hb).1⟩⟩
 done:=by
  intro X hP hw hK hc i pins s σ H E I hf st hg
  subst hP hw hK
  obtain ⟨xs,hq,hx⟩:=hg
  obtain ⟨its,rv,p,hz⟩:=I.list hq
  obtain ⟨f0,f1,f2,f3,f4,f5⟩:=hf it (by simp)
  have hl:=rv.length
  exact wpAny_pyNext_list_end (I.ok.hd hc) st p.isList (by simp; omega) fun h' eb=>⟨rfl,I.turned (t' :=s.toks) (fun b o hb e=>eb b o hb e) f0 f1 f3 f4 f5⟩
 self:=fun _ _ _ _ _ st h=>wpAny_pyIter_listiter st h
theorem qQ {P:Program} {w:World} {K:PySem.W.Frag} {tg:Expr} (a it:Addr):Vv P w K tg (Itt K a) [it] it (fun i h=>h.IsTupleIter it a i) where
 mem:=by simp
 obj:=fun i h st b hb=>by
  have e:b=it:=by simpa using hb
  subst e
  obtain ⟨o,e,c,d⟩:=st
  exact ⟨o,e,fun v z=>by rw [d] at z; cases z⟩
 keep:=fun i h h' st k=>st.at fun o e=>k it (by simp) o e
 item:=by
  intro X hP hw hK hc i pins s σ H E I hf st hg
  subst hP hw hK
  obtain ⟨xs,x,hq,hx⟩:=hg
  obtain ⟨its,rv,p,hz⟩:=I.tuple hq
  obtain ⟨u,hu,ru⟩:=rv.get hx
  obtain ⟨f0,f1,f2,f3,f4,f5⟩:=hf it (by simp)
  refine wpAny_pyNext_tuple_item st (show s.heap.IsTuple a its.toArray from p) (x:=u) (by simpa using hu) fun h' st' sb=> ?_
  have I1:Inv X pins σ H { s with heap:=h' }:=I.turned (t' :=s.toks) (fun b o hb e=>(sb.2 b hb).trans e) f0 f1 f3 f4 f5
  obtain ⟨o,e,c,d⟩:=id st'
  exact ⟨u,rfl,Vw (s:={ s with heap:=h' }) e c d (by decide) ⟨x,H,I1,ru,⟨rfl,fun ys hy=>by rw [I.tuple_inj hy hq]; exact hx⟩,st',fun b hb=>(hf b hb).1⟩⟩
 done:=by
  intro X hP hw hK hc i pins s σ H E I hf st hg
  subst hP hw hK
  obtain ⟨xs,hq,hx⟩:=hg
  obtain ⟨its,rv,p,hz⟩:=I.tuple hq
  obtain ⟨f0,f1,f2,f3,f4,f5⟩:=hf it (by simp)
  have hl:=rv.length
  exact wpAny_pyNext_tuple_end (I.ok.hd hc) st (show s.heap.IsTuple a its.toArray from p) (by simp; omega) fun h' eb=>⟨rfl,I.turned (t' :=s.toks) (fun b o hb e=>eb b o hb e) f0 f1 f3 f4 f5⟩
 self:=fun _ _ _ _ _ st h=>wpAny_pyIter_tupleiter st h
theorem qR {P:Program} {w:World} {K:PySem.W.Frag} {tg:Expr} (it:Addr) (lo:Int) (n:Nat):Vv P w K tg (Itr lo n) [it] it (fun i h=>IsRangeIter h it (lo+(i:Nat)*1) ((n:Int) - (i:Nat)) 1) where
 mem:=by simp
 obj:=fun i h st b hb=>by
  have e:b=it:=by simpa using hb
  subst e
  exact ⟨_,st,fun v z=>by
   have z' :Data.fields _=Data.cell v:=z
   cases z'⟩
 keep:=fun i h h' st k=>k it (by simp) _ st
 item:=by
  intro X hP hw hK hc i pins s σ H E I hf st hg
  subst hP hw hK
  obtain ⟨f0,f1,f2,f3,f4,f5⟩:=hf it (by simp)
  have W:=Walks.range (prog:=X.prog) (w:=X.w) (I.ok.hd hc) it lo 1 n
  refine W.item i s _ _ hg st fun v h' tk hv st' kk=> ?_
  obtain ⟨t,rfl⟩:=hv
  have I1:Inv X pins σ H { s with heap:=h',toks:=tk }:=I.turned (fun b o hb e=>kk b o (by simpa using hb) e) f0 f1 f3 f4 f5
  refine ⟨_,rfl,Vw (s:={ s with heap:=h',toks:=tk }) (n:="range_iterator") st' rfl rfl (by decide) ⟨.int (lo+i),H,I1,⟨t, ?_⟩,⟨rfl,rfl⟩,st',fun b hb=>(hf b hb).1⟩⟩
  rw [Int.mul_one]
 done:=by
  intro X hP hw hK hc i pins s σ H E I hf st hg
  subst hP hw hK
  obtain ⟨f0,f1,f2,f3,f4,f5⟩:=hf it (by simp)
  exact wpAny_pyNext_range_end (I.ok.hd hc) st (by have:n<=i:=hg; omega) fun h' eb=>⟨rfl,I.turned (t' :=s.toks) (fun b o hb e=>eb b o hb e) f0 f1 f3 f4 f5⟩
 self:=fun _ _ _ _ _ st h=>wpAny_pyIter_rangeiter st h
end L2
namespace L2
open PySem PySem.Spec PyProof.Rows
section
variable {X:Cx} {tg:Expr}
theorem ql {pins:List (Addr×Obj)} {σ:St} {H:Hp} {s:Shared} {R:It->Hp->Prop} {E:Value->Shared->Prop} {lo hi:Int} {t u v:Tok} {tk:Nat} (I:Inv X pins σ H s) (h1: -(2 ^ 62)<=lo) (h2:lo < 2 ^ 62) (h3: -(2 ^ 62)<=hi) (h4:hi < 2 ^ 62)
  (q:R (Itr lo (hi - lo).toNat) H):wpAny (model X.prog X.w) X.A (pyIter (.ref s.heap.objs.size)) (PIE X pins σ tg R) E { s with heap:=s.heap.push { cls:= .type "range",data:= .fields #[.int lo t, .int hi u, .int 1 v] },toks:=tk }:=by
 refine wpAny_pyIter_range (IsRange.new ..) (small_one h1 h2 h3 h4) ?_
 have I1:Inv X pins σ H { s with heap:=s.heap.push { cls:= .type "range",data:= .fields #[.int lo t, .int hi u, .int 1 v] },toks:=tk }:=I.kept fun b o e=>Heap.get?_push_of_some _ e
 refine ⟨(s.heap.push { cls:= .type "range",data:= .fields #[.int lo t, .int hi u, .int 1 v] }).objs.size,[(s.heap.push { cls:= .type "range",data:= .fields #[.int lo t, .int hi u, .int 1 v] }).objs.size],_,_,H,rfl,
  I1.kept (t' :=tk) fun b o e=>Heap.get?_push_of_some _ e,qR _ lo (hi - lo).toNat, ?_,fun b hb=> ?_,q⟩
 ·have e1:lo+((0:Nat):Int)*1=lo:=by simp
  have e2:(((hi - lo).toNat:Nat):Int) - ((0:Nat):Int)=Builtin.Range.rangeSize lo hi 1:=by rw [rangeSize_one]; split <;> omega
  show IsRangeIter _ _ (lo+((0:Nat):Int)*1) ((((hi - lo).toNat:Nat):Int) - ((0:Nat):Int)) 1
  rw [e1,e2]
  exact Heap.get?_push_size _ rfl
 ·have e:b=(s.heap.push { cls:= .type "range",data:= .fields #[.int lo t, .int hi u, .int 1 v] }).objs.size:=by simpa using hb
  subst e
  exact I1.fpOk (Nat.le_refl _) (I1.hok.fresh (Nat.le_refl _))
noncomputable def Gn (ta:TA):TI:=fun σ H R=>ta σ H fun vs H1=>∃ j:Int,vs=[.int j]/\ -(2 ^ 62)<=j/\j < 2 ^ 62/\R (Itr 0 j.toNat) H1
noncomputable def Go (ta:TA):TI:=fun σ H R=>ta σ H fun vs H1=>∃ i j:Int,vs=[.int i, .int j]/\(-(2 ^ 62)<=i/\i < 2 ^ 62/\ -(2 ^ 62)<=j/\j < 2 ^ 62)/\R (Itr i (j - i).toNat) H1
theorem Qz {a:Expr} {ta:TA} {p pos:Pos} (hg:Gl X "range") (hm:X.mg "range"=none) (ha:PA X [a] ta) (hs:starEach [a] X.env=[(false,eval a X.env)]:=by rfl):PI X tg (.Call (.Name "range" p) [a] [] pos) (Gn ta):=by
 intro pins s σ H R I h
 refine Call_ (uj I hg hm boot_range (PyProof.Rows.callWith_type1 (thn (ha pos pins s σ H _ I h) fun us s1 ⟨vs,H1,I1,r1,q1⟩=> ?_) hs rfl))
 obtain ⟨j,e,q1,q2,q⟩:=q1
 subst e
 cases r1 with
 | cons r rr=>
  cases rr
  obtain ⟨t,rfl⟩:=r
  exact call_range_1 (ql I1 (by omega) (by omega) q1 q2 (by simpa using q))
theorem QA {a b:Expr} {ta:TA} {p pos:Pos} (hg:Gl X "range") (hm:X.mg "range"=none) (ha:PA X [a,b] ta) (hs:starEach [a,b] X.env=[(false,eval a X.env),(false,eval b X.env)]:=by rfl) (hs2:starEach [b] X.env=[(false,eval b X.env)]:=by rfl):
  PI X tg (.Call (.Name "range" p) [a,b] [] pos) (Go ta):=by
 intro pins s σ H R I h
 refine Call_ (uj I hg hm boot_range (PyProof.Rows.callWith_type1 (thn (ha pos pins s σ H _ I h) fun us s1 ⟨vs,H1,I1,r1,q1⟩=> ?_) (by rw [hs,hs2]) (by rw [hs2]; rfl)))
 obtain ⟨i,j,e,⟨q1,q2,q3,q4⟩,q⟩:=q1
 subst e
 cases r1 with
 | cons r rr=>
  cases rr with
  | cons r' rr=>
   cases rr
   obtain ⟨t,rfl⟩:=r
   obtain ⟨t',rfl⟩:=r'
   exact call_range_2 (ql I1 q1 q2 q3 q4 q)
noncomputable def tFor (wi:TI) (g:TG) (tb:TS):TS:=fun D σ H=>wi σ H fun J H1=>∃ W:Nat->Nat->St->Hp->Prop,(∃ m,W 0 m σ H1)/\∀ i m σ H,W i m σ H->
 (J.stop i H/\D.nx σ H)\/(J.go i H/\∃ N:St->Hp->Prop,(∀ σ' H',N σ' H' ->∃ m',m' < m/\W (i+1) m' σ' H')/\∀ x H',J.yld i H x H' ->g x σ H' fun σ2 H2=>tb { D with nx:=N,ct:=N,bk:=D.nx } σ2 H2)
noncomputable def ym (fp:List Addr) (h:Heap):List (Addr×Obj):=fp.filterMap fun b=>(h.get? b).map fun o=>(b,o)
theorem wE {fp:List Addr} {h:Heap} {b:Addr} {o:Obj} (hb:b∈fp) (e:h.get? b=some o):(b,o)∈ym fp h:=List.mem_filterMap.mpr ⟨b,hb,by rw [e]; rfl⟩
theorem QB {fp:List Addr} {h:Heap} {p:Addr×Obj} (hp:p∈ym fp h):p.1∈fp/\h.get? p.1=some p.2:=by
 obtain ⟨b,hb,e⟩:=List.mem_filterMap.mp hp
 cases q:h.get? b with
 | none=>rw [q] at e; cases e
 | some o=>
  rw [q] at e
  have e' :(b,o)=p:=Option.some.inj e
  subst e'
  exact ⟨hb,q⟩
theorem Inv.pinned {pins:List (Addr×Obj)} {σ:St} {H:Hp} {s:Shared} {fp:List Addr} (I:Inv X pins σ H s) (hf:∀ b∈fp,Yt X pins H b) (ho:∀ b∈fp,∃ o,s.heap.get? b=some o/\∀ v,o.data ≠ .cell v):Inv X (pins++ym fp s.heap) σ H s:=
 I.pins_of fun p hp=>(List.mem_append.mp hp).elim (fun z=>I.pin p (List.mem_append_right _ z)) fun z=>by
  obtain ⟨hb,e⟩:=QB z
  obtain ⟨f0,f1,f2,_⟩:=hf p.1 hb
  obtain ⟨o,e',d⟩:=ho p.1 hb
  rw [e] at e'; cases e'
  exact ⟨e,f0,f1,f2,d⟩
theorem Inv.unpinned {pins pl:List (Addr×Obj)} {σ:St} {H:Hp} {s:Shared} (I:Inv X (pins++pl) σ H s):Inv X pins σ H s:=I.pins_of fun p hp=>I.pin p (List.mem_append_right _ (List.mem_append_left _ hp))
theorem Kj {iter:Expr} {body:List Stmt} {wi:TI} {g:TG} {tb:TS} {pos:Pos} (hp:PassesOwn (model X.prog X.w) X.A X.env X.xe) (hc:X.calm=true) (hi:PI X tg iter wi) (hg:PG X tg g) (hb:PSs X body tb)
  (hs:∀ x,foldedSetIterable iter X.env x=pure x:=by intro _; rfl):PS X (.For tg iter body [] pos) (tFor wi g tb):=by
 intro pins s σ H D I h
 refine wpAny_For (thn (hi pins s σ H _ I h) fun v s1 h1=>thn h1 fun itv s2 h2=> ?_) hs
 obtain ⟨it,fp,tn,J,H2,e,I2,T,st2,f2,W,⟨m0,w0⟩,turn⟩:=h2
 subst e
 have stat:∀ {H' :Hp},(∀ b∈fp,H' b=none)->∀ b∈fp,Yt X pins H' b:=fun hn b hb=>⟨hn b hb,(f2 b hb).2⟩
 refine codeAny_forLoop_any (fun n s' =>∃ i σ' H',Inv X pins σ' H' s' /\tn i s'.heap/\(∀ b∈fp,H' b=none)/\W i n σ' H') ?_ m0 ⟨0,σ,H2,I2,st2,fun b hb=>(f2 b hb).1,w0⟩
 rintro n s3 ⟨i,σ3,H3,I3,st3,fr3,w3⟩
 rcases turn i n σ3 H3 w3 with ⟨stop,qn⟩ | ⟨go,N,hN,step⟩
 ·refine wpAny_passesOwn hp (thn (T.done X rfl rfl rfl hc i pins s3 σ3 H3 X.xe I3 (stat fr3) st3 stop) fun r s4 ⟨hr,I4⟩=> ?_)
  subst hr
  exact wpAny_execs_nil ⟨σ3,H3,I4,qn⟩
 ·refine wpAny_passesOwn hp (thn (T.item X rfl rfl rfl hc i pins s3 σ3 H3 X.xe I3 (stat fr3) st3 go) fun r s4 ⟨u,hr,h4⟩=> ?_)
  subst hr
  refine wpAny_passesOwn hp (thn h4 fun _ s5 ⟨x,H5,I5,r5,y5,st5,fr5⟩=> ?_)
  have I5' :=I5.pinned (stat fr5) (T.obj _ _ st5)
  refine wpAny_passesOwn hp (thn (hg _ s5 σ3 H5 x u _ I5' r5 (step x H5 y5)) fun _ s6 ⟨σ6,H6,I6,q6⟩=> ?_)
  refine wpAny_passesOwn hp (thn (hb _ s6 σ6 H6 _ I6 q6) fun f s7 q7=> ?_)
  have again:∀ {σ7:St} {H7:Hp},Inv X (pins++ym fp s5.heap) σ7 H7 s7->N σ7 H7->∃ m,m < n/\∃ i σ' H',Inv X pins σ' H' s7/\tn i s7.heap/\(∀ b∈fp,H' b=none)/\W i m σ' H' :=fun {σ7 H7} I7 n7=>by
   obtain ⟨m',hm,w7⟩:=hN σ7 H7 n7
   refine ⟨m',hm,i+1,σ7,H7,I7.unpinned,T.keep _ _ _ st5 fun b hb o e=>(I7.pin (b,o) (List.mem_append_right _ (List.mem_append_right _ (wE hb e)))).1,fun b hb=> ?_,w7⟩
   obtain ⟨o,e,d⟩:=T.obj _ _ st5 b hb
   exact (I7.pin (b,o) (List.mem_append_right _ (List.mem_append_right _ (wE hb e)))).2.1
  cases f with
  | next=>obtain ⟨σ7,H7,I7,n7⟩:=q7; exact again I7 n7
  | cont=>obtain ⟨σ7,H7,I7,n7⟩:=q7; exact again I7 n7
  | brk=>obtain ⟨σ7,H7,I7,q7⟩:=q7; exact ⟨σ7,H7,I7.unpinned,q7⟩
  | ret v=>obtain ⟨x7,σ7,H7,I7,r7,q7⟩:=q7; exact ⟨x7,σ7,H7,I7.unpinned,r7,q7⟩
end
end L2
namespace L2
open PySem PySem.Spec PyProof.Rows
noncomputable abbrev R2:=V->V->Hp->VK->Prop
noncomputable def OpR (X:Cx) (f:Value->Value->Sem Value) (r:R2):Prop:=
 ∀ (pins:List (Addr×Obj)) (s:Shared) (σ:St) (H:Hp) (x y:V) (v u:Value) (Q:VK),Inv X pins σ H s->jf x v->jf y u->r x y H Q->
  wpAny (model X.prog X.w) X.A (f v u) (EP X pins σ Q) X.xe s
noncomputable def UnR (X:Cx) (f:Value->Sem Value) (r:V->Hp->VK->Prop):Prop:=
 ∀ (pins:List (Addr×Obj)) (s:Shared) (σ:St) (H:Hp) (x:V) (v:Value) (Q:VK),Inv X pins σ H s->jf x v->r x H Q->
  wpAny (model X.prog X.w) X.A (f v) (EP X pins σ Q) X.xe s
noncomputable def JL (X:Cx) (f:Value) (r:List V->Hp->VK->Prop):Prop:=
 ∀ (pins:List (Addr×Obj)) (s:Shared) (σ:St) (H:Hp) (xs:List V) (us:List Value) (Q:VK),Inv X pins σ H s->ZY xs us->r xs H Q->
  wpAny (model X.prog X.w) X.A (call f us) (EP X pins σ Q) X.xe s
noncomputable def TruR (X:Cx) (r:V->Hp->(Bool->Hp->Prop)->Prop):Prop:=
 ∀ (pins:List (Addr×Obj)) (s:Shared) (σ:St) (H:Hp) (x:V) (v:Value) (Q:Bool->Hp->Prop),Inv X pins σ H s->jf x v->r x H Q->
  wpAny (model X.prog X.w) X.A (truthy v) (TP X pins σ Q) X.xe s
noncomputable def tOp (r:R2) (ta tb:TE):TE:=fun σ H Q=>ta σ H fun x H1=>tb σ H1 fun y H2=>r x y H2 Q
noncomputable def tUn (r:V->Hp->VK->Prop) (ta:TE):TE:=fun σ H Q=>ta σ H fun x H1=>r x H1 Q
noncomputable def rI (C:Int->Int->Prop) (g:Int->Int->V):R2:=fun x y H Q=>∃ i j,x= .int i/\y= .int j/\C i j/\Q (g i j) H
noncomputable def rI0 (g:Int->Int->V):R2:=fun x y H Q=>∃ i j,x= .int i/\y= .int j/\Q (g i j) H
noncomputable def rU (g:Int->V):V->Hp->VK->Prop:=fun x H Q=>∃ i,x= .int i/\Q (g i) H
section
variable {X:Cx} {a b c:Expr} {ta tb tc:TE} {pos:Pos}
theorem Gp (ha:PE X a ta) (hb:PE X b tb) {pins:List (Addr×Obj)} {s:Shared} {σ:St} {H:Hp} {R:V->V->Hp->Prop} (I:Inv X pins σ H s)
  (h:ta σ H fun x H1=>tb σ H1 fun y H2=>R x y H2) {Q:Value->Shared->Prop} {f:Value->Value->Sem Value}
  (hf:∀ v u s2 x y H2,Inv X pins σ H2 s2->jf x v->jf y u->R x y H2->wpAny (model X.prog X.w) X.A (f v u) Q X.xe s2):
  wpAny (model X.prog X.w) X.A (eval a X.env) (fun v s₁=>wpAny (model X.prog X.w) X.A (eval b X.env) (fun u s₂=>wpAny (model X.prog X.w) X.A (f v u) Q X.xe s₂) X.xe s₁) X.xe s:=by
 refine thn (ha pins s σ H _ I h) fun v s1 ⟨x,H1,I1,r1,q1⟩=> ?_
 refine thn (hb pins s1 σ H1 _ I1 q1) fun u s2 ⟨y,H2,I2,r2,q2⟩=> ?_
 exact hf v u s2 x y H2 I2 r1 r2 q2
theorem Gq {op:Operator} {r:R2} (ho:OpR X (binaryOp op) r) (ha:PE X a ta) (hb:PE X b tb):PE X (.BinOp a op b pos) (tOp r ta tb):=by
 intro pins s σ H Q I h
 exact wpAny_BinOp (Gp ha hb I h fun v u s2 x y H2 I2 rx ry q=>ho pins s2 σ H2 x y v u Q I2 rx ry q)
theorem Gr {op:UnaryOp} {r:V->Hp->VK->Prop} (ho:UnR X (unaryOp op) r) (ha:PE X a ta):PE X (.UnaryOp op a pos) (tUn r ta):=by
 intro pins s σ H Q I h
 exact UnaryOp_ (thn (ha pins s σ H _ I h) fun v s1 ⟨x,H1,I1,r1,q1⟩=>ho pins s1 σ H1 x v Q I1 r1 q1)
theorem opI {f:Value->Value->Sem Value} {C:Int->Int->Prop} {g:Int->Int->Int}
  (rule:∀ (i j:Int) (t u:Tok) (s:Shared) (Q:Value->Shared->Prop) (E:Value->Shared->Prop),C i j->Q (.int (g i j) s.toks) { s with toks:=s.toks+1 }->wpAny (model X.prog X.w) X.A (f (.int i t) (.int j u)) Q E s):
  OpR X f (rI C fun i j=> .int (g i j)):=by
 intro pins s σ H x y v u Q I rx ry h
 obtain ⟨i,j,rfl,rfl,hc,q⟩:=h
 obtain ⟨t,rfl⟩:=rx
 obtain ⟨t',rfl⟩:=ry
 exact rule i j t t' s _ _ hc ⟨.int (g i j),H,I.tok _,⟨_,rfl⟩,q⟩
theorem opI0 {f:Value->Value->Sem Value} {g:Int->Int->Int}
  (rule:∀ (i j:Int) (t u:Tok) (s:Shared) (Q:Value->Shared->Prop) (E:Value->Shared->Prop),Q (.int (g i j) s.toks) { s with toks:=s.toks+1 }->wpAny (model X.prog X.w) X.A (f (.int i t) (.int j u)) Q E s):
  OpR X f (rI0 fun i j=> .int (g i j)):=by
 intro pins s σ H x y v u Q I rx ry h
 obtain ⟨i,j,rfl,rfl,q⟩:=h
 obtain ⟨t,rfl⟩:=rx
 obtain ⟨t',rfl⟩:=ry
 exact rule i j t t' s _ _ ⟨.int (g i j),H,I.tok _,⟨_,rfl⟩,q⟩
theorem Gs {f:Value->Value->Sem Value} {g:Int->Int->Bool}
  (rule:∀ (i j:Int) (t u:Tok) (s:Shared) (Q:Value->Shared->Prop) (E:Value->Shared->Prop),Q (.bool (g i j)) s->wpAny (model X.prog X.w) X.A (f (.int i t) (.int j u)) Q E s):
  OpR X f (rI0 fun i j=> .bl (g i j)):=by
 intro pins s σ H x y v u Q I rx ry h
 obtain ⟨i,j,rfl,rfl,q⟩:=h
 obtain ⟨t,rfl⟩:=rx
 obtain ⟨t',rfl⟩:=ry
 exact rule i j t t' s _ _ ⟨.bl (g i j),H,I,rfl,q⟩
noncomputable def CDiv (i j:Int):Prop:=0 < j/\j < 1073741824
noncomputable def yh (i j:Int):Prop:=(-(2 ^ 64) < i/\i < 2 ^ 64)\/(-(2 ^ 64) < j/\j < 2 ^ 64)
theorem yh.ok {i j:Int} (h:yh i j):IntMulOk i j:=by
 rcases h with ⟨h1,h2⟩ | ⟨h1,h2⟩
 ·exact .of_left (intBits_le_64 h1 h2)
 ·exact .of_right (intBits_le_64 h1 h2)
theorem Kk:OpR X (binaryOp .Add) (rI0 fun i j=> .int (i+j)):=opI0 fun _ _ _ _ _ _ _ q=>add_int q
theorem Kl:OpR X (binaryOp .Sub) (rI0 fun i j=> .int (i - j)):=opI0 fun _ _ _ _ _ _ _ q=>sub_int q
theorem Km:OpR X (binaryOp .Mult) (rI yh fun i j=> .int (i*j)):=opI fun _ _ _ _ _ _ _ hc q=>mul_int q hc.ok
theorem Xi:OpR X (binaryOp .FloorDiv) (rI CDiv fun i j=> .int (i / j)):=opI fun i j _ _ _ _ _ hc q=>by
 have h1:(0:Int) < j:=hc.1
 have h2:j < 1073741824:=hc.2
 exact floordiv_int (by omega) (by rw [Int.fdiv_eq_ediv_of_nonneg i (by omega)]; exact q) (.inl (PyProof.noPylong_small (by omega)))
theorem Kn:OpR X (binaryOp .Mod) (rI (fun _ j=>0 < j) fun i j=> .int (i % j)):=opI fun i j _ _ _ _ _ hc q=>by
 have h1:(0:Int) < j:=hc
 exact mod_int' (by omega) (by rw [Int.fmod_eq_emod_of_nonneg i (by omega)]; exact q)
theorem unI {f:Value->Sem Value} {g:Int->Int}
  (rule:∀ (i:Int) (t:Tok) (s:Shared) (Q:Value->Shared->Prop) (E:Value->Shared->Prop),Q (.int (g i) s.toks) { s with toks:=s.toks+1 }->wpAny (model X.prog X.w) X.A (f (.int i t)) Q E s):
  UnR X f (rU fun i=> .int (g i)):=by
 intro pins s σ H x v Q I rx h
 obtain ⟨i,rfl,q⟩:=h
 obtain ⟨t,rfl⟩:=rx
 exact rule i t s _ _ ⟨.int (g i),H,I.tok _,⟨_,rfl⟩,q⟩
theorem Ko:UnR X (unaryOp .USub) (rU fun i=> .int (-i)):=unI fun _ _ _ _ _ q=>neg_int q
theorem QC:OpR X (binaryOp .Add) (fun x y H Q=>∃ i k,x= .int i/\y= .bl k/\Q (.int (i+b2i k)) H):=by
 intro pins s σ H x y v u Q I rx ry h
 obtain ⟨i,k,rfl,rfl,q⟩:=h
 obtain ⟨t,rfl⟩:=rx
 cases ry
 exact add_int_bool ⟨.int (i+b2i k),H,I.tok _,⟨_,rfl⟩,q⟩
end
section
variable {X:Cx} {a b c:Expr} {ta tb tc:TE} {pos:Pos}
theorem Gu:OpR X (compareOp .Lt) (rI0 fun i j=> .bl (decide (i < j))):=Gs fun _ _ _ _ _ _ _ q=>lt_int q
theorem Gv:OpR X (compareOp .LtE) (rI0 fun i j=> .bl (decide (i<=j))):=Gs fun _ _ _ _ _ _ _ q=>le_int q
theorem Gw:OpR X (compareOp .Gt) (rI0 fun i j=> .bl (decide (j < i))):=Gs fun _ _ _ _ _ _ _ q=>gt_int q
theorem zq (b:Expr) {op:CmpOp} (h:op ≠ .In:=by decide) (h2:op ≠ .NotIn:=by decide):behindInMarks op b=false:=by
 have e1:(op == CmpOp.In)=false:=by cases op <;> first | rfl | exact absurd rfl h
 have e2:(op == CmpOp.NotIn)=false:=by cases op <;> first | rfl | exact absurd rfl h2
 cases b <;> simp [behindInMarks,e1,e2]
theorem Xj {op:CmpOp} {r:R2} (ho:OpR X (compareOp op) r) (ha:PE X a ta) (hb:PE X b tb) (hm:behindInMarks op b=false):PE X (.Compare a [op] [b] pos) (tOp r ta tb):=by
 intro pins s σ H Q I h
 exact wpAny_Compare1 (Gp ha hb I h fun v u s2 x y H2 I2 rx ry q=>ho pins s2 σ H2 x y v u Q I2 rx ry q) hm
noncomputable def Kp (t:TE):TT:=fun σ H Q=>t σ H fun x H' =>∃ k,x= .bl k/\Q k H'
theorem QD {op:CmpOp} {r:R2} (ho:OpR X (compareOp op) r) (ha:PE X a ta) (hb:PE X b tb) (hm:behindInMarks op b=false):PT X (.Compare a [op] [b] pos) (Kp (tOp r ta tb)):=by
 intro pins s σ H Q I h
 refine wpAny_isTrue_Compare1 (thn (ha pins s σ H _ I h) fun v s1 ⟨x,H1,I1,r1,q1⟩=>thn (hb pins s1 σ H1 _ I1 q1) fun u s2 ⟨y,H2,I2,r2,q2⟩=>
  thn (ho pins s2 σ H2 x y v u _ I2 r1 r2 q2) fun c s3 ⟨z,H3,I3,r3,k,e,q3⟩=> ?_) hm
 subst e
 cases r3
 exact wpAny_truthy_bool ⟨H3,I3,q3⟩
noncomputable def xJ (r r' :R2) (ta tb tc:TE):TE:=fun σ H Q=>ta σ H fun x H1=>tb σ H1 fun y H2=>r x y H2 fun z H3=>∃ k,z= .bl k/\
 (if k=true then tc σ H3 fun w' H4=>r' y w' H4 Q else Q (.bl false) H3)
theorem Vx {op op' :CmpOp} {r r' :R2} (ho:OpR X (compareOp op) r) (ho' :OpR X (compareOp op') r') (ha:PE X a ta) (hb:PE X b tb) (hc:PE X c tc)
  (hm:lastMarks [op,op'] [b,c]=false:=by with_unfolding_all rfl):PE X (.Compare a [op,op'] [b,c] pos) (xJ r r' ta tb tc):=by
 intro pins s σ H Q I h
 refine Compare_chain (thn (ha pins s σ H _ I h) fun v s1 ⟨x,H1,I1,r1,q1⟩=>chain_link (thn (hb pins s1 σ H1 _ I1 q1) fun u s2 ⟨y,H2,I2,r2,q2⟩=>
  thn (ho pins s2 σ H2 x y v u _ I2 r1 r2 q2) fun d s3 ⟨z,H3,I3,r3,k,e,q3⟩=> ?_)) hm
 subst e
 cases r3
 refine wpAny_truthy_bool ?_
 cases k with
 | false=>exact ite_ff ⟨.bl false,H3,I3,rfl,q3⟩
 | true=>exact ite_tt (chain_last (thn (hc pins s3 σ H3 _ I3 q3) fun w' s4 ⟨z',H4,I4,r4,q4⟩=>ho' pins s4 σ H4 y z' u w' Q I4 r2 r4 q4))
theorem Vy {op op' :CmpOp} {r r' :R2} (ho:OpR X (compareOp op) r) (ho' :OpR X (compareOp op') r') (ha:PE X a ta) (hb:PE X b tb) (hc:PE X c tc)
  (hm:lastMarks [op,op'] [b,c]=false:=by with_unfolding_all rfl):PT X (.Compare a [op,op'] [b,c] pos) (Kp (xJ r r' ta tb tc)):=by
 intro pins s σ H Q I h
 refine isTrue_chain (thn (ha pins s σ H _ I h) fun v s1 ⟨x,H1,I1,r1,q1⟩=>test_link (thn (hb pins s1 σ H1 _ I1 q1) fun u s2 ⟨y,H2,I2,r2,q2⟩=>
  thn (ho pins s2 σ H2 x y v u _ I2 r1 r2 q2) fun d s3 ⟨z,H3,I3,r3,k,e,q3⟩=> ?_)) hm
 subst e
 cases r3
 refine wpAny_truthy_bool ?_
 cases k with
 | false=>
  obtain ⟨k',e',q'⟩:=q3
  cases e'
  exact ite_ff ⟨H3,I3,q'⟩
 | true=>
  refine ite_tt (test_last (thn (hc pins s3 σ H3 _ I3 q3) fun w' s4 ⟨z',H4,I4,r4,q4⟩=>thn (ho' pins s4 σ H4 y z' u w' _ I4 r2 r4 q4) fun d' s5 ⟨z2,H5,I5,r5,k2,e2,q5⟩=> ?_))
  subst e2
  cases r5
  exact wpAny_truthy_bool ⟨H5,I5,q5⟩
noncomputable def TruV (K:PySem.W.Frag) (x:V) (H:Hp) (k:Bool):Prop:=
 match x with
 | .non=>k=false
 | .bl b=>k=b
 | .int i=>k=(i != 0)
 | .str y=>y.length<=sizeLine/\k=((y.length:Int) != 0)
 | .byt y=>y.size<=sizeLine/\k=((y.size:Int) != 0)
 | .ref p=>(∃ xs,SqL K H p xs/\k= !xs.isEmpty)\/(∃ xs,SqT K H p xs/\k= !xs.isEmpty)\/∃ kvs,H p=some (.dK kvs)/\k= !kvs.isEmpty
 | _=>False
theorem qS {κ:Type} {kvs:List (κ×V)} {vs:List (κ×Value)} (r:KV kvs vs):(!vs.isEmpty)= !kvs.isEmpty:=by
 cases r <;> rfl
theorem Ui {xs:List V} {its:List Value} (r:ZY xs its):(!its.toArray.isEmpty)= !xs.isEmpty:=by
 cases r <;> simp
theorem Uj:(sizeLine:Nat) < 2 ^ 63:=by rw [sizeLine_eq]; decide
theorem Kq:TruR X (fun x H Q=>∃ k,TruV X.K x H k/\Q k H):=by
 intro pins s σ H x v Q I rx h
 obtain ⟨k,e,q⟩:=h
 have hl:=Uj
 have hs:sizeLine=16777216:=sizeLine_eq
 cases x with
 | non=>
  cases rx
  have e' :k=false:=e
  subst e'
  exact truthy_none ⟨H,I,q⟩
 | bl b=>
  cases rx
  have e' :k=b:=e
  subst e'
  exact wpAny_truthy_bool ⟨H,I,q⟩
 | int i=>
  obtain ⟨t,rfl⟩:=rx
  have e' :k=(i != 0):=e
  subst e'
  exact PySem.P.truthy_int ⟨H,I,q⟩
 | str y=>
  obtain ⟨t,rfl⟩:=rx
  obtain ⟨hy,e'⟩:y.length<=sizeLine/\k=((y.length:Int) != 0):=e
  subst e'
  exact PySem.P.truthy_str (by omega) ⟨H,I.tok _,q⟩
 | byt y=>
  obtain ⟨t,rfl⟩:=rx
  obtain ⟨hy,e'⟩:y.size<=sizeLine/\k=((y.size:Int) != 0):=e
  subst e'
  exact PySem.W.truthy_bytes (by omega) ⟨H,I.tok _,q⟩
 | ref p=>
  cases rx
  have e' :(∃ xs,SqL X.K H p xs/\k= !xs.isEmpty)\/(∃ xs,SqT X.K H p xs/\k= !xs.isEmpty)\/∃ kvs,H p=some (.dK kvs)/\k= !kvs.isEmpty:=e
  rcases e' with ⟨xs,hx,e'⟩ | ⟨xs,hx,e'⟩ | ⟨kvs,hx,e'⟩
  ·subst e'
   obtain ⟨its,r,pl,hz⟩:=I.list hx
   have hlen:=r.length
   exact wpAny_truthy_list pl.isList (by simp only [List.size_toArray]; omega) ⟨H,I.tok _,by rw [Ui r]; exact q⟩
  ·subst e'
   obtain ⟨its,r,pl,hz⟩:=I.tuple hx
   have hlen:=r.length
   exact truthy_tuple pl (by simp only [List.size_toArray]; omega) ⟨H,I.tok _,by rw [Ui r]; exact q⟩
  ·subst e'
   obtain ⟨hz,hS,vs,r,m⟩:kvs.length<=sizeLine/\(p == sysModules)=false/\∃ vs,KV kvs vs/\s.heap.DictOf (Yr X.prog X.w) p vs:=I.hok p _ hx
   have hlen:kvs.length=vs.length:=Paired.length r
   exact wpAny_truthy_dict hS m (by omega) ⟨H,I.tok _,by rw [qS r]; exact q⟩
 | _=>exact (show False from e).elim
theorem Vz (ha:PE X a ta) (he:∀ whole,isTrue a X.env whole=(do let v ← whole; standAt a.pos; holding [v] (truthy v))):
  PT X a (fun σ H Q=>ta σ H fun x H' =>∃ k,TruV X.K x H' k/\Q k H'):=by
 intro pins s σ H Q I h
 exact isTrue_plain (thn (ha pins s σ H _ I h) fun v s1 ⟨x,H1,I1,r1,q1⟩=>Kq pins s1 σ H1 x v Q I1 r1 q1) (he _)
theorem qT:OpR X (binaryOp .Add) (fun x y H Q=>∃ i j,x= .str i/\y= .str j/\i.length+j.length<=sizeLine/\Q (.str (i++j)) H):=by
 intro pins s σ H x y v u Q I rx ry h
 obtain ⟨i,j,rfl,rfl,hz,q⟩:=h
 obtain ⟨t,rfl⟩:=rx
 obtain ⟨t',rfl⟩:=ry
 exact add_str (fun t' tk=>⟨.str (i++j),H,I.tok _,⟨_,rfl⟩,q⟩) hz
theorem Ww {x:V} {us:List Value} (r:ZY [x] us):∃ u,us=[u]/\jf x u:=by
 cases r with
 | cons r1 r2=>cases r2; exact ⟨_,rfl,r1⟩
theorem QE {x y:V} {us:List Value} (r:ZY [x,y] us):∃ u w',us=[u,w']/\jf x u/\jf y w' :=by
 cases r with
 | cons r1 r2=>
  cases r2 with
  | cons r3 r4=>cases r4; exact ⟨_,_,rfl,r1,r3⟩
theorem QF (hc:X.calm=true):JL X (.builtin "min") (fun xs H Q=>∃ i j,xs=[.int i, .int j]/\Q (.int (if j < i then j else i)) H):=by
 intro pins s σ H xs us Q I r h
 obtain ⟨i,j,rfl,q⟩:=h
 obtain ⟨u,w',rfl,⟨t,rfl⟩,⟨t',rfl⟩⟩:=QE r
 refine min_two_ints (I.ok.hd hc) fun h' tk k=>⟨_,H,I.kept k, ?_,q⟩
 by_cases hj:j < i
 ·rw [if_pos hj,if_pos hj]; exact ⟨_,rfl⟩
 ·rw [if_neg hj,if_neg hj]; exact ⟨_,rfl⟩
theorem QG:JL X (.type "int") (fun xs H Q=>(∃ i,xs=[.int i]/\Q (.int i) H)\/∃ k,xs=[.bl k]/\Q (.int (if k then 1 else 0)) H):=by
 intro pins s σ H xs us Q I r h
 rcases h with ⟨i,rfl,q⟩ | ⟨k,rfl,q⟩
 ·obtain ⟨u,rfl,t,rfl⟩:=Ww r
  exact call_int_int ⟨.int i,H,I,⟨_,rfl⟩,q⟩
 ·obtain ⟨u,rfl,r1⟩:=Ww r
  cases r1
  exact call_int_bool ⟨.int (if k then 1 else 0),H,I.tok _,⟨_,rfl⟩,q⟩
end
end L2
namespace L2
open PySem PySem.Spec PyProof.Rows
structure Gx (h:Heap) (x dx C:Addr) (mA:Str->Option Value):Prop where
 obj:h.get? x=some (PySem.W.instObj C dx)
 ns:h.Ns1 dx mA
 ne:dx ≠ x
theorem QH {h:Heap} {dx:Addr} {mA:Str->Option Value} (n:h.Ns1 dx mA):∃ od,h.get? dx=some od/\∀ name,PySem.W.lookIn name od=some (mA name):=by
 obtain ⟨o,es,ep,ho,hd,hk,_,hm⟩:=n
 refine ⟨o,ho,fun name=> ?_⟩
 have e:=hm name
 unfold nsFind findBy at e
 rw [← Array.find?_toList] at e
 unfold PySem.W.lookIn
 rw [hd]
 dsimp only
 split
 ·rename_i y q
  rw [q] at e
  exact congrArg some e
 ·rename_i q
  rw [q] at e
  have a:es.toList.any (·.refKey)=false:=by
   rw [List.any_eq_false]
   intro y hy
   obtain ⟨z,t,hkey⟩:=hk y (Array.mem_toList_iff.mp hy)
   simp [DictEntry.refKey,hkey]
  have a' :¬ es.toList.any (·.refKey)=true:=by rw [a]; exact Bool.false_ne_true
  rw [if_neg a']
  exact congrArg some e
theorem Gx.look {h:Heap} {x dx C:Addr} {mA:Str->Option Value} (I:Gx h x dx C mA):∃ od,PySem.W.InstAt h x (PySem.W.instObj C dx) C (some od)/\∀ name,PySem.W.lookIn name od=some (mA name):=
 let ⟨od,ho,hl⟩:=QH I.ns
 ⟨od,⟨I.obj,rfl,rfl,ho⟩,hl⟩
section
variable {prog:Program} {w:World} {A:Around} {E:Value->Shared->Prop} {s:Shared} {K:PySem.W.Frag} {x dx C f:Addr} {mA:Str->Option Value} {name:Str} {v:Value}
end
section
variable {P:Program} {w:World} {H H' :Hp} {h h' :Heap} {a C dx:Addr} {fs fs' :List (Str×V)}
theorem Xk (hok:HOk P w H h) (e:H a=some (.ins C dx fs)):∃ mA,Gx h a dx C mA/\(∀ f,Gd (fs.lookup f) (mA f))/\PySem.Within mA (fs.map (·.1))/\fs.length<=1000/\H dx=some (.own a):=by
 obtain ⟨d,z,ne,ob,mA,n,r,q⟩:=(show j7 P w H h a (.ins C dx fs) from hok a _ e)
 exact ⟨mA,⟨ob,n,ne⟩,r,q,z,d⟩
end
structure Cls (K:PySem.W.Frag) (C:Addr):Prop where
 pg:PySem.W.plainGet K C Str.empty=true
 hd:PySem.W.hasDictIn K C=true
 po:PySem.W.plainOver K C=true
 sa:PySem.W.findIn K (.ref C) "__setattr__"=some (some (.builtin "object.__setattr__"))
theorem Cls.get {K:PySem.W.Frag} {C:Addr} (c:Cls K C) (f:Str):PySem.W.plainGet K C f=true:=c.pg
section
variable {X:Cx} {pins:List (Addr×Obj)} {σ:St} {H:Hp} {s:Shared} {a C dx:Addr} {fs:List (Str×V)} {f:Str} {v:V} {A:Around} {E:Value->Shared->Prop}
end
section
variable {X:Cx} {o e value:Expr} {f:Str} {pos pos' tpos:Pos} {ta tv:TE}
end
section
variable {X:Cx} {pins:List (Addr×Obj)} {σ:St} {H:Hp} {s:Shared} {A:Around} {E:Value->Shared->Prop} {Q:Value->Shared->Prop} {c:Value} {b:Bool}
inductive qU (K:PySem.W.Frag) (H:Hp):V->Value->Prop where
 | non:qU K H .non (.type "NoneType")
 | bl (x:Bool):qU K H (.bl x) (.type "bool")
 | int (i:Int):qU K H (.int i) (.type "int")
 | str (x:Str):qU K H (.str x) (.type "str")
 | flt (x:UInt64):qU K H (.flt x) (.type "float")
 | lst {a:Addr} {xs:List V} (e:H a=some (.lst xs)):qU K H (.ref a) (.type "list")
 | frz {a:Addr} {o:Obj} {xs:List V} (e:H a=some (.frz o (.lst xs))):qU K H (.ref a) (.type "list")
 | tup {a:Addr} {xs:List V} (e:H a=some (.tup xs)):qU K H (.ref a) (.type "tuple")
 | dK {a:Addr} {kvs:List (Key×V)} (e:H a=some (.dK kvs)):qU K H (.ref a) (.type "dict")
 | dT {a:Addr} {kvs:List (List Key×V)} (e:H a=some (.dT kvs)):qU K H (.ref a) (.type "dict")
 | ins {a C dx:Addr} {fs:List (Str×V)} (e:H a=some (.ins C dx fs)) (cl:Cls K C) (ha:PySem.W.findIn K (.ref C) "__class__"=some (some (.builtin "object.__class__")))
   (hn:PySem.W.specialIn K (.builtin "object.__class__") "__get__"=some (some (.builtin "getset_descriptor.__get__"))) (htk:PySem.W.takesIn K (.builtin "object.__class__")=some true)
   (hm:PySem.W.mroIn K C (.type "object")=some true):qU K H (.ref a) (.ref C)
theorem QI {x:V} {u t:Value} (I:Inv X pins σ H s) (rx:jf x u) (ty:qU X.K H x t) (e:PySem.W.kitOne X.K t c=some b) (h:∀ tk,Q (.bool b) { s with toks:=tk }):
  wpAny (model X.prog X.w) A (call (.builtin "isinstance") [u,c]) Q E s:=by
 cases ty with
 | non=>cases (show u=Value.none from rx); exact PySem.W.kia_one PySem.W.kitx_none I.kIn True.intro e (fun z=>nomatch z) h
 | bl y=>cases (show u=Value.bool y from rx); exact PySem.W.kia_one PySem.W.kitx_bool I.kIn True.intro e (fun z=>nomatch z) h
 | int i=>obtain ⟨t,q⟩:=(show ∃ t,u=Value.int i t from rx); cases q; exact PySem.W.kia_one PySem.W.kitx_int I.kIn True.intro e (fun z=>nomatch z) h
 | str y=>obtain ⟨t,q⟩:=(show ∃ t,u=Value.str y t from rx); cases q; exact PySem.W.kia_one PySem.W.kitx_str I.kIn True.intro e (fun z=>nomatch z) h
 | flt y=>obtain ⟨t,q⟩:=(show ∃ t,u=Value.float y t from rx); cases q; exact PySem.W.kia_one PySem.W.kitx_float I.kIn True.intro e (fun z=>nomatch z) h
 | @lst a xs ea=>
  cases (show u=Value.ref a from rx)
  obtain ⟨_,_,n,_,h1⟩:=(show j7 X.prog X.w H s.heap a (.lst xs) from I.hok a _ ea)
  exact PySem.W.kia_one PySem.W.kitx_list I.kIn ⟨_,h1,rfl⟩ e (fun z=>nomatch z) h
 | @frz a ob xs ea=>
  cases (show u=Value.ref a from rx)
  obtain ⟨_,_,_,n,_,h1⟩:=(show j7 X.prog X.w H s.heap a (.frz ob (.lst xs)) from I.hok a _ ea)
  exact PySem.W.kia_one PySem.W.kitx_list I.kIn ⟨_,h1,rfl⟩ e (fun z=>nomatch z) h
 | @tup a xs ea=>
  cases (show u=Value.ref a from rx)
  obtain ⟨_,_,_,p⟩:=(show j7 X.prog X.w H s.heap a (.tup xs) from I.hok a _ ea)
  obtain ⟨o,h1,h2,_⟩:=p
  exact PySem.W.kia_one PySem.W.kitx_tuple I.kIn ⟨o,h1,h2⟩ e (fun z=>nomatch z) h
 | @dK a kvs ea=>
  cases (show u=Value.ref a from rx)
  obtain ⟨_,_,vs,_,p⟩:=(show j7 X.prog X.w H s.heap a (.dK kvs) from I.hok a _ ea)
  obtain ⟨o,es,ep,h1,h2,_⟩:=p
  exact PySem.W.kia_one PySem.W.kitx_dict I.kIn ⟨o,h1,h2.1⟩ e (fun z=>nomatch z) h
 | @dT a kvs ea=>
  cases (show u=Value.ref a from rx)
  obtain ⟨_,_,xs,_,o,es,ep,h1,h2,_⟩:=(show j7 X.prog X.w H s.heap a (.dT kvs) from I.hok a _ ea)
  exact PySem.W.kia_one PySem.W.kitx_dict I.kIn ⟨o,h1,h2.1⟩ e (fun z=>nomatch z) h
 | @ins a C dx fs ea cl ha hn htk hm=>
  cases (show u=Value.ref a from rx)
  obtain ⟨mA,O,_⟩:=Xk I.hok ea
  obtain ⟨od,J,_⟩:=O.look
  exact PySem.W.kia_one (PySem.W.kitx_own (cl.get _) cl.hd ha hn htk hm) I.kIn J e (fun z=>nomatch z) h
end
end L2
namespace L2
open PySem PySem.Spec PyProof.Rows
structure Wx (k:Nat) (A:Around):Prop where
 hd:A.handled=none
 dp:A.depth+3*k+5 < recursionLimit
 un:A.units+16*k+200 < cLine
theorem Wx.mono {j k:Nat} {A:Around} (r:Wx k A) (h:j<=k):Wx j A:=⟨r.hd,by have:=r.dp; omega,by have:=r.un; omega⟩
theorem Wx.deeper {k:Nat} {A:Around} (r:Wx (k+1) A) (env:Env):Wx k (A.deeper env):=
 ⟨r.hd,by have:=r.dp; show A.depth+1+3*k+5 < _; omega,by have:=r.un; show A.units+3+16*k+200 < _; omega⟩
theorem Wx.depth {k:Nat} {A:Around} (r:Wx k A):A.depth < recursionLimit:=by have:=r.dp; omega
theorem Wx.units {k:Nat} {A:Around} (r:Wx k A):A.units+64 < cLine:=by have:=r.un; omega
noncomputable def tNil:TA:=fun _ H Q=>Q [] H
noncomputable def Gy (ta:TE) (tr:TA):TA:=fun σ H Q=>ta σ H fun x H1=>tr σ H1 fun xs H2=>Q (x :: xs) H2
section
variable {X:Cx} {e:Expr} {es:List Expr} {te:TE} {t:TA} {pos:Pos}
theorem ZZ:PA X [] tNil:=fun _ _ _ _ H Q I h=>Calls.spliced_nil ⟨[],H,I, .nil,h⟩
theorem zO (ha:PE X e te) (hr:PA X es t) (hs:starEach (e :: es) X.env=(false,eval e X.env) :: starEach es X.env:=by rfl):PA X (e :: es) (Gy te t):=by
 intro pos pins s σ H Q I h
 rw [hs]
 show wpAny _ _ (spliced ((false,eval e X.env) :: backTo pos (starEach es X.env))) _ _ s
 refine Calls.spliced_cons (thn (ha pins s σ H _ I h) fun u s1 ⟨x,H1,I1,r1,q1⟩=> ?_)
 exact thn (hr pos pins s1 σ H1 _ I1 q1) fun us s2 ⟨xs,H2,I2,r2,q2⟩=>⟨x :: xs,H2,I2, .cons r1 r2,q2⟩
noncomputable def tTup (t:TA):TE:=fun σ H Q=>t σ H fun xs H1=>xs.length<=sizeLine/\∀ p,H1 p=none->Q (.ref p) (upd H1 p (.tup xs))
noncomputable def tLst (t:TA):TE:=fun σ H Q=>t σ H fun xs H1=>xs.length<=sizeLine/\∀ p,H1 p=none->Q (.ref p) (upd H1 p (.lst xs))
theorem Kr {x1} (h:PA X es t):PE X (.Tuple es x1 pos) (tTup t):=by
 intro pins s σ H Q I hq
 refine wpAny_Tuple_spliced (thn (h pos pins s σ H _ I hq) fun us s1 ⟨xs,H1,I1,r,z,q⟩=>⟨by rw [← r.length]; exact z, ?_⟩)
 have hf:H1 s1.heap.objs.size=none:=I1.hok.fresh (Nat.le_refl _)
 refine ⟨.ref s1.heap.objs.size,upd H1 s1.heap.objs.size (.tup xs),I1.laid (t' :=s1.toks) (fun b u e=>Heap.get?_push_of_some _ e) (Nat.le_refl _) ?_,rfl,q _ hf⟩
 exact ⟨z,us,r,⟨_,Heap.get?_push_size _ rfl,rfl,_,rfl⟩⟩
theorem xK (h:PA X es t):PE X (.List es pos) (tLst t):=by
 intro pins s σ H Q I hq
 refine wpAny_List_spliced (thn (h pos pins s σ H _ I hq) fun us s1 ⟨xs,H1,I1,r,z,q⟩=>⟨by rw [← r.length]; exact z, ?_⟩)
 have hf:H1 s1.heap.objs.size=none:=I1.hok.fresh (Nat.le_refl _)
 refine ⟨.ref s1.heap.objs.size,upd H1 s1.heap.objs.size (.lst xs),I1.laid (t' :=s1.toks) (fun b u e=>Heap.get?_push_of_some _ e) (Nat.le_refl _) ?_,rfl,q _ hf⟩
 exact ⟨z,us,0,r,Heap.get?_push_size _ rfl⟩
end
noncomputable abbrev Sp:=List V->Hp->VK->XK->Prop
noncomputable abbrev CXT:=List Env->Hp->Shared->XK->Value->Shared->Prop
structure gZ (P:Program) (w:World) (K:PySem.W.Frag) (mg:Str->Option Value) (base:Heap) (A:Around) (outer:List Env) (s:Shared) (H:Hp):Prop where
 frames:A.frames=some outer
 mod:Mod K mg base
 bs:∀ b o,base.get? b=some o->s.heap.get? b=some o/\H b=none
 bsz:base.objs.size<=s.heap.objs.size
 funs:s.heap.FunFrames base outer
 frf:∀ b∈frs outer,H b=none
 hok:HOk P w H s.heap
 bare:AllBare s.gens
noncomputable def CE (outer:List Env) (P:Program) (w:World) (H:Hp) (s:Shared) (Q:VK) (u:Value) (s' :Shared):Prop:=
 ∃ v H',s'.os=s.os/\AllBare s'.gens/\Un (frs outer) [] H H' s.heap s'.heap/\HOk P w H' s'.heap/\jf v u/\Q v H'
noncomputable def CR (CX:CXT) (outer:List Env) (P:Program) (w:World) (H:Hp) (s:Shared) (Q:VK) (E:XK) (r:Result) (s' :Shared):Prop:=
 match r with
 | .ok (.ret u)=>CE outer P w H s Q u s'
 | .ok _=>False
 | .error e=>CX outer H s E e s'
structure jF (P:Program) (w:World) (K:PySem.W.Frag) (mg:Str->Option Value) (base:Heap) (CX:CXT) (k:Nat) (f:Addr) (fd:FuncData) (ps:List Str) (sp:Sp):Prop where
 len:∀ vs H Q E,sp vs H Q E->vs.length=ps.length
 run:∀ (A:Around) (outer:List Env) (s:Shared) (H:Hp) (args:Args) (us:List Value) (vs:List V) (Q:VK) (E:XK),Wx k A->gZ P w K mg base A outer s H->BindsTo s fd args (ps.zip us)->ZY vs us->sp vs H Q E->
  codeAny (model P w) A (.call (.ref f) args) (CR CX outer P w H s Q E) s
section
variable {X:Cx} {pins:List (Addr×Obj)} {σ:St} {H:Hp} {s s' :Shared}
theorem Inv.env0 (I:Inv X pins σ H s):gZ X.prog X.w X.K X.mg X.base X.A X.stack s H:=
 ⟨I.ok.frames,I.ok.mod,I.bs,Nat.le_trans I.ok.bsz I.sz,I.stack,I.stkFree,I.hok,I.bare⟩
theorem Inv.after {Q:VK} {u:Value} (I:Inv X pins σ H s) (h:CE X.stack X.prog X.w H s Q u s'):EP X pins σ Q u s' :=by
 obtain ⟨v,H',os,bare,un,hok,r,q⟩:=h
 obtain ⟨hh,g,d,t,os'⟩:=s'
 obtain rfl:os' =s.os:=os
 exact ⟨v,H',I.call (h' :=hh) (g' :=g) (d' :=d) (t' :=t) (ch:=[]) un hok bare (fun b z=>absurd z (by simp)),r,q⟩
end
noncomputable def Gz (sp:Sp) (dvs:List V) (E:XK) (t:TA):TE:=fun σ H Q=>t σ H fun vs H1=>sp (vs++dvs) H1 Q E
noncomputable def Binds (K:PySem.W.Frag) (fd:FuncData) (ps:List Str) (ds:List Value):Prop:=
 ∀ (s:Shared) (us:List Value),K.In s.heap->(us++ds).length=ps.length->BindsTo s fd ⟨us,[]⟩ (ps.zip (us++ds))
theorem Binds.all {K:PySem.W.Frag} {fd:FuncData} {ps:List Str} (h:∀ us:List Value,us.length=ps.length->bindArgs fd ⟨us,[]⟩=pure (ps.zip us)):Binds K fd ps []:=fun s us _ hl=>by
 rw [List.append_nil] at hl ⊢
 exact .of_eq (h us hl)
noncomputable def wP (CX:CXT) (X:Cx) (E:XK):Prop:=∀ (pins:List (Addr×Obj)) (σ:St) (H:Hp) (s:Shared) (e:Value) (s' :Shared),Inv X pins σ H s->CX X.stack H s E e s' ->X.xe e s'
section
variable {X:Cx} {CX:CXT} {k:Nat} {f C:Addr} {fd:FuncData} {ps:List Str} {sp:Sp} {dvs:List V} {ds:List Value} {E:XK} {x m:Str} {p pos apos:Pos} {e o:Expr} {es:List Expr} {ta:TE} {t:TA}
theorem Ks {pins:List (Addr×Obj)} {σ:St} {H:Hp} {s:Shared} {Q:VK} {us:List Value} {vs:List V} (F:jF X.prog X.w X.K X.mg X.base CX k f fd ps sp) (hr:Wx k X.A) (hb:Binds X.K fd ps ds) (hd:ZY dvs ds) (hx:wP CX X E)
  (I:Inv X pins σ H s) (r:ZY vs us) (h:sp (vs++dvs) H Q E):wpAny (model X.prog X.w) X.A (call (.ref f) us) (EP X pins σ Q) X.xe s:=by
 have r2:ZY (vs++dvs) (us++ds):=r.append hd
 have hl:(us++ds).length=ps.length:=by rw [← r2.length]; exact F.len _ _ _ _ h
 refine wpAny_call (codeAny_mono (F.run X.A X.stack s H ⟨us,[]⟩ (us++ds) (vs++dvs) Q E hr I.env0 (hb s us I.kIn hl) r2 h) fun r s' hq=> ?_)
 cases r with
 | error e=>exact hx pins σ H s e s' I hq
 | ok fl=>
  cases fl with
  | ret u=>exact I.after hq
  | next=>exact False.elim hq
  | brk=>exact False.elim hq
  | cont=>exact False.elim hq
theorem QJ (F:jF X.prog X.w X.K X.mg X.base CX k f fd ps sp) (hr:Wx k X.A) (hg:Gl X x) (hm:X.mg x=some (.ref f)) (hk:PySem.W.keepIn X.K (.ref f)=true) (hb:Binds X.K fd ps ds) (hd:ZY dvs ds) (hx:wP CX X E)
  (ha:PA X (e :: es) t) (hdb:(x == ("__debug__":Str))=false:=by decide) (he:starEach (e :: es) X.env=(false,eval e X.env) :: starEach es X.env:=by rfl) (hpl:(backTo pos (starEach es X.env)).any (·.1)=false:=by rfl):
  PE X (.Call (.Name x p) (e :: es) [] pos) (Gz sp dvs E t):=by
 intro pins s σ H Q I h
 refine wpAny_Call_Name_kw (UC I hg hm ?_ hdb)
 refine PySem.W.callWith_K (h₀:=X.base) I.ok.mod.kin hk (thn (ha pos pins s σ H _ I h) fun us s1 ⟨vs,H1,I1,r,q⟩=>⟨I1.kIn, ?_⟩) he hpl
 exact Ks F hr hb hd hx I1 r q
end
section
variable {X:Cx} {CX:CXT} {k:Nat} {f C:Addr} {fd:FuncData} {ps ks:List Str} {sp:Sp} {E:XK} {x m:Str} {p pos apos kpos:Pos} {e o:Expr} {es:List Expr} {kws:List Keyword} {te ta:TE} {t tk:TA} {nm:Option Str}
variable {g:List Value->List Value->List Value} {gV:List V->List V->List V}
end
structure zv (N P:List Str) (sc:Scope):Prop where
 kind:sc.kind= .function
 co:sc.isCoroutine=false
 gen:sc.isGenerator=false
 nd:N.Nodup
 pre:N.take P.length=P
 par:∀ x∈P,sc.names.lookup x=some .local\/sc.names.lookup x=some .cell
 nofree:∀ y∈sc.names,y.2 ≠ .free
theorem yn {kindOf:Str->Option NameKind} {x:Str}:∀ {binds:List (Str×Value)} {m:Str->Option Value},(∀ v,(x,v) ∉ binds)->bindL kindOf binds m x=m x
 | [],_,_=>rfl
 | (n,v) :: r,m,h=>by
  unfold bindL
  rw [yn fun w hw=>h w (List.mem_cons_of_mem _ hw)]
  split
  ·have:x ≠ n:=by rintro rfl; exact h v List.mem_cons_self
   simp [this]
  ·rfl
theorem yo {kindOf:Str->Option NameKind} {x:Str}:∀ {binds:List (Str×Value)} {m:Str->Option Value},(∀ v,(x,v) ∉ binds)->bindC kindOf binds m x=m x
 | [],_,_=>rfl
 | (n,v) :: r,m,h=>by
  unfold bindC
  rw [yo fun w hw=>h w (List.mem_cons_of_mem _ hw)]
  split
  ·rfl
  ·have:x ≠ n:=by rintro rfl; exact h v List.mem_cons_self
   simp [this]
theorem yq {kindOf:Str->Option NameKind} {x:Str} {v:Value}:∀ {P:List Str} {vs:List Value} {i:Nat} {m:Str->Option Value},P.Nodup->P[i]? =some x->vs[i]? =some v->kindOf x=some .local->
  bindL kindOf (P.zip vs) m x=some v
 | [],_,_,_,_,h,_,_=>by simp at h
 | _ :: _,[],_,_,_,_,h,_=>by simp at h
 | p :: P,w :: vs,0,m,nd,h1,h2,hk=>by
  simp at h1 h2; subst h1; subst h2
  show bindL kindOf ((p,w) :: P.zip vs) m p=_
  unfold bindL
  rw [yn fun v hv=>(List.nodup_cons.mp nd).1 (List.of_mem_zip hv).1,if_pos hk]
  simp
 | p :: P,w :: vs,i+1,m,nd,h1,h2,hk=>by
  show bindL kindOf ((p,w) :: P.zip vs) m x=_
  unfold bindL
  exact yq (i:=i) (List.nodup_cons.mp nd).2 (by simpa using h1) (by simpa using h2) hk
theorem yr {kindOf:Str->Option NameKind} {x:Str} {v:Value}:∀ {P:List Str} {vs:List Value} {i:Nat} {m:Str->Option Value},P.Nodup->P[i]? =some x->vs[i]? =some v->kindOf x ≠ some .local->
  bindC kindOf (P.zip vs) m x=some v
 | [],_,_,_,_,h,_,_=>by simp at h
 | _ :: _,[],_,_,_,_,h,_=>by simp at h
 | p :: P,w :: vs,0,m,nd,h1,h2,hk=>by
  simp at h1 h2; subst h1; subst h2
  show bindC kindOf ((p,w) :: P.zip vs) m p=_
  unfold bindC
  rw [yo fun v hv=>(List.nodup_cons.mp nd).1 (List.of_mem_zip hv).1,if_neg hk]
  simp
 | p :: P,w :: vs,i+1,m,nd,h1,h2,hk=>by
  show bindC kindOf ((p,w) :: P.zip vs) m x=_
  unfold bindC
  exact yr (i:=i) (List.nodup_cons.mp nd).2 (by simpa using h1) (by simpa using h2) hk
noncomputable def start (N:List Str) (vs:List V):St:=vs.map some++List.replicate (N.length - vs.length) none
noncomputable def U2 (CX:CXT) (P:Program) (w:World) (K:PySem.W.Frag) (mg:Str->Option Value) (base:Heap) (N:List Str) (qual:Str) (scope:Scope) (f:Addr) (cd:Value) (A:Around) (outer:List Env) (s:Shared) (H:Hp) (E:XK):Cx where
 prog:=P
 w:=w
 K:=K
 mg:=mg
 base:=base
 A:=A.deeper (envOfC qual scope s.heap.objs.size f cd)
 N:=N
 s₀:=s
 H₀:=H
 env:=envOfC qual scope s.heap.objs.size f cd
 outer:=outer
 stack:=envOfC qual scope s.heap.objs.size f cd :: outer
 ex:=[]
 calm:=true
 fn:=fun _=>true
 pn:=[]
 xe:=fun e s' =>wpAny (model P w) (A.deeper (envOfC qual scope s.heap.objs.size f cd)) (leaving (envOfC qual scope s.heap.objs.size f cd) e) (fun _ s'' =>CX outer H s E e s'') (fun e' s'' =>CX outer H s E e' s'') s'
theorem qm {sc:Scope} {n:Nat} {x:Str} (h:sc.names.lookup x=some .cell):∃ c,(cellsFrom n sc.names []).lookup x=some c:=by
 have q:=PySem.W.cellsFrom_some sc.names n [] (.inl h)
 exact Option.isSome_iff_exists.mp q
theorem QK {CX:CXT} {P:Program} {w:World} {K:PySem.W.Frag} {mg:Str->Option Value} {base:Heap} {N ps:List Str} {qual:Str} {scope:Scope} {f:Addr} {cd:Value} {A:Around} {outer:List Env} {s s1:Shared} {H:Hp} {E:XK} {us:List Value} {vs:List V}
  (S:zv N ps scope) (hd:A.handled=none) (e0:gZ P w K mg base A outer s H) (hl:vs.length=ps.length) (r:ZY vs us)
  (x:InCallC s s.heap.objs.size (bindL (envOfC qual scope s.heap.objs.size f cd).kindOf (ps.zip us) fun _=>none) (cellsFrom (s.heap.objs.size+1) scope.names []) (bindC (envOfC qual scope s.heap.objs.size f cd).kindOf (ps.zip us) fun _=>none) s1):
  Inv (U2 CX P w K mg base N qual scope f cd A outer s H E) [] (start N vs) H s1:=by
 have hpl:ps.length<=N.length:=by have:=congrArg List.length S.pre; rw [List.length_take] at this; omega
 obtain ⟨h1,tk,rfl,hk⟩:=x.done
 have noA:∀ b:Addr,b ∉ (U2 CX P w K mg base N qual scope f cd A outer s H E).ex:=fun b z=>absurd (show b∈([]:List Addr) from z) (by simp)
 refine ⟨⟨e0.mod,S.kind,rfl,rfl,Nat.le_refl _,fun y z c h1 h2=> ?_,fun y hy=> ?_,fun y c _ h=> ?_,fun _=>hd,Around.frames_deeper e0.frames, .inr ⟨rfl,rfl⟩,fun b z=>absurd z (noA b),e0.bs,e0.bsz,fun b _ _=>noA b,fun b z=>absurd z (noA b),e0.funs,e0.frf⟩,
  rfl,e0.bare,Un.kept hk,⟨_,x.toInCall.ns,fun i y v h1 h2 h3=> ?_⟩,fun y c h=>⟨_,x.cell y c h⟩,e0.hok.fresh (Nat.le_refl _),fun y c h=> ?_,fun p hp=>absurd (show p∈([]:List (Addr×Obj)) from hp) (by simp),e0.hok.kept hk, ?_⟩
 ·exact name_of_addr x.apart (PySem.mem_of_lookup h1) (PySem.mem_of_lookup h2)
 ·have hy:scope.names.lookup y=some .cell\/scope.names.lookup y=some .free:=hy
  rcases hy with hy | hy
  ·exact qm hy
  ·exact absurd rfl (S.nofree _ (PySem.mem_of_lookup hy))
 ·exact Nat.le_of_lt (x.above y c (PySem.mem_of_lookup h))
 ·have hi:i < vs.length:=by
   unfold start at h2
   by_cases hi:i < vs.length
   ·exact hi
   ·rw [List.getElem?_append_right (by simpa using hi)] at h2
    rw [List.getElem?_replicate] at h2
    split at h2 <;> cases h2
  have ha:vs[i]? =some v:=by
   unfold start at h2
   rw [List.getElem?_append_left (by simpa using hi),List.getElem?_map] at h2
   cases e:vs[i]? with
   | none=>rw [e] at h2; cases h2
   | some a=>rw [e] at h2; cases h2; rfl
  obtain ⟨u,hu,rv⟩:=r.get ha
  have hp:ps[i]? =some y:=by
   rw [← S.pre,List.getElem?_take_of_lt (by omega)]; exact h1
  have ndP:ps.Nodup:=by rw [← S.pre]; exact S.nd.sublist (List.take_sublist _ _)
  refine ⟨u,rv, ?_⟩
  rcases S.par y (List.mem_of_getElem? hp) with k | k
  ·exact .inl ⟨k,yq ndP hp hu k⟩
  ·obtain ⟨c,e⟩:=qm (n:=s.heap.objs.size+1) k
   refine .inr ⟨.inl k,c,e, ?_⟩
   have q:=x.cell y c e
   rw [yr ndP hp hu (by show scope.names.lookup y ≠ _; rw [k]; decide)] at q
   exact q
 ·exact e0.hok.fresh (Nat.le_of_lt (x.above y c (PySem.mem_of_lookup h)))
 ·unfold start
  show _=N.length
  rw [List.length_append,List.length_map,List.length_replicate]
  omega
theorem Kt {CX:CXT} {P:Program} {w:World} {K:PySem.W.Frag} {mg:Str->Option Value} {base:Heap} {k:Nat} {f:Addr} {name qual:Str} {params:Arguments} {body:List Stmt} {scope:Scope} {dV kV doc pm cdv ct oc:Value} {an od:Option Addr}
  {osl:Array (Option Value)} {N ps:List Str} {sp:Sp} (lk:K.lookup f=some ⟨oc,od, .func (PySem.W.fnOf name qual params body scope dV kV doc pm an cdv ct),osl⟩) (hcd:PySem.W.codeIn K cdv qual=true) (S:zv N ps scope)
  (len:∀ vs H Q E,sp vs H Q E->vs.length=ps.length)
  (hbody:∀ (A:Around) (outer:List Env) (s:Shared) (H:Hp) (vs:List V) (Q:VK) (E:XK),Wx k (A.deeper (envOfC qual scope s.heap.objs.size f cdv))->sp vs H Q E->
   ∃ t,PSs (U2 CX P w K mg base N qual scope f cdv A outer s H E) body t/\t { nx:=fun _ H' =>Q .non H',rt:=Q } (start N vs) H):
  jF P w K mg base CX (k+1) f (PySem.W.fnOf name qual params body scope dV kV doc pm an cdv ct) ps sp:=by
 refine ⟨len,fun A outer s H args us vs Q E hr e0 hb r hsp=> ?_⟩
 have hl:=len _ _ _ _ hsp
 have KX:K.In s.heap:=e0.mod.kin.keeps fun b o e=>(e0.bs b o e).1
 have lim:s.heap.NoLimit:=e0.mod.nolimit.keeps fun b o e=>(e0.bs b o e).1
 have hkind:∀ y∈ps.zip us,scope.names.lookup y.1=some .local\/(scope.names.lookup y.1=some .cell/\((cellsFrom (s.heap.objs.size+1) scope.names []).lookup y.1).isSome=true):=fun ⟨n,v⟩ hy=>by
  rcases S.par n (List.of_mem_zip hy).1 with q | q
  ·exact .inl q
  ·exact .inr ⟨q,PySem.W.cellsFrom_some _ _ _ (.inl q)⟩
 refine codeAny_call_function hr.depth (KX _ _ lk) rfl S.co S.gen rfl (PySem.W.codeRec_of KX hcd) (hb _ _ _ _ ?_)
 refine wpAny_newFunctionEnv_cells S.kind hkind fun env he s1 x=> ?_
 subst he
 refine ⟨lim.keeps x.toInCall.keep,codeAny_func ?_⟩
 obtain ⟨t,ht,hq⟩:=hbody A outer s H vs Q E (hr.deeper _) hsp
 have I:Inv (U2 CX P w K mg base N qual scope f cdv A outer s H E) [] (start N vs) H s1:=QK S hr.hd e0 hl r x
 refine wpAny_mono (ht [] s1 (start N vs) H _ I hq) (fun fl s' hs=> ?_) fun e s' hs=>hs
 have fin:∀ {σ' :St} {H' :Hp} {v:V} {u:Value},Inv (U2 CX P w K mg base N qual scope f cdv A outer s H E) [] σ' H' s' ->jf v u->Q v H' ->CE outer P w H s Q u s' :=
  fun {σ' H' v u} J rv q=>⟨v,H',J.os,J.bare,J.base,J.hok,rv,q⟩
 cases fl with
 | ret u=>
  obtain ⟨v,σ',H',J,rv,q⟩:=hs
  exact fin J rv q
 | next=>
  obtain ⟨σ',H',J,q⟩:=hs
  exact fin (v:=V.non) (u:=Value.none) J rfl q
 | brk=>
  obtain ⟨_,_,_,q⟩:=hs
  exact False.elim q
 | cont=>
  obtain ⟨_,_,_,q⟩:=hs
  exact False.elim q
end L2
namespace L2
open PySem PySem.Spec PyProof.Rows
section
variable {X:Cx} {x:Str} {p pos:Pos} {e:Expr} {es:List Expr} {t:TA} {id T:String} {r:List V->Hp->VK->Prop}
noncomputable def tCB (r:List V->Hp->VK->Prop) (t:TA):TE:=fun σ H Q=>t σ H fun vs H1=>r vs H1 Q
theorem wF (hc:JL X (.builtin id) r) (hg:Gl X x) (hm:X.mg x=none) (hv:bootBuiltins x=some (.builtin id)) (ha:PA X (e :: es) t) (hn:x ≠ "__name__":=by decide) (hdb:(x == ("__debug__":Str))=false:=by decide)
  (he:starEach (e :: es) X.env=(false,eval e X.env) :: starEach es X.env:=by rfl) (hpl:(backTo pos (starEach es X.env)).any (·.1)=false:=by rfl):PE X (.Call (.Name x p) (e :: es) [] pos) (tCB r t):=by
 intro pins s σ H Q I h
 refine wpAny_Call_Name_kw (uj I hg hm hv ?_ hn hdb)
 exact PyProof.Rows.callWith_builtin1 (thn (ha pos pins s σ H _ I h) fun us s1 ⟨vs,H1,I1,r1,q1⟩=>hc pins s1 σ H1 vs us Q I1 r1 q1) he hpl
theorem Wb (hc:JL X (.type T) r) (hg:Gl X x) (hm:X.mg x=none) (hv:bootBuiltins x=some (.type T)) (ha:PA X (e :: es) t) (hn:x ≠ "__name__":=by decide) (hdb:(x == ("__debug__":Str))=false:=by decide)
  (he:starEach (e :: es) X.env=(false,eval e X.env) :: starEach es X.env:=by rfl) (hpl:(backTo pos (starEach es X.env)).any (·.1)=false:=by rfl):PE X (.Call (.Name x p) (e :: es) [] pos) (tCB r t):=by
 intro pins s σ H Q I h
 refine wpAny_Call_Name_kw (uj I hg hm hv ?_ hn hdb)
 exact PyProof.Rows.callWith_type1 (thn (ha pos pins s σ H _ I h) fun us s1 ⟨vs,H1,I1,r1,q1⟩=>hc pins s1 σ H1 vs us Q I1 r1 q1) he hpl
end
end L2
namespace HT
open PySem PyProof.Rows
section
open PySem.SeqAt
open PySem.AutoSeq1 (wpAny_loadPart')
open PySem.MeetsSeq PySem.MeetsSeq2 PySem.MeetsSeq3
end
section
variable {prog:Program} {w:World} {A:Around} {E:Value->Shared->Prop} {s:Shared}
theorem cat_tup {t b:Addr} {vs ws:List Value} {Q:Value->Shared->Prop} (ht:IsTup s.heap t vs.toArray) (hb:IsTup s.heap b ws.toArray) (hv:vs ≠ [])
  (h1:ws=[]->Q (.ref t) s) (h2:ws ≠ []->Q (.ref s.heap.objs.size) { s with heap:=s.heap.push { cls:= .type "tuple",data:= .seq (vs++ws).toArray } })
  (hsz:vs.length+ws.length<=sizeLine):wpAny (model prog w) A (binaryOp .Add (.ref t) (.ref b)) Q E s:=by
 obtain ⟨⟨cls,dd,data,sl⟩,ho,hc,n,hd⟩:=id ht
 obtain ⟨⟨cls2,dd2,data2,sl2⟩,ho2,hc2,n2,hd2⟩:=id hb
 simp only at hc hd hc2 hd2
 subst hc hd hc2 hd2
 have e:vs.toArray++ws.toArray=(vs++ws).toArray:=by simp
 by_cases hw:ws=[]
 ·exact concat_meets ⟨_,ho,rfl⟩ ⟨_,ho2,rfl⟩ noFill_tuple_add seq_tuple_add PySem.F.slot_tuple_add PySem.F.entry_tuple_add (PySem.F.args_tuple_add_2 _ _)
   (tuple_addW1 t b vs.toArray ws.toArray n n2 dd dd2 sl sl2 (by simpa using hv) (by simp [hw])) ⟨ho,ho2,h1 hw⟩
 ·refine concat_meets ⟨_,ho,rfl⟩ ⟨_,ho2,rfl⟩ noFill_tuple_add seq_tuple_add PySem.F.slot_tuple_add PySem.F.entry_tuple_add (PySem.F.args_tuple_add_2 _ _)
   (tuple_addW2 t b vs.toArray ws.toArray n n2 dd dd2 sl sl2 (by simpa using hv) (by simpa using hw) (by rw [List.size_toArray,List.size_toArray]; exact hsz)) ⟨ho,ho2, ?_⟩
  rw [e]
  exact h2 hw
noncomputable def sIx (n d:Nat):Option Int->Nat
 | none=>d
 | some v=>if v < 0 then (v+(n:Int)).toNat else min v.toNat n
theorem sIx_none (n d:Nat):sIx n d none=d:=rfl
theorem sIx_nat (n d k:Nat):sIx n d (some (k:Int))=min k n:=by
 show (if (k:Int) < 0 then ((k:Int)+(n:Int)).toNat else min (k:Int).toNat n)=min k n
 rw [if_neg (by omega),Int.toNat_natCast]
theorem Ku (n d:Nat) (hd:d<=n) (o:Option Int):sIx n d o<=n:=by
 cases o with
 | none=>exact hd
 | some v=>
  show (if v < 0 then (v+(n:Int)).toNat else min v.toNat n)<=n
  by_cases hv:v < 0
  ·rw [if_pos hv]; omega
  ·rw [if_neg hv]; exact Nat.min_le_right _ _
theorem QL (v:Int) (n d:Nat):(if v < 0 then max (v+(n:Int)) 0 else min v (n:Int))=((sIx n d (some v):Nat):Int):=by
 show (if v < 0 then max (v+(n:Int)) 0 else min v (n:Int))=(((if v < 0 then (v+(n:Int)).toNat else min v.toNat n):Nat):Int)
 by_cases hv:v < 0
 ·simp only [if_pos hv]; omega
 ·simp only [if_neg hv]; omega
theorem qV (lo hi:Option Int) (n:Nat):Builtin.Slice.sliceAdjust lo hi 1 (n:Int)=(((sIx n 0 lo:Nat):Int),((sIx n n hi:Nat):Int)):=by
 have h1:¬ ((1:Int) < 0):=by omega
 unfold Builtin.Slice.sliceAdjust
 simp only [h1,if_false]
 refine Prod.ext ?_ ?_
 ·cases lo with
  | none=>rfl
  | some v=>exact QL v n 0
 ·cases hi with
  | none=>rfl
  | some v=>exact QL v n n
theorem qW (i j:Nat):Builtin.Slice.slicePlaces (i:Int) (j:Int) 1=j - i:=by
 unfold Builtin.Slice.slicePlaces
 have h1:(1:Int) > 0:=by omega
 simp only [h1,if_true,Int.ediv_one]
 split <;> omega
theorem Uk {v:Value} {o:Option Int} {Q:Option Int->Shared->Prop} (p:IsPart v o) (h:Q o s):wpAny (model prog w) A (Builtin.Slice.slicePartIndex v) Q E s:=by
 cases p with
 | none=>exact slicePart_none h
 | int i t=>exact slicePart_int h
theorem sliceApplied_gen {sl:Addr} {vl vu:Value} {lo hi:Option Int} {n:Nat} {Q:Int×Int×Nat->Shared->Prop} (hs:s.heap.IsSliceOf sl vl vu .none) (pl:IsPart vl lo) (pu:IsPart vu hi)
  (h:Q (((sIx n 0 lo:Nat):Int),1,sIx n n hi - sIx n 0 lo) s):wpAny (model prog w) A (Builtin.Slice.sliceApplied (.ref sl) (pure (n:Int))) Q E s:=by
 obtain ⟨os,hos,hcs,hds⟩:=id hs
 unfold Builtin.Slice.sliceApplied Builtin.Slice.sliceFields
 refine wpAny_bind (wpAny_bind (wpAny_field hos hds (x:=vl) rfl (wpAny_bind (wpAny_field hos hds (x:=vu) rfl (wpAny_bind (wpAny_field hos hds (x:= .none) rfl (wpAny_pure ?_)))))))
 refine wpAny_bind (slicePart_none ?_)
 show wpAny _ _ (if ((1:Int) == 0)=true then _ else _) _ _ s
 rw [if_neg (by decide)]
 refine wpAny_bind (Uk pl (wpAny_bind (Uk pu (wpAny_bind (wpAny_pure ?_)))))
 show wpAny _ _ (match Builtin.Slice.sliceAdjust lo hi 1 (n:Int) with | (lo,hi)=>pure (lo,(1:Int),Builtin.Slice.slicePlaces lo hi 1)) _ _ s
 rw [qV lo hi n]
 show wpAny _ _ (pure (((sIx n 0 lo:Nat):Int),(1:Int),Builtin.Slice.slicePlaces ((sIx n 0 lo:Nat):Int) ((sIx n n hi:Nat):Int) 1)) _ _ s
 rw [qW]
 exact wpAny_pure h
theorem VA (xs:Array Value) (i k:Nat):((List.range k).filterMap fun (m:Nat)=>xs[((i:Int)+(m:Int)*1).toNat]?).toArray=((xs.toList.drop i).take k).toArray:=by
 have e:(fun (m:Nat)=>xs[((i:Int)+(m:Int)*1).toNat]?)=fun m=>xs[i+m]? :=by
  funext m
  have:((i:Int)+(m:Int)*1).toNat=i+m:=by omega
  rw [this]
 rw [e]
 have:=pick_run xs i k
 rw [List.filterMap_map] at this
 have e2:((fun x=>xs[x]?) ∘ fun x=>i+x)=fun m=>xs[i+m]? :=rfl
 rw [e2] at this
 rw [this]
theorem getItem_tuple_cut {t sl:Addr} {items:Array Value} {vl vu:Value} {lo hi:Option Int} {Q:Value->Shared->Prop} (ht:IsTup s.heap t items) (hs:s.heap.IsSliceOf sl vl vu .none) (pl:IsPart vl lo) (pu:IsPart vu hi)
  (hw:¬ (sIx items.size 0 lo=0/\sIx items.size items.size hi=items.size))
  (h:Q (.ref s.heap.objs.size) { s with heap:=s.heap.push { cls:= .type "tuple",data:= .seq ((items.toList.drop (sIx items.size 0 lo)).take (sIx items.size items.size hi - sIx items.size 0 lo)).toArray } })
  (hsz:items.size<=sizeLine):wpAny (model prog w) A (getItem (.ref t) (.ref sl)) Q E s:=by
 have htake:sizeOk (.seq ((items.toList.drop (sIx items.size 0 lo)).take (sIx items.size items.size hi - sIx items.size 0 lo)).toArray):=by
  show ((items.toList.drop (sIx items.size 0 lo)).take (sIx items.size items.size hi - sIx items.size 0 lo)).toArray.size<=sizeLine
  rw [List.size_toArray,List.length_take,List.length_drop,Array.length_toList]
  omega
 have hj:sIx items.size items.size hi<=items.size:=Ku _ _ (Nat.le_refl _) hi
 obtain ⟨os,hos,hcs,hds⟩:=id hs
 have hTs:s.TypeIs (.ref sl) "slice":=⟨os,hos,hcs⟩
 unfold getItem
 try with_reducible refine wpAny_holding ?_
 first | refine wpAny_bind (wpAny_pure ?_) | skip
 refine wpAny_bind (wpAny_sequenceKey ht.typeIs (by decide) ?_)
 refine wpAny_bind (wpAny_callSpecial?_slot (name:=Str.ofString "__getitem__") ht.typeIs PyProof.Rows.slot_tuple_getitem
  (wpAny_call_entry PyProof.Rows.slot_tuple_getitem ht.typeIs entry_tuple_getitem ?_ (args_tuple_getitem _ _)))
 show wpAny _ _ (Builtin.Tuple.tupleItemsOf (.ref t) >>= _) _ _ s
 refine wpAny_bind (tupleItemsOf_ ht ?_)
 refine wpAny_bind (wpAny_typeOf hTs ?_)
 rw [if_pos (by decide)]
 refine wpAny_bind (sliceApplied_gen hs pl pu ?_)
 have hno:¬ ((((sIx items.size 0 lo:Nat):Int) == 0 && (1:Int) == 1 && (sIx items.size items.size hi - sIx items.size 0 lo) == items.size)=true):=by
  intro q
  rw [Bool.and_eq_true,Bool.and_eq_true] at q
  have q1:((sIx items.size 0 lo:Nat):Int)=0:=eq_of_beq q.1.1
  have q2:sIx items.size items.size hi - sIx items.size 0 lo=items.size:=eq_of_beq q.2
  exact hw ⟨by omega,by omega⟩
 show wpAny _ _ (if (((sIx items.size 0 lo:Nat):Int) == 0 && (1:Int) == 1 && (sIx items.size items.size hi - sIx items.size 0 lo) == items.size)=true then _ else _) _ _ s
 rw [if_neg hno,VA]
 first
  | exact wpAny_bind (m:=Builtin.Tuple.tupleExact _) (wpAny_newObj_type (wpAny_pure ⟨_,rfl,wpAny_pure h⟩) htake)
  | exact wpAny_bind (m:=Builtin.Tuple.tupleExact _) (wpAny_newObj_type (wpAny_bind (wpAny_pure (wpAny_pure ⟨_,rfl,wpAny_pure h⟩))) htake)
  | exact wpAny_bind (wpAny_bind (m:=Builtin.Tuple.tupleExact _) (wpAny_newObj_type (wpAny_pure (wpAny_pure ⟨_,rfl,wpAny_pure h⟩)) htake))
  | exact wpAny_bind (wpAny_bind (m:=Builtin.Tuple.tupleExact _) (wpAny_newObj_type (wpAny_pure ⟨_,rfl,wpAny_pure h⟩) htake))
end
end HT
namespace L2
open PySem PySem.Spec PyProof.Rows
noncomputable abbrev TO:=St->Hp->(Option Int->Hp->Prop)->Prop
noncomputable def PO (X:Cx) (e:Option Expr) (t:TO):Prop:=
 ∀ (pins:List (Addr×Obj)) (s:Shared) (σ:St) (H:Hp) (Q:Option Int->Hp->Prop),Inv X pins σ H s->t σ H Q->
  wpAny (model X.prog X.w) X.A (evalPart e X.env) (fun u s' =>∃ o H',Inv X pins σ H' s' /\IsPart u o/\Q o H') X.xe s
noncomputable def Xl:TO:=fun _ H Q=>Q none H
noncomputable def GA (t:TE):TO:=fun σ H Q=>t σ H fun x H1=>∃ i,x= .int i/\Q (some i) H1
section
variable {X:Cx} {e:Expr} {te:TE} {lo hi:Option Expr} {tl th:TO} {pos p2:Pos}
theorem Xm:PO X none Xl:=by
 intro pins s σ H Q I h
 rw [evalPart_none]
 exact wpAny_pure ⟨none,H,I, .none,h⟩
theorem Xn (h:PE X e te):PO X (some e) (GA te):=by
 intro pins s σ H Q I hw
 rw [evalPart_some]
 refine thn (h pins s σ H _ I hw) fun u s1 ⟨x,H1,I1,r1,q1⟩=> ?_
 obtain ⟨i,rfl,q⟩:=q1
 obtain ⟨t,rfl⟩:=r1
 exact ⟨some i,H1,I1, .int i t,q⟩
noncomputable def SlR (X:Cx) (r:V->Option Int->Option Int->Hp->VK->Prop):Prop:=
 ∀ (pins:List (Addr×Obj)) (s:Shared) (σ:St) (H:Hp) (x:V) (v vl vu:Value) (lo hi:Option Int) (sl:Addr) (Q:VK),Inv X pins σ H s->jf x v->s.heap.IsSliceOf sl vl vu .none->IsPart vl lo->IsPart vu hi->r x lo hi H Q->
  ∃ T id,typeLookup (.type T) "__getitem__"=pure (some (.builtin id))/\s.TypeIs v T/\wpAny (model X.prog X.w) X.A (getItem v (.ref sl)) (EP X pins σ Q) X.xe s
theorem SlR.or {r r' :V->Option Int->Option Int->Hp->VK->Prop} (h:SlR X r) (h' :SlR X r'):SlR X (fun x lo hi H Q=>r x lo hi H Q\/r' x lo hi H Q):=by
 intro pins s σ H x v vl vu lo hi sl Q I rx hs pl pu q
 rcases q with q | q
 ·exact h pins s σ H x v vl vu lo hi sl Q I rx hs pl pu q
 ·exact h' pins s σ H x v vl vu lo hi sl Q I rx hs pl pu q
noncomputable def tSl (r:V->Option Int->Option Int->Hp->VK->Prop) (te:TE) (tl th:TO):TE:=fun σ H Q=>te σ H fun x H1=>tl σ H1 fun l H2=>th σ H2 fun u H3=>r x l u H3 Q
theorem VB {r:V->Option Int->Option Int->Hp->VK->Prop} (hr:SlR X r) (he:PE X e te) (hl:PO X lo tl) (hu:PO X hi th):PE X (.Subscript e (.Slice lo hi none p2) pos) (tSl r te tl th):=by
 intro pins s σ H Q I h
 refine Subscript_ (thn (he pins s σ H _ I h) fun v s1 ⟨x,H1,I1,r1,q1⟩=> ?_)
 refine wpAny_Slice (thn (hl pins s1 σ H1 _ I1 q1) fun vl s2 ⟨l,H2,I2,pl,q2⟩=>thn (hu pins s2 σ H2 _ I2 q2) fun vu s3 ⟨u,H3,I3,pu,q3⟩=> ?_)
 rw [evalPart_none]
 refine wpAny_pure ?_
 have I4:Inv X pins σ H3 { s3 with heap:=s3.heap.push { cls:= .type "slice",data:= .fields #[vl,vu, .none] } }:=I3.kept (t' :=s3.toks) fun b ob q=>Heap.get?_push_of_some _ q
 obtain ⟨T,id,hT,ht,hg⟩:=hr pins { s3 with heap:=s3.heap.push { cls:= .type "slice",data:= .fields #[vl,vu, .none] } } σ H3 x v vl vu l u s3.heap.objs.size Q I4 r1 (Heap.IsSliceOf.new ..) pl pu q3
 show wpAny (model X.prog X.w) X.A (subscriptTail e (.Slice lo hi none p2) v (.ref s3.heap.objs.size)) (EP X pins σ Q) X.xe { s3 with heap:=s3.heap.push { cls:= .type "slice",data:= .fields #[vl,vu, .none] } }
 exact tail_any (ops:=[.ref s3.heap.objs.size,v]) ht hT hg (by with_unfolding_all rfl)
noncomputable def xL (xs:List V) (lo hi:Option Int):List V:=(xs.drop (HT.sIx xs.length 0 lo)).take (HT.sIx xs.length xs.length hi - HT.sIx xs.length 0 lo)
theorem uk (xs:List V) (lo hi:Option Int):(xL xs lo hi).length<=xs.length:=by
 unfold xL
 rw [List.length_take,List.length_drop]
 omega
noncomputable def rSlT (K:PySem.W.Frag):V->Option Int->Option Int->Hp->VK->Prop:=fun x lo hi H Q=>∃ a xs,x= .ref a/\SqT K H a xs/\
 ¬ (HT.sIx xs.length 0 lo=0/\HT.sIx xs.length xs.length hi=xs.length)/\∀ p,H p=none->Q (.ref p) (upd H p (.tup (xL xs lo hi)))
theorem Kv:SlR X (rSlT X.K):=by
 intro pins s σ H x v vl vu lo hi sl Q I rx hs pl pu h
 obtain ⟨a,xs,rfl,hx,hw,q⟩:=h
 cases rx
 obtain ⟨its,r,ht,hz⟩:=I.tuple hx
 have hlen:its.toArray.size=xs.length:=by rw [List.size_toArray]; exact r.length.symm
 refine ⟨"tuple",_,PyProof.Rows.slot_tuple_getitem.lookup,ht.typeIs, ?_⟩
 refine HT.getItem_tuple_cut ht hs pl pu (by rw [hlen]; exact hw) ?_ (by rw [hlen]; exact hz)
 rw [hlen]
 refine ⟨.ref s.heap.objs.size,_,I.laid (t' :=s.toks) (o:= .tup (xL xs lo hi)) (fun b ob q=>Heap.get?_push_of_some _ q) (Nat.le_refl _) ?_,rfl,q _ (I.hok.fresh (Nat.le_refl _))⟩
 exact ⟨Nat.le_trans (uk xs lo hi) hz,_,(r.drop (HT.sIx xs.length 0 lo)).take (HT.sIx xs.length xs.length hi - HT.sIx xs.length 0 lo),IsTup.new _ _⟩
noncomputable def GB (K:PySem.W.Frag):R2:=fun x y H Q=>∃ a b xs ys,x= .ref a/\y= .ref b/\SqT K H a xs/\SqT K H b ys/\xs ≠ []/\xs.length+ys.length<=sizeLine/\
 (ys=[]->Q (.ref a) H)/\(ys ≠ []->∀ p,H p=none->Q (.ref p) (upd H p (.tup (xs++ys))))
theorem ZY.nil_iff {xs:List V} {us:List Value} (r:ZY xs us):us=[]↔xs=[]:=by
 cases r with
 | nil=>simp
 | cons _ _=>simp
theorem Xo:OpR X (binaryOp .Add) (GB X.K):=by
 intro pins s σ H x y v u Q I rx ry h
 obtain ⟨a,b,xs,ys,rfl,rfl,ha,hb,hx,hz,q1,q2⟩:=h
 cases rx
 cases ry
 obtain ⟨its,r1,p1,_⟩:=I.tuple ha
 obtain ⟨its2,r2,p2,_⟩:=I.tuple hb
 refine HT.cat_tup p1 p2 (fun z=>hx (r1.nil_iff.mp z)) (fun z=>⟨.ref a,H,I,rfl,q1 (r2.nil_iff.mp z)⟩) (fun z=> ?_) (by rw [← r1.length,← r2.length]; exact hz)
 refine ⟨.ref s.heap.objs.size,_,I.laid (t' :=s.toks) (o:= .tup (xs++ys)) (fun b ob q=>Heap.get?_push_of_some _ q) (Nat.le_refl _) ?_,rfl,q2 (fun w=>z (r2.nil_iff.mpr w)) _ (I.hok.fresh (Nat.le_refl _))⟩
 exact ⟨by rw [List.length_append]; exact hz,_,r1.append r2,IsTup.new _ _⟩
end
end L2
namespace L2
open PySem PySem.Spec PyProof.Rows
noncomputable def ixN (n:Nat) (i:Int):Option Nat:=if 0<=i then (if i < n then some i.toNat else none) else if -(n:Int)<=i then some (i+n).toNat else none
noncomputable def atI {α:Type} (xs:List α) (i:Int):Option α:=(ixN xs.length i).bind fun j=>xs[j]?
theorem Xp {n:Nat} {i:Int} {j:Nat} (h:ixN n i=some j):seqIndex? i n=some j/\j < n/\ -(n:Int)<=i/\i < n:=by
 unfold ixN at h
 by_cases h0:0<=i
 ·rw [if_pos h0] at h
  by_cases h1:i < n
  ·rw [if_pos h1] at h
   have e:i.toNat=j:=Option.some.inj h
   exact ⟨by rw [seqIndex_of h0 h1,e],by omega,by omega,h1⟩
  ·rw [if_neg h1] at h; cases h
 ·rw [if_neg h0] at h
  by_cases h1: -(n:Int)<=i
  ·rw [if_pos h1] at h
   have e:(i+n).toNat=j:=Option.some.inj h
   exact ⟨by rw [seqIndex_neg (by omega) h1,e],by omega,h1,by omega⟩
  ·rw [if_neg h1] at h; cases h
theorem Yu {α:Type} {xs:List α} {i:Int} {v:α} (h:atI xs i=some v):∃ j,seqIndex? i xs.length=some j/\xs[j]? =some v/\j < xs.length/\ -(xs.length:Int)<=i/\i < xs.length:=by
 unfold atI at h
 cases e:ixN xs.length i with
 | none=>rw [e] at h; cases h
 | some j=>
  rw [e] at h
  obtain ⟨h1,h2,h3,h4⟩:=Xp e
  exact ⟨j,h1,h,h2,h3,h4⟩
theorem Jv {α:Type} {xs:List α} {j:Nat} {v:α} (h:xs[j]? =some v):atI xs (j:Int)=some v:=by
 have hj:j < xs.length:=(List.getElem?_eq_some_iff.mp h).1
 have e:ixN xs.length (j:Int)=some j:=by
  unfold ixN
  rw [if_pos (by omega),if_pos (by omega)]; simp
 unfold atI; rw [e]; exact h
noncomputable def QM (b:Expr):Prop:=∀ o i,subscripted b false o i=operate [o,i] (getItem o i)
noncomputable def IxR (X:Cx) (r:R2):Prop:=
 ∀ (value slice:Expr) (pins:List (Addr×Obj)) (s:Shared) (σ:St) (H:Hp) (x y:V) (v u:Value) (Q:VK),Inv X pins σ H s->jf x v->jf y u->r x y H Q->
  subscripted slice false v u=operate [v,u] (getItem v u)->wpAny (model X.prog X.w) X.A (subscriptTail value slice v u) (EP X pins σ Q) X.xe s
noncomputable def MtR (X:Cx) (id:String) (r:V->List V->Hp->VK->Prop):Prop:=
 ∀ (pins:List (Addr×Obj)) (s:Shared) (σ:St) (H:Hp) (x:V) (xs:List V) (v:Value) (us:List Value) (Q:VK),Inv X pins σ H s->jf x v->ZY xs us->r x xs H Q->
  wpAny (model X.prog X.w) X.A (call (.builtin id) (v :: us)) (EP X pins σ Q) X.xe s
section
variable {X:Cx} {a b:Expr} {ta tb:TE} {pos:Pos}
theorem IxR.or {r r' :R2} (h:IxR X r) (h' :IxR X r'):IxR X (fun x y H Q=>r x y H Q\/r' x y H Q):=by
 intro value slice pins s σ H x y v u Q I rx ry q hs
 rcases q with q | q
 ·exact h value slice pins s σ H x y v u Q I rx ry q hs
 ·exact h' value slice pins s σ H x y v u Q I rx ry q hs
theorem GC {r:R2} (hr:IxR X r) (ha:PE X a ta) (hb:PE X b tb) (hs:QM b):PE X (.Subscript a b pos) (tOp r ta tb):=by
 intro pins s σ H Q I h
 exact Subscript_ (Gp ha hb I h fun v u s2 x y H2 I2 rx ry q=>hr a b pins s2 σ H2 x y v u Q I2 rx ry q (hs _ _))
noncomputable def rIxL (K:PySem.W.Frag):R2:=fun x y H Q=>∃ p xs i v,x= .ref p/\y= .int i/\SqL K H p xs/\atI xs i=some v/\Q v H
noncomputable def rIxT (K:PySem.W.Frag):R2:=fun x y H Q=>∃ p xs i v,x= .ref p/\y= .int i/\SqT K H p xs/\atI xs i=some v/\Q v H
noncomputable def rIxS:R2:=fun x y H Q=>∃ z i c,x= .str z/\y= .int i/\z.length<=sizeLine/\atI z.cps.toList i=some c/\Q (.str ⟨#[c]⟩) H
theorem Xq:IxR X (rIxL X.K):=by
 intro value slice pins s σ H x y v u Q I rx ry h hs
 obtain ⟨p,xs,i,z,rfl,rfl,hq,he,q⟩:=h
 cases rx
 obtain ⟨t,rfl⟩:=ry
 obtain ⟨its,r,pl,hz⟩:=I.list hq
 obtain ⟨j,h1,h2,h3,h4,h5⟩:=Yu he
 obtain ⟨w,ew,rw'⟩:=r.get h2
 have hl:=r.length
 have hn:=Uj
 have fin:EP X pins σ Q w s:=⟨z,H,I,rw',q⟩
 by_cases h0:0<=i
 ·have hj:i.toNat=j:=by
   rw [seqIndex_of h0 h5] at h1
   exact Option.some.inj h1
  exact item_listR pl.isList h0 (by omega) (by rw [hj]; simpa using ew) fin hs
 ·have hj:(i+(its.toArray.size:Int)).toNat=j:=by
   rw [seqIndex_neg (by omega) h4] at h1
   rw [List.size_toArray,← hl]
   exact Option.some.inj h1
  exact subscriptTail_builtinR (x:=w) pl.isList.typeIs slot_list_getitem.lookup
   (wpAny_getItem_list_neg (Q:=fun r s' =>r=w/\EP X pins σ Q r s') pl.isList (by omega) (by rw [List.size_toArray] <;> omega) (by omega) (by rw [hj]; simpa using ew) ⟨rfl,fin⟩) hs
theorem Kw:IxR X (rIxT X.K):=by
 intro value slice pins s σ H x y v u Q I rx ry h hs
 obtain ⟨p,xs,i,z,rfl,rfl,hq,he,q⟩:=h
 cases rx
 obtain ⟨t,rfl⟩:=ry
 obtain ⟨its,r,pl,hz⟩:=I.tuple hq
 obtain ⟨j,h1,h2,h3,h4,h5⟩:=Yu he
 obtain ⟨w,ew,rw'⟩:=r.get h2
 have hl:=r.length
 have hn:=Uj
 have fin:EP X pins σ Q w s:=⟨z,H,I,rw',q⟩
 exact subscriptTail_builtinR (x:=w) pl.typeIs slot_tuple_getitem.lookup
  (getItem_tuple (j:=j) (Q:=fun r s' =>r=w/\EP X pins σ Q r s') pl (by omega) (by omega) (by rw [List.size_toArray,← hl]; exact h1) (by simpa using ew) ⟨rfl,fin⟩) hs
theorem Kx:IxR X rIxS:=by
 intro value slice pins s σ H x y v u Q I rx ry h hs
 obtain ⟨z,i,c,rfl,rfl,hz,he,q⟩:=h
 obtain ⟨t,rfl⟩:=rx
 obtain ⟨t',rfl⟩:=ry
 obtain ⟨j,h1,h2,h3,h4,h5⟩:=Yu he
 have hl:z.cps.toList.length=z.length:=by simp [Str.length]
 rw [hl] at h1 h4 h5
 have hn:=Uj
 exact tail_any (typeIs_str s z t) slot_str_getitem.lookup (getItem_str (c:=c) (by
  have e1:decide (i < -(2 ^ 63:Int))=false:=decide_eq_false (by omega)
  have e2:decide (i ≥ 2 ^ 63)=false:=decide_eq_false (by omega)
  rw [e1,e2,Bool.or_false]) (by rw [h1]; simpa using h2) ⟨.str ⟨#[c]⟩,H,I.tok _,⟨_,rfl⟩,q⟩) hs
noncomputable def rIx (K:PySem.W.Frag):R2:=fun x y H Q=>rIxL K x y H Q\/rIxT K x y H Q\/rIxS x y H Q
theorem Ky:IxR X (rIx X.K):=Xq.or (Kw.or Kx)
theorem yt (lo hi:Option Int) (n:Nat):(sliceBounds lo hi none n).1=((HT.sIx n 0 lo:Nat):Int)/\(sliceBounds lo hi none n).2.1=((HT.sIx n n hi:Nat):Int)/\(sliceBounds lo hi none n).2.2=1:=by
 refine ⟨?_, ?_,rfl⟩
 ·cases lo with
  | none=>simp [sliceBounds,HT.sIx]
  | some i=>
   simp only [sliceBounds,HT.sIx,Option.getD_none,show (1:Int) > 0 by decide,if_true]
   by_cases h:i < 0
   ·simp only [h,if_true] <;> omega
   ·simp only [h,if_false] <;> omega
 ·cases hi with
  | none=>simp [sliceBounds,HT.sIx]
  | some i=>
   simp only [sliceBounds,HT.sIx,Option.getD_none,show (1:Int) > 0 by decide,if_true]
   by_cases h:i < 0
   ·simp only [h,if_true] <;> omega
   ·simp only [h,if_false] <;> omega
theorem UE (its:List Value) (lo hi:Option Int):slicePick its.toArray lo hi none=((its.drop (HT.sIx its.length 0 lo)).take (HT.sIx its.length its.length hi - HT.sIx its.length 0 lo)).toArray:=by
 obtain ⟨h1,h2,h3⟩:=yt lo hi its.toArray.size
 unfold slicePick
 rw [h1,h2,h3]
 simp only [sliceRange_one,pick_run,List.size_toArray] <;> rfl
noncomputable def rSlL (K:PySem.W.Frag):V->Option Int->Option Int->Hp->VK->Prop:=fun x lo hi H Q=>∃ a xs,x= .ref a/\SqL K H a xs/\∀ p,H p=none->Q (.ref p) (upd H p (.lst (xL xs lo hi)))
theorem Xr:SlR X (rSlL X.K):=by
 intro pins s σ H x v vl vu lo hi sl Q I rx hs pl pu h
 obtain ⟨a,xs,rfl,hx,q⟩:=h
 cases rx
 obtain ⟨its,r,ht,hz⟩:=I.list hx
 have hlen:=r.length
 refine ⟨"list",_,slot_list_getitem.lookup,ht.isList.typeIs, ?_⟩
 refine wpAny_getItem_list_slice ht.isList hs pl pu .none (by simp) ?_ (by rw [List.size_toArray] <;> omega)
 rw [UE,← hlen]
 refine ⟨.ref s.heap.objs.size,_,I.laid (t' :=s.toks) (o:= .lst (xL xs lo hi)) (fun b ob q=>Heap.get?_push_of_some _ q) (Nat.le_refl _) ?_,rfl,q _ (I.hok.fresh (Nat.le_refl _))⟩
 exact ⟨Nat.le_trans (uk xs lo hi) hz,_,0,(r.drop (HT.sIx xs.length 0 lo)).take (HT.sIx xs.length xs.length hi - HT.sIx xs.length 0 lo),Heap.get?_push_size _ rfl⟩
theorem yu:JL X (.builtin "len") (fun xs H Q=>∃ p ys,xs=[.ref p]/\(SqL X.K H p ys\/SqT X.K H p ys)/\Q (.int ys.length) H):=by
 intro pins s σ H xs us Q I r h
 obtain ⟨p,ys,rfl,hq,q⟩:=h
 obtain ⟨u,rfl,rx⟩:=Ww r
 cases rx
 have hn:=Uj
 rcases hq with hq | hq
 ·obtain ⟨its,r',pl,hz⟩:=I.list hq
  have hlen:=r'.length
  exact Calls.call_len_list pl.isList (by simp only [List.size_toArray] <;> omega) ⟨.int ys.length,H,I.tok _,⟨s.toks+1,by rw [List.size_toArray,hlen]⟩,q⟩
 ·obtain ⟨its,r',pl,hz⟩:=I.tuple hq
  have hlen:=r'.length
  exact len_tuple pl (by simp only [List.size_toArray] <;> omega) ⟨.int ys.length,H,I.tok _,⟨s.toks+1,by rw [List.size_toArray,hlen]⟩,q⟩
theorem yv:JL X (.builtin "len") (fun xs H Q=>∃ z,xs=[.str z]/\z.length<=sizeLine/\Q (.int z.length) H):=by
 intro pins s σ H xs us Q I r h
 obtain ⟨z,rfl,hz,q⟩:=h
 obtain ⟨u,rfl,t,rfl⟩:=Ww r
 have hn:=Uj
 exact len_str (by omega) ⟨.int z.length,H,I.tok _,⟨_,rfl⟩,q⟩
theorem JL.or {f:Value} {r r' :List V->Hp->VK->Prop} (h:JL X f r) (h' :JL X f r'):JL X f (fun xs H Q=>r xs H Q\/r' xs H Q):=by
 intro pins s σ H xs us Q I rs q
 rcases q with q | q
 ·exact h pins s σ H xs us Q I rs q
 ·exact h' pins s σ H xs us Q I rs q
theorem UF:JL X (.type "tuple") (fun xs H Q=>∃ p ys,xs=[.ref p]/\((SqL X.K H p ys/\∀ l,H l=none->Q (.ref l) (upd H l (.tup ys)))\/(SqT X.K H p ys/\Q (.ref p) H))):=by
 intro pins s σ H xs us Q I r h
 obtain ⟨p,ys,rfl,h⟩:=h
 obtain ⟨u,rfl,rx⟩:=Ww r
 cases rx
 rcases h with ⟨hq,q⟩ | ⟨hq,q⟩
 ·obtain ⟨its,r',pl,hz⟩:=I.list hq
  have hlen:=r'.length
  refine call_tuple_list pl.isList (fun h' kp=> ?_) (by simp only [List.size_toArray] <;> omega)
  have I1:Inv X pins σ H { s with heap:=h' }:=I.kept (t' :=s.toks) kp
  have I2:Inv X pins σ (upd H h'.objs.size (.tup ys)) { s with heap:=h'.push { cls:= .type "tuple",data:= .seq its.toArray } }:=
   I1.laid (t' :=s.toks) (fun b o e=>Heap.get?_push_of_some _ e) (Nat.le_refl _) (show j7 X.prog X.w _ _ _ (.tup ys) from ⟨hz,its,r',IsTup.new _ _⟩)
  exact ⟨.ref h'.objs.size,_,I2,rfl,q _ (I1.hok.fresh (Nat.le_refl _))⟩
 ·obtain ⟨its,r',pl,hz⟩:=I.tuple hq
  exact call_tuple_same pl ⟨.ref p,H,I,rfl,q⟩
noncomputable def tyV (K:PySem.W.Frag) (T:String) (x:V) (H:Hp):Prop:=match x with
 | .str _=>T="str"
 | .int _=>T="int"
 | .ref p=>(T="list"/\∃ xs,SqL K H p xs)\/(T="tuple"/\∃ o,K.lookup p=some o/\o.cls= .type "tuple"/\o.dict=none)\/
   (T="dict"/\((∃ kvs,H p=some (.dK kvs))\/∃ kvs,H p=some (.dT kvs)))\/(T="set"/\∃ S n,H p=some (.set S n))
 | _=>False
theorem Kz {pins:List (Addr×Obj)} {σ:St} {H:Hp} {s:Shared} {T:String} {x:V} {v:Value} (I:Inv X pins σ H s) (r:jf x v) (ty:tyV X.K T x H):
  s.TypeIs v T/\∀ a,v= .ref a->∃ ob,s.heap.get? a=some ob/\ob.dict=none:=by
 cases x with
 | str z=>
  obtain ⟨t,rfl⟩:=r
  cases (show T="str" from ty)
  exact ⟨typeIs_str s z t,fun _ e=>nomatch e⟩
 | int i=>
  obtain ⟨t,rfl⟩:=r
  cases (show T="int" from ty)
  exact ⟨typeIs_int s i t,fun _ e=>nomatch e⟩
 | ref p=>
  cases r
  rcases ty with ⟨rfl,xs,hq⟩ | ⟨rfl,o,hk,hc,hd⟩ | ⟨rfl,hk⟩ | ⟨rfl,S,n,hk⟩
  ·obtain ⟨its,_,pl,_⟩:=I.list hq
   refine ⟨pl.isList.typeIs,fun a e=> ?_⟩
   cases e
   obtain ⟨o,n,e,c,hd,_⟩:=pl
   exact ⟨o,e,hd⟩
  ·refine ⟨⟨o,I.kIn p o hk,hc⟩,fun a e=> ?_⟩
   cases e
   exact ⟨o,I.kIn _ o hk,hd⟩
  ·have z:∃ o,s.heap.get? p=some o/\o.ExactDict:=by
    rcases hk with ⟨kvs,hk⟩ | ⟨kvs,hk⟩
    ·obtain ⟨_,_,_,_,o,_,_,e,ex,_⟩:=I.hok p _ hk
     exact ⟨o,e,ex⟩
    ·obtain ⟨_,_,_,_,o,_,_,e,ex,_⟩:=I.hok p _ hk
     exact ⟨o,e,ex⟩
   obtain ⟨o,e,ex⟩:=z
   refine ⟨⟨o,e,ex.1⟩,fun a e2=> ?_⟩
   cases e2
   exact ⟨o,e,ex.2.1⟩
  ·obtain ⟨o,_,_,_,e,ex,_⟩:=I.hok p _ hk
   refine ⟨⟨o,e,ex.1⟩,fun a e2=> ?_⟩
   cases e2
   exact ⟨o,e,ex.2.1⟩
 | _=>exact False.elim ty
noncomputable def tBM (K:PySem.W.Frag) (T:String) (r:V->List V->Hp->VK->Prop) (to:TE) (t:TA):TE:=fun σ H Q=>to σ H fun x H1=>tyV K T x H1/\t σ H1 fun xs H2=>r x xs H2 Q
variable {o e:Expr} {es:List Expr} {to:TE} {t:TA} {name:Str} {apos cpos:Pos} {T id:String} {r:V->List V->Hp->VK->Prop}
theorem QN (pa:PlainAttrs T) (slot:Slot T name id) (hty:typeOf (.builtin id)=pure (.type "method_descriptor")) (hm:MtR X id r) (ho:PE X o to) (ha:PA X (e :: es) t)
  (hbase:attributeBase o name X.env (eval o X.env)=eval o X.env:=by rfl)
  (hfew:((backTo cpos (starEach (e :: es) X.env)).all (fun x=> !x.1) && (backToKw cpos (keywordEach [] X.env)).all (fun x=>x.1.isSome)
   && decide ((e :: es).length+([]:List Keyword).length+(if ([]:List Keyword).isEmpty then 0 else 1) < 30))=true:=by rfl)
  (hline:(apos.endLine == cpos.line)=true:=by rfl) (hs:starEach (e :: es) X.env=(false,eval e X.env) :: starEach es X.env:=by rfl) (hplain:(backTo cpos (starEach es X.env)).any (·.1)=false:=by rfl):
  PE X (.Call (.Attribute o name apos) (e :: es) [] cpos) (tBM X.K T r to t):=by
 intro pins s σ H Q I h
 refine wpAny_Call_method_late hbase hfew hline rfl (thn (ho pins s σ H _ I h) fun v s1 ⟨x,H1,I1,r1,ty,q1⟩=> ?_)
 obtain ⟨h1,h2⟩:=Kz I1 r1 ty
 refine ⟨T,id,pa,slot,hty,h1,h2, ?_⟩
 have hA:=ha cpos pins s1 σ H1 _ I1 q1
 rw [hs] at hA ⊢
 refine Calls.callWith_builtin (by show (false || (backTo cpos (starEach es X.env)).any (·.1))=false; rw [hplain] <;> rfl) (Calls.evalArgs_plain ?_)
 exact thn hA fun us s2 ⟨vs,H2,I2,r2,q2⟩=>hm pins s2 σ H2 x vs v us Q I2 r1 r2 q2
end
end L2
namespace L2
open PySem PySem.Spec PyProof.Rows
noncomputable def MtM (X:Cx) (id:String) (r:V->List V->Hp->VK->Prop):Prop:=
 ∀ (pins:List (Addr×Obj)) (s:Shared) (σ:St) (H:Hp) (x:V) (xs:List V) (v:Value) (us:List Value) (Q:VK),Inv X pins σ H s->jf x v->ZY xs us->r x xs H Q->
  wpAny (model X.prog X.w) X.A (call (.builtin id) (v :: us)) (EP X pins σ Q) X.xe s
theorem ZY.one:∀ {x:V} {us:List Value},ZY [x] us->∃ u,us=[u]/\jf x u
 | _,_, .cons r .nil=>⟨_,rfl,r⟩
theorem ZY.rep {xs:List V} {us:List Value} (h:ZY xs us):∀ k:Nat,ZY (List.replicate k xs).flatten (List.replicate k us).flatten
 | 0=> .nil
 | k+1=>by
  rw [List.replicate_succ,List.replicate_succ,List.flatten_cons,List.flatten_cons]
  exact ZY.append h (ZY.rep h k)
theorem Wc (its:List Value):∀ (k:Nat) (acc:List Value),
  List.foldl (fun x1 x2=>x1++x2) acc.toArray (List.replicate k its.toArray)=(acc++(List.replicate k its).flatten).toArray
 | 0,acc=>by simp
 | k+1,acc=>by
  have e:acc.toArray++its.toArray=(acc++its).toArray:=by simp
  have e2:(acc++its)++(List.replicate k its).flatten=acc++(List.replicate (k+1) its).flatten:=by
   rw [List.replicate_succ,List.flatten_cons,List.append_assoc]
  rw [← e2,← Wc its k (acc++its),← e,List.replicate_succ,List.foldl_cons]
section
variable {X:Cx} {pins:List (Addr×Obj)} {σ:St} {H:Hp} {s:Shared} {l b:Addr} {xs ys zs:List V}
theorem Inv.lset {its its' :List Value} {n:Nat} {f:Array Value->Array Value} {t' :Nat} (I:Inv X pins σ H s) (hH:H l=some (.lst xs))
  (e:s.heap.get? l=some { cls:= .type "list",data:= .seq its.toArray n }) (hf:f its.toArray=its'.toArray) (hv:ZY ys its') (hz:ys.length<=sizeLine):
  Inv X pins σ (upd H l (.lst ys)) { s with heap:=s.heap.update l (Obj.mapSeq f),toks:=t' }:=by
 have q:=PySem.IsL.update e f
 rw [hf] at q
 refine I.write (x:=l) (e:=l) (by rw [hH]; exact trivial) (.inl rfl) (fun b' u hb hu=>(Heap.get?_update_other s.heap (Obj.mapSeq f) (Ne.symm hb)).trans hu) ⟨_,q⟩ ?_
 exact ⟨hz,its',_,hv,q⟩
theorem Inv.lnew {its:List Value} {t' :Nat} (I:Inv X pins σ H s) (hv:ZY ys its) (hz:ys.length<=sizeLine):
  Inv X pins σ (upd H s.heap.objs.size (.lst ys)) { s with heap:=s.heap.push { cls:= .type "list",data:= .seq its.toArray },toks:=t' }:=
 I.laid (fun _ _ q=>Heap.get?_push_of_some _ q) (Nat.le_refl _) ⟨hz,its,0,hv,Heap.get?_push_size _ rfl⟩
theorem Inv.fresh (I:Inv X pins σ H s):H s.heap.objs.size=none:=I.hok.fresh (Nat.le_refl _)
theorem Inv.lstM (I:Inv X pins σ H s) (hH:H l=some (.lst xs)):xs.length<=sizeLine/\∃ (its:List Value) (n:Nat),ZY xs its/\xs.length=its.length/\s.heap.get? l=some { cls:= .type "list",data:= .seq its.toArray n }:=by
 obtain ⟨z,its,n,r,e⟩:=I.hok l _ hH
 exact ⟨z,its,n,r,r.length,e⟩
theorem qo {n:Nat} (h:n<=sizeLine):Builtin.List.listTooLong n=false:=by
 unfold Builtin.List.listTooLong
 exact decide_eq_false (by omega)
end
section
variable {X:Cx}
noncomputable def Xs:V->List V->Hp->VK->Prop:=fun x vs H Q=>∃ l xs y,x= .ref l/\vs=[y]/\H l=some (.lst xs)/\xs.length < sizeLine/\Q .non (upd H l (.lst (xs++[y])))
theorem yw:MtM X "list.append" Xs:=by
 intro pins s σ H x vs v us Q I rx rv h
 obtain ⟨l,xs,y,rfl,rfl,hH,hz,q⟩:=h
 cases rx
 obtain ⟨u,rfl,ru⟩:=rv.one
 obtain ⟨z,its,n,r,hl,e⟩:=I.lstM hH
 refine call_meets F.slot_list_append ⟨_,e,rfl⟩ F.entry_list_append (F.args_list_append_2 _ _) (PySem.list_append l its.toArray n u (by rw [List.size_toArray]; omega)) ⟨e, ?_⟩
 refine ⟨.non,_,I.lset (its' :=its++[u]) hH e (by simp) (r.append (.cons ru .nil)) ?_,rfl,q⟩
 rw [List.length_append,List.length_singleton]
 omega
noncomputable def Xt:V->List V->Hp->VK->Prop:=fun x vs H Q=>∃ l b xs zs,x= .ref l/\vs=[.ref b]/\H l=some (.lst xs)/\H b=some (.lst zs)/\xs.length+zs.length<=sizeLine/\Q .non (upd H l (.lst (xs++zs)))
theorem QO:MtM X "list.extend" Xt:=by
 intro pins s σ H x vs v us Q I rx rv h
 obtain ⟨l,b,xs,zs,rfl,rfl,hH,hB,hz,q⟩:=h
 cases rx
 obtain ⟨u,rfl,ru⟩:=rv.one
 cases ru
 obtain ⟨z,its,n,r,hl,e⟩:=I.lstM hH
 obtain ⟨z2,its2,n2,r2,hl2,e2⟩:=I.lstM hB
 have hsz:its.toArray.size+its2.toArray.size<=sizeLine:=by rw [List.size_toArray,List.size_toArray]; omega
 have hlong:¬ (!its.toArray.isEmpty && Builtin.List.listTooLong (its.toArray.size+its2.toArray.size))=true:=by
  rw [qo hsz,Bool.and_false]
  exact Bool.false_ne_true
 refine call_meets F.slot_list_extend ⟨_,e,rfl⟩ F.entry_list_extend (F.args_list_extend_2 _ _)
  (AutoSeq1.list_extend_list_list_0 l its.toArray n b its2.toArray n2 hlong (by rw [List.size_toArray]; omega) (by omega)) ⟨e,e2, ?_⟩
 refine ⟨.non,_,I.lset (its' :=its++its2) hH e (by simp) (r.append r2) ?_,rfl,q⟩
 rw [List.length_append]
 omega
noncomputable def rCat:R2:=fun x y H Q=>∃ l b xs zs,x= .ref l/\y= .ref b/\H l=some (.lst xs)/\H b=some (.lst zs)/\xs.length+zs.length<=sizeLine/\∀ p,H p=none->Q (.ref p) (upd H p (.lst (xs++zs)))
theorem KA:OpR X (binaryOp .Add) rCat:=by
 intro pins s σ H x y v u Q I rx ry h
 obtain ⟨l,b,xs,zs,rfl,rfl,hH,hB,hz,q⟩:=h
 cases rx
 cases ry
 obtain ⟨z,its,n,r,hl,e⟩:=I.lstM hH
 obtain ⟨z2,its2,n2,r2,hl2,e2⟩:=I.lstM hB
 refine PySem.P.add_list e e2 ?_ (by rw [List.size_toArray,List.size_toArray]; omega)
 have ea:its.toArray++its2.toArray=(its++its2).toArray:=by simp
 rw [ea]
 exact ⟨.ref _,_,I.lnew (t' :=s.toks) (r.append r2) (by rw [List.length_append]; omega),rfl,q _ I.fresh⟩
noncomputable def rRep:R2:=fun x y H Q=>∃ l k xs,x= .ref l/\y= .int k/\H l=some (.lst xs)/\ -(2 ^ 63)<=k/\k < 2 ^ 63/\xs.length*k.toNat<=sizeLine/\
 ∀ p,H p=none->Q (.ref p) (upd H p (.lst (List.replicate k.toNat xs).flatten))
theorem Yv {α:Type} (xs:List α) (k:Nat):(List.replicate k xs).flatten.length=k*xs.length:=by
 induction k with
 | zero=>simp
 | succ k ih=>rw [List.replicate_succ,List.flatten_cons,List.length_append,ih,Nat.succ_mul,Nat.add_comm]
theorem KC:OpR X (binaryOp .Mult) rRep:=by
 intro pins s σ H x y v u Q I rx ry h
 obtain ⟨l,k,xs,rfl,rfl,hH,h1,h2,hz,q⟩:=h
 cases rx
 obtain ⟨t,rfl⟩:=ry
 obtain ⟨z,its,n,r,hl,e⟩:=I.lstM hH
 have hlen:its.toArray.size*k.toNat<=sizeLine:=by rw [List.size_toArray,← hl]; exact hz
 have hcap:¬ its.toArray.size*k.toNat > (2 ^ 63 - 1) / 8:=by
  have:(sizeLine:Nat)<=(2 ^ 63 - 1) / 8:=by decide
  omega
 have hfit:¬ (!Builtin.List.listFitsIndex k)=true:=by
  rw [fitsIndex_both h1 h2]
  exact Bool.false_ne_true
 have hlong:¬ Builtin.List.listTooLong (its.toArray.size*k.toNat)=true:=by
  rw [qo hlen]
  exact Bool.false_ne_true
 have hnew:List.foldl (fun x1 x2=>x1++x2) #[] (List.replicate (if its.toArray.isEmpty=true then 0 else k.toNat) its.toArray)=(List.replicate k.toNat its).flatten.toArray:=by
  have f0:∀ m:Nat,List.foldl (fun x1 x2=>x1++x2) #[] (List.replicate m its.toArray)=(List.replicate m its).flatten.toArray:=fun m=>by
   have:=Wc its m []
   rw [List.nil_append] at this
   exact this
  rw [f0]
  cases its with
  | nil=>simp
  | cons a r' =>rw [if_neg (by simp)]
 refine wpAny_binaryOp_repeat_ref (T:="list") (U:="int") (by decide) ⟨_,e,rfl⟩ (fun s' =>typeIs_int s' k t) noFill_list_mul F.fills_int_mul F.slot_int_rmul repeat_list F.slot_int_index.lookup
  (call_meets F.slot_int_rmul (typeIs_int s k t) F.entry_int_rmul (F.args_int_rmul_2 _ _) (int___rmul___int_list k t l its.toArray n)
   ⟨e,rfl,⟨_,e,rfl⟩,call_meets F.slot_list_mul ⟨_,e,rfl⟩ F.entry_list_mul (F.args_list_mul_2 _ _) (AutoListH.list___mul___list_int_3 l its.toArray n k t hfit hcap hlong) ⟨e, ?_⟩⟩)
 rw [hnew]
 exact ⟨.ref _,_,I.lnew (t' :=s.toks) (r.rep k.toNat) (by rw [Yv,Nat.mul_comm]; exact hz),rfl,q _ I.fresh⟩
end
section
variable {prog:Program} {w:World} {A:Around} {E:Value->Shared->Prop} {s:Shared}
end
section
variable {X:Cx}
end
end L2
namespace Att
open PySem PySem.W PySem.Calls PyProof.Rows
theorem ul {P:Params} {h:Heap}:∀ (ns:List Int) (vs:List Value),WellAll P h vs (ns.map WData.int)->IntsAre vs ns:=by
 intro ns
 induction ns with
 | nil=>
  intro vs w
  rw [List.map_nil] at w
  cases w
  exact .nil
 | cons n ns ih=>
  intro vs w
  rw [List.map_cons] at w
  cases w with
  | cons a b=>
   cases a
   exact .cons _ _ (ih _ b)
theorem QP {l:OpenLaw} {n:Nat} (hn:l.most=some n) {P:Params} {h:Heap} {args:List WData} {vals:List Value}
  (hpre:l.row.toRowW.claim.pre args=true) (hwl:WellAll P h vals args):
  ∃ a vs ns,vals=[Value.ref a]/\args=[WData.list (ns.map WData.int)]/\h.get? a=some { cls:= .type "list",data:= .seq vs.toArray }/\IntsAre vs ns/\ns.length<=n:=by
 have hsh:WShape.hasAll [] args [.list .int]=true:=(pre_splitW hpre).1
 have hc:l.pre.holds [] { args:=args }=true:=(pre_splitW hpre).2
 obtain ⟨d,r,rfl,h1,h2⟩:=hasAllW_cons hsh
 obtain rfl:=hasAllW_nil h2
 obtain ⟨xs,rfl,h3⟩:=hasW_list h1
 obtain ⟨ns,rfl⟩:=items_int h3
 have hlen:ns.length<=n:=by
  unfold OpenLaw.pre at hc
  have h4:(WTm.not (.lt (.lit (.int (n:Int))) (.len (.arg 0)))).holds [] { args:=[.list (ns.map .int)] }=true:=by
   have h4:=(holds_andW hc).1
   rw [hn] at h4
   exact h4
  have h5:=condW_of h4 (w_not (w_lt w_lit (w_len_list (w_arg rfl))))
  rw [List.length_map] at h5
  refine Nat.le_of_not_lt fun q=> ?_
  have q' :(n:Int) < ((ns.length:Nat):Int):=by omega
  first
   | (rw [decide_eq_true q'] at h5; exact absurd h5 (by decide))
   | (simp at h5; omega)
 cases hwl with
 | cons w1 w2=>
  cases w2
  cases w1 with
  | list ho hall=>exact ⟨_,_,ns,rfl,rfl,ho,ul ns _ hall,hlen⟩
theorem QQ (l:OpenLaw) (args:List WData):l.row.toRowW.claim.post args (.bool true) args=true:=
 postW_of (r:=l.row.toRowW) (X:=(true == true))
  (show WShape.has [] (.bool true) .bool=true by first | rfl | decide | simp [WShape.has,WShape.arms,WShape.armsAll])
  (show (WTm.eq .res (.lit (.bool true))).value [] { args:=args,res:=some (.bool true),after:=args }=some (.bool (true == true)) from w_eq_bool (w_res rfl) w_lit) rfl
theorem attach_call {l:OpenLaw} {n:Nat} {q:Program} {loose:List Str} {XP:(Str->Option Value)->Heap->Prop} {YP:World->Heap->Prop} {d:DefRec}
  (hn:l.most=some n) (hdf:d.params.defaults=[])
  (call:∀ (w:World) (s₀ s₁:Shared) (mg mb:Str->Option Value) (fa:Addr) (o:Obj) (pm cd doc:Value) (a:Addr) (vs:List Value) (ns:List Int),
   Ground q loose [] XP w s₀ mg mb s₁.heap->YP w s₁.heap->
   s₁.heap.get? fa=some o->o.data= .func (docDef d.name d.params d.body d.scope pm cd doc)->s₁.heap.CodeRec cd d.name->mg d.name=some (.ref fa)->
   s₁.heap.get? a=some { cls:= .type "list",data:= .seq vs.toArray }->IntsAre vs ns->ns.length<=n->s₁.gens= #[]->
   codeAny (model l.prog w) callerA (.call (.ref fa) ⟨[.ref a],[]⟩) (fun r s' =>r= .ok (.ret (.bool true))/\OldK s₁.heap s'.heap/\s'.os=s₁.os/\AllBare s'.gens) s₁):
  WalkO q loose XP YP l.row.toRowW d [] (fun f vs=>PySem.call f vs):=by
 intro w s₀ s₁ mg mb G Y fa o pm cd doc dV kV ho hd hcd hD hmg hg args vals as hpre hlay hrd hwl hlo
 obtain rfl:dV= .none:=Dflts.none hD hdf
 obtain rfl:kV= .none:=Dflts.noKw hD
 obtain ⟨a,vs,ns,rfl,rfl,hobj,hints,hlen⟩:=QP hn hpre hwl
 refine enter_call (codeAny_mono (call w s₀ s₁ mg mb fa o pm cd doc a vs ns G Y ho (fd_plain hd) hcd hmg hobj hints hlen hg) fun r s' hq=> ?_)
 obtain ⟨rfl,h2,h3,h4⟩:=hq
 exact ⟨.inl ⟨.bool true, .bool true,[],rfl,fun _=>rfl, .bool true,QQ l _,fun _=>⟨List.Pairwise.nil,fun _ hm=>(nomatch hm)⟩⟩,h2,h3,h4⟩
section
variable {prog:Program} {w:World} {A:Around} {E:Value->Shared->Prop} {s:Shared} {K:Frag}
end
end Att
namespace L2
open PySem PySem.Spec PyProof.Rows
theorem yx:∀ {vs:List Value} {ns:List Int},IntsAre vs ns->ZY (ns.map V.int) vs
 | _,_, .nil=> .nil
 | _,_, .cons n t h=> .cons ⟨t,rfl⟩ (yx h)
noncomputable def G1 (H:Hp):Prop:=∀ b,H b=none\/∃ o xs,H b=some (.frz o (.lst xs))
theorem VC {P:Program} {w:World} {K:PySem.W.Frag} {mg mb:Str->Option Value} {CX:CXT} {k:Nat} {fa a:Addr} {fd:FuncData} {x:Str} {sp:Sp} {s₁:Shared} {vs:List Value} {ns:List Int}
  (KX:K.In s₁.heap) (hns:s₁.heap.Ns mainGlobals mg) (hb:s₁.heap.Ns builtinsNs mb) (hbb:∀ x:Str,x ≠ "__name__"->mb x=bootBuiltins x) (hlim:s₁.heap.NoLimit) (hg:s₁.gens= #[])
  (ha:s₁.heap.get? a=some { cls:= .type "list",data:= .seq vs.toArray }) (hi:IntsAre vs ns) (hl:ns.length<=sizeLine) (hr:Wx k callerA)
  (F:∀ base:Heap,K.In base->base.Ns mainGlobals mg->jF P w K mg base CX k fa fd [x] sp) (hbind:∀ (s:Shared) (u:Value),BindsTo s fd ⟨[u],[]⟩ [(x,u)])
  (hsp:∀ H:Hp,G1 H->SqL K H a (ns.map V.int)->sp [.ref a] H (fun v _=>v= .bl true) fun _ _ _=>False)
  (hCX:∀ H e s',CX [] H s₁ (fun _ _ _=>False) e s' ->False):
  codeAny (model P w) callerA (.call (.ref fa) ⟨[.ref a],[]⟩) (fun r s' =>r= .ok (.ret (.bool true))/\OldK s₁.heap s'.heap/\s'.os=s₁.os/\AllBare s'.gens) s₁:=by
 have rv:=yx hi
 have lenV:=hi.length
 have core:∀ H:Hp,G1 H->SqL K H a (ns.map V.int)->HOk P w H s₁.heap->(∀ b,H b ≠ none->b=a)->(H a ≠ none->K.lookup a=none)->
   codeAny (model P w) callerA (.call (.ref fa) ⟨[.ref a],[]⟩) (fun r s' =>r= .ok (.ret (.bool true))/\OldK s₁.heap s'.heap/\s'.os=s₁.os/\AllBare s'.gens) s₁:=by
  intro H hO hS hok hA hK
  have base_of:∀ {b:Addr} {o:Obj},s₁.heap.get? b=some o->H b=none->(Vq s₁.heap H).get? b=some o:=fun e n=>Vr e n
  have noA:∀ {b:Addr} {o:Obj} {es:Array DictEntry} {ep:Nat},s₁.heap.get? b=some o->o.data= .dict es ep->H b=none:=fun {b o es ep} e d=>by
   cases q:H b with
   | none=>rfl
   | some u=>
    have e' :b=a:=hA b (by rw [q]; simp)
    subst e'
    rw [ha] at e; cases e
    have d' :Data.seq vs.toArray _=Data.dict es ep:=d
    cases d'
  have nsK:∀ {b:Addr} {m:Str->Option Value},s₁.heap.Ns b m->(Vq s₁.heap H).Ns b m:=fun {b m} ⟨o,es,ep,e,d,r⟩=>⟨o,es,ep,base_of e (noA e d),d,r⟩
  have hKb:K.In (Vq s₁.heap H):=fun b o e=>base_of (KX b o e) (by
   cases q:H b with
   | none=>rfl
   | some u=>
    have e' :b=a:=hA b (by rw [q]; simp)
    subst e'
    rw [hK (by rw [q]; simp)] at e; cases e)
  have hM:Mod K mg (Vq s₁.heap H):=⟨hKb,nsK hns,⟨mb,nsK hb,hbb⟩,let ⟨mc,h1,h2⟩:=hlim; ⟨mc,nsK h1,h2⟩⟩
  have e0:gZ P w K mg (Vq s₁.heap H) callerA [] s₁ H:=⟨rfl,hM,fun b o e=>Xe e,Nat.le_of_eq (Qt _ _),trivial,fun b hb=>absurd (show b∈([]:List Addr) from hb) (by simp),hok, .of_eq hg⟩
  refine codeAny_mono ((F _ hKb (nsK hns)).run callerA [] s₁ H ⟨[.ref a],[]⟩ [.ref a] [.ref a] _ _ hr e0 (hbind s₁ (.ref a)) (.cons rfl .nil) (hsp H hO hS)) fun r s' h=> ?_
  cases r with
  | error e=>exact (hCX H e s' h).elim
  | ok fl=>
   cases fl with
   | next=>exact False.elim h
   | brk=>exact False.elim h
   | cont=>exact False.elim h
   | ret u=>
    obtain ⟨v,H',os,bare,un,hok',r',q⟩:=h
    have q' :v= .bl true:=q
    subst q'
    obtain rfl:u=Value.bool true:=r'
    refine ⟨rfl,OldK.of_keep fun b o e=> ?_,os,bare⟩
    cases q:H b with
    | none=>exact un.keep b o e q (by intro z; exact absurd (show b∈([]:List Addr) from z) (by simp)) (by simp)
    | some u=>
     rcases hO b with z | ⟨ob,xs,z⟩
     ·rw [q] at z; cases z
     ·have z2:=un.frzs b ob _ z
      obtain ⟨e1,_⟩:=hok b _ z
      obtain ⟨e2,_⟩:=hok' b _ z2
      rw [e] at e1; cases e1
      exact e2
 cases hk:K.lookup a with
 | some o=>
  have e:=KX a o hk
  rw [ha] at e
  cases e
  refine core (fun _=>none) (fun _=> .inl rfl) (.inr ⟨_,vs.toArray,_,hk,rfl,rfl,rfl,by rw [List.size_toArray,lenV]; exact hl,by simpa using rv⟩) (fun b u z=>by have z' :(none:Option HO)=some u:=z; cases z') (fun b z=>absurd rfl z) fun z=>absurd rfl z
 | none=>
  refine core (fun b=>if b=a then some (.frz { cls:= .type "list",data:= .seq vs.toArray } (.lst (ns.map V.int))) else none) (fun b=> ?_) (.inl (.inr ⟨{ cls:= .type "list",data:= .seq vs.toArray },if_pos rfl⟩)) (fun b u z=> ?_) (fun b z=> ?_) fun _=>hk
  ·by_cases hb:b=a
   ·exact .inr ⟨_,_,if_pos hb⟩
   ·exact .inl (if_neg hb)
  ·by_cases hb:b=a
   ·have z' :=(if_pos hb).symm.trans z
    cases z'
    subst hb
    exact ⟨ha,by rw [List.length_map]; exact hl,vs,_,rv,ha⟩
   ·have z' :=(if_neg hb).symm.trans z
    cases z'
  ·by_cases hb:b=a
   ·exact hb
   ·exact absurd (if_neg hb) z
end L2
namespace L2
open PySem PySem.Spec PyProof.Rows
theorem walk_of {l:PySem.W.OpenLaw} {n k:Nat} {q:Program} {loose:List Str} {XP:(Str->Option Value)->Heap->Prop} {YP:World->Heap->Prop} {d:DefRec} {K:Params->PySem.W.Frag} {CX:World->CXT} {sp:World->Sp} {x:Str}
  (hn:l.most=some n) (hn2:n<=sizeLine) (hdf:d.params.defaults=[]) (hr:Wx k callerA)
  (hY:∀ (w:World) (h:Heap),YP w h->(K w.params).In h)
  (F:∀ (w:World) (mg:Str->Option Value) (fa:Addr) (h:Heap),(K w.params).In h->h.Ns mainGlobals mg->mg d.name=some (.ref fa)->
   ∃ fd:FuncData,(∀ (s:Shared) (u:Value),BindsTo s fd ⟨[u],[]⟩ [(x,u)])/\
    ∀ base:Heap,(K w.params).In base->base.Ns mainGlobals mg->jF l.prog w (K w.params) mg base (CX w) k fa fd [x] (sp w))
  (hsp:∀ (w:World) (H:Hp) (a:Addr) (ns:List Int),ns.length<=n->G1 H->SqL (K w.params) H a (ns.map V.int)->sp w [.ref a] H (fun v _=>v= .bl true) fun _ _ _=>False)
  (hCX:∀ (w:World) (H:Hp) (s:Shared) (e:Value) (s' :Shared),CX w [] H s (fun _ _ _=>False) e s' ->False):
  PySem.W.WalkO q loose XP YP l.row.toRowW d [] (fun f vs=>PySem.call f vs):=by
 refine Att.attach_call hn hdf fun w s₀ s₁ mg mb fa o pm cd doc a vs ns G Y ho hd hcd hmg hobj hints hlen hg=> ?_
 have KX:=hY w _ Y
 obtain ⟨fd,hb,hF⟩:=F w mg fa _ KX G.T.g hmg
 exact VC KX G.T.g G.T.b G.T.builtins G.T.nolimit hg hobj hints (Nat.le_trans hlen hn2) hr hF hb (fun H hO hS=>hsp w H a ns hlen hO hS) fun H e s' =>hCX w H s₁ e s'
end L2
namespace L2
open PySem PySem.Spec PyProof.Rows
noncomputable def wl (s:Stmt):Arguments:=match s with
 | .FunctionDef _ a _ _ _ _ _ _ _ _=>a
 | _=>{ posonlyargs:=[],args:=[],vararg:=none,kwonlyargs:=[],kw_defaults:=[],kwarg:=none,defaults:=[] }
noncomputable def jy (s:Stmt):List Stmt:=match s with
 | .FunctionDef _ _ b _ _ _ _ _ _ _=>b
 | _=>[]
noncomputable def ze (s:Stmt):Scope:=match s with
 | .FunctionDef _ _ _ _ _ _ sc _ _ _=>sc
 | _=>{ kind:= .function,names:=[],isGenerator:=false,isCoroutine:=false }
noncomputable abbrev CX0:CXT:=fun _ _ _ _ _ _=>False
structure Fun (K:PySem.W.Frag) (x qual:Str) (st:Stmt) (f:Addr) (fd:FuncData):Prop where
 ex:∃ (oc:Value) (od:Option Addr) (kV doc pm:Value) (an:Option Addr) (cdv ct:Value) (osl:Array (Option Value)),
  fd=PySem.W.fnOf x qual (wl st) (jy st) (ze st) .none kV doc pm an cdv ct/\K.lookup f=some ⟨oc,od, .func fd,osl⟩/\PySem.W.codeIn K cdv qual=true
 kp:PySem.W.keepIn K (.ref f)=true
section
variable {P:Program} {w:World} {K:PySem.W.Frag} {mg:Str->Option Value} {base:Heap}
theorem Fun.ok {x qual:Str} {st:Stmt} {f:Addr} {fd:FuncData} {N ps:List Str} {k:Nat} {sp:Sp} (F:Fun K x qual st f fd) (S:zv N ps (ze st)) (len:∀ vs H Q E,sp vs H Q E->vs.length=ps.length)
  (hbody:∀ (cdv:Value) (A:Around) (outer:List Env) (s:Shared) (H:Hp) (vs:List V) (Q:VK) (E:XK),Wx k (A.deeper (envOfC qual (ze st) s.heap.objs.size f cdv))->sp vs H Q E->
   ∃ t,PSs (U2 CX0 P w K mg base N qual (ze st) f cdv A outer s H E).nox (jy st) t/\t { nx:=fun _ H' =>Q .non H',rt:=Q } (start N vs) H):jF P w K mg base CX0 (k+1) f fd ps sp:=by
 obtain ⟨oc,od,kV,doc,pm,an,cdv,ct,osl,rfl,lk,hcd⟩:=F.ex
 refine Kt lk hcd S len fun A outer s H vs Q E hr hsp=> ?_
 obtain ⟨t,h,q⟩:=hbody cdv A outer s H vs Q E hr hsp
 exact ⟨t,h.nox,q⟩
theorem Fun.binds {x qual:Str} {st:Stmt} {f:Addr} {fd:FuncData} {ps:List Str} (F:Fun K x qual st f fd)
  (h:∀ (kV doc pm:Value) (an:Option Addr) (cdv ct:Value) (us:List Value),us.length=ps.length->bindArgs (PySem.W.fnOf x qual (wl st) (jy st) (ze st) .none kV doc pm an cdv ct) ⟨us,[]⟩=pure (ps.zip us)):Binds K fd ps []:=by
 obtain ⟨oc,od,kV,doc,pm,an,cdv,ct,osl,rfl,lk,hcd⟩:=F.ex
 exact .all (h kV doc pm an cdv ct)
theorem KD {x qual:Str} {st:Stmt} {f:Addr} {oc:Value} {od an:Option Addr} {osl:Array (Option Value)} {kV doc pm cdv ct:Value} (l:K.lookup f=some ⟨oc,od, .func (PySem.W.fnOf x qual (wl st) (jy st) (ze st) .none kV doc pm an cdv ct),osl⟩)
  (c:PySem.W.codeIn K cdv qual=true) (k:PySem.W.keepIn K (.ref f)=true):Fun K x qual st f (PySem.W.fnOf x qual (wl st) (jy st) (ze st) .none kV doc pm an cdv ct):=⟨⟨oc,od,kV,doc,pm,an,cdv,ct,osl,rfl,l,c⟩,k⟩
end
section
variable {X:Cx}
theorem pv (i:Nat) {x:Str} {pos:Pos} (hN:X.N[i]? =some x:=by rfl) (hv:Vis X.env.scope x:=by first | exact Or.inl rfl | exact Or.inr (Or.inl rfl) | exact Or.inr (Or.inr rfl)) (hd:(x == ("__debug__":Str))=false:=by decide)
  (hcd:(x == ("__classdict__":Str))=false:=by decide):PE X (.Name x pos) (Qu i):=xG hN hv hd hcd
end
noncomputable def zN (H H' :Hp):Prop:=∀ b o,H b=some o->H' b=some o
theorem zN.refl (H:Hp):zN H H:=fun _ _ h=>h
theorem zN.trans {H H1 H2:Hp} (a:zN H H1) (b:zN H1 H2):zN H H2:=fun c o h=>b c o (a c o h)
theorem zN.free {H H' :Hp} (e:zN H H') {l:Addr} (h:H' l=Option.none):H l=Option.none:=by
 cases q:H l with
 | none=>rfl
 | some o=>
  rw [e l o q] at h
  cases h
end L2
namespace L2
open PySem PySem.Spec PyProof.Rows PySem.W
theorem qp {env:Env} {outer:List Env} {L:Addr} (h:env.frame=some L):frs (env :: outer)=L :: frs outer:=by
 unfold frs; rw [List.filterMap_cons,h]
structure Yw (P:Program) (w:World) (outer:List Env) (H:Hp) (s s' :Shared) (ea:Addr) (cls a0:Value) (B:Heap) (H' :Hp):Prop where
 os:s'.os=s.os
 bare:AllBare s'.gens
 fly:Heap.FlyingW B outer ea cls a0 s'.heap
 hok:HOk P w H' B
 un:Un (frs outer) [] H H' s.heap s'.heap
 inB:∀ b o,s.heap.get? b=some o->b ∉ frs outer->(H b=none->B.get? b=some o)/\∃ o',B.get? b=some o'
noncomputable def CX1 (P:Program) (w:World):CXT:=fun outer H s E e s' =>∃ ea cls a0 B H',e= .ref ea/\Yw P w outer H s s' ea cls a0 B H' /\E cls none H'
section
variable {X:Cx} {pins:List (Addr×Obj)} {σ:St} {H H' :Hp} {s s' :Shared} {ea:Addr} {cls a0:Value} {B:Heap} {h' h'' :Heap}
theorem Inv.frNf (I:Inv X pins σ H s):∀ b∈frs X.stack,H b=none/\∃ o,s.heap.get? b=some o/\∀ vs,o.data ≠ .fields vs:=fun b hb=>⟨I.stkFree b hb,(I.stack.mem hb).2⟩
theorem Yw.on {P:Program} {w:World} {outer:List Env} (L:Yw P w outer H s s' ea cls a0 B H') (ff:∀ b∈frs outer,H b=none/\∃ o,s.heap.get? b=some o/\∀ vs,o.data ≠ .fields vs)
  (fl:Heap.FlyingW B outer ea cls a0 h') (sl:s'.heap.UpToSlots h'):Yw P w outer H s { s' with heap:=h' } ea cls a0 B H' where
 os:=L.os
 bare:=L.bare
 fly:=fl
 hok:=L.hok
 inB:=L.inB
 un:=by
  have slot:∀ b o,s.heap.get? b=some o->H b=none->b∈frs outer->∃ sl,h'.get? b=some { o with slots:=sl }:=fun b o e n hb=>by
   obtain ⟨sl1,e1⟩:=L.un.slot b o e n hb (by simp)
   obtain ⟨_,o2,e2,nf⟩:=ff b hb
   rw [e] at e2; cases e2
   obtain ⟨sl2,e3⟩:=sl b _ e1 nf
   exact ⟨sl2,e3⟩
  exact ⟨fun b o e n hb _=>fl.1 b o ((L.inB b o e hb).1 n),fun b o e n hb _=>slot b o e n hb,L.un.free,fun b o e _=>by
   by_cases hb:b∈frs outer
   ·obtain ⟨sl1,e1⟩:=slot b o e (ff b hb).1 hb
    exact ⟨_,e1⟩
   ·obtain ⟨o',e'⟩:=(L.inB b o e hb).2
    exact ⟨o',fl.1 b o' e'⟩,L.un.tups,L.un.frzs,L.un.tbls⟩
theorem Inv.old (I:Inv X pins σ H s) {b:Addr} {o:Obj} (hX:X.stack=X.env :: X.outer) (hf:X.env.frame=some X.env.locals) (e:X.s₀.heap.get? b=some o) (hb:b ∉ frs X.outer):b ∉ frs X.stack:=by
 rw [hX,qp hf]
 intro z
 rcases List.mem_cons.mp z with z | z
 ·exact absurd (Nat.lt_of_lt_of_le (Heap.lt_size e) I.ok.above) (by rw [z]; exact Nat.lt_irrefl _)
 ·exact hb z
theorem Yx {X:Cx} (hX:X.stack=X.env :: X.outer) (hf:X.env.frame=some X.env.locals) {b:Addr} (hb:b∈frs X.outer):b∈frs X.stack:=by
 rw [hX,qp hf]; exact List.mem_cons_of_mem _ hb
theorem Yw.out (I:Inv X pins σ H s) (hX:X.stack=X.env :: X.outer) (hf:X.env.frame=some X.env.locals) (hex:X.ex=[]) (L:Yw X.prog X.w X.stack H s s' ea cls a0 B H')
  (fl:Heap.FlyingW B X.outer ea cls a0 h') (sl:s'.heap.UpToSlots h'):Yw X.prog X.w X.outer X.H₀ X.s₀ { s' with heap:=h' } ea cls a0 B H' where
 os:=L.os.trans I.os
 bare:=L.bare
 fly:=fl
 hok:=L.hok
 inB:=fun b o e hb=>by
  have nx:b ∉ X.ex:=by rw [hex]; simp
  obtain ⟨o1,e1⟩:=I.base.there b o e nx
  have hb' :=I.old hX hf e hb
  exact ⟨fun n=>(L.inB b o (I.base.keep b o e n hb nx) hb').1 (I.base.free b o e n nx),(L.inB b o1 e1 hb').2⟩
 un:=by
  have nx:∀ b,b ∉ X.ex:=fun b=>by rw [hex]; simp
  have slot:∀ b o,X.s₀.heap.get? b=some o->X.H₀ b=none->b∈frs X.outer->∃ sl,h'.get? b=some { o with slots:=sl }:=fun b o e n hb=>by
   obtain ⟨sl1,e1⟩:=I.base.slot b o e n hb (nx b)
   have n1:=I.base.free b o e n (nx b)
   obtain ⟨sl2,e2⟩:=L.un.slot b _ e1 n1 (Yx hX hf hb) (by simp)
   obtain ⟨_,o3,e3,nf⟩:=I.frNf b (Yx hX hf hb)
   rw [e1] at e3; cases e3
   obtain ⟨sl4,e4⟩:=sl b _ e2 nf
   exact ⟨sl4,e4⟩
  refine ⟨fun b o e n hb _=> ?_,fun b o e n hb _=>slot b o e n hb,fun b o e n _=> ?_,fun b o e _=> ?_,fun b xs e=>L.un.tups b xs (I.base.tups b xs e),fun b o xs e=>L.un.frzs b o xs (I.base.frzs b o xs e),fun b ps e=> ?_⟩
  ·exact fl.1 b o ((L.inB b o (I.base.keep b o e n hb (nx b)) (I.old hX hf e hb)).1 (I.base.free b o e n (nx b)))
  ·obtain ⟨o1,e1⟩:=I.base.there b o e (nx b)
   exact L.un.free b o1 e1 (I.base.free b o e n (nx b)) (by simp)
  ·by_cases hb:b∈frs X.outer
   ·obtain ⟨sl1,e1⟩:=slot b o e (I.ok.frf b hb) hb
    exact ⟨_,e1⟩
   ·obtain ⟨o1,e1⟩:=I.base.there b o e (nx b)
    obtain ⟨o',e'⟩:=(L.inB b o1 e1 (I.old hX hf e hb)).2
    exact ⟨o',fl.1 b o' e'⟩
  ·obtain ⟨m1,e1⟩:=I.base.tbls b ps e
   obtain ⟨m2,e2⟩:=L.un.tbls b _ e1
   exact ⟨m1++m2,by rw [e2,Array.append_assoc]⟩
theorem Yw.made (I:Inv X pins σ H s) (hX:X.stack=X.env :: X.outer) (hf:X.env.frame=some X.env.locals) (hex:X.ex=[]) {vs:List Value} (hx:Heap.MadeExcOf s.heap h' ea cls vs)
  (fl:Heap.FlyingW (hideAll s.heap (frs X.stack)) X.outer ea cls a0 h'') (sl:h'.UpToSlots h''):Yw X.prog X.w X.outer X.H₀ X.s₀ { s with heap:=h'' } ea cls a0 (hideAll s.heap (frs X.stack)) H where
 os:=I.os
 bare:=I.bare
 fly:=fl
 hok:=fun a o e=>(I.hok a o e).stay (fun b u hb q=>hideAll_get _ q fun z=>by
   have:=I.stkFree b z
   rcases hb with rfl | hb
   ·rw [e] at this; cases this
   ·rw [hb] at this; cases this) (fun _ q=>q) fun _ _ q=>q
 inB:=fun b o e hb=>by
  have nx:b ∉ X.ex:=by rw [hex]; simp
  obtain ⟨o1,e1⟩:=I.base.there b o e nx
  have hb' :=I.old hX hf e hb
  exact ⟨fun n=>hideAll_get _ (I.base.keep b o e n hb nx) hb',o1,hideAll_get _ e1 hb'⟩
 un:=by
  have nx:∀ b,b ∉ X.ex:=fun b=>by rw [hex]; simp
  have slot:∀ b o,X.s₀.heap.get? b=some o->X.H₀ b=none->b∈frs X.outer->∃ sl,h''.get? b=some { o with slots:=sl }:=fun b o e n hb=>by
   obtain ⟨sl1,e1⟩:=I.base.slot b o e n hb (nx b)
   obtain ⟨_,o3,e3,nf⟩:=I.frNf b (Yx hX hf hb)
   rw [e1] at e3; cases e3
   obtain ⟨sl4,e4⟩:=sl b _ (hx.keeps b _ e1) nf
   exact ⟨sl4,e4⟩
  refine ⟨fun b o e n hb _=> ?_,fun b o e n hb _=>slot b o e n hb,fun b o e n _=>I.base.free b o e n (nx b),fun b o e _=> ?_,I.base.tups,I.base.frzs,I.base.tbls⟩
  ·exact fl.1 b o (hideAll_get _ (I.base.keep b o e n hb (nx b)) (I.old hX hf e hb))
  ·by_cases hb:b∈frs X.outer
   ·obtain ⟨sl1,e1⟩:=slot b o e (I.ok.frf b hb) hb
    exact ⟨_,e1⟩
   ·obtain ⟨o1,e1⟩:=I.base.there b o e (nx b)
    exact ⟨o1,fl.1 b o1 (hideAll_get _ e1 (I.old hX hf e hb))⟩
end
section
variable {P:Program} {w:World} {K:Frag} {mg:Str->Option Value} {base:Heap} {N:List Str} {qual:Str} {scope:Scope} {f:Addr} {cd:Value} {A:Around} {outer:List Env} {s:Shared} {H:Hp} {E:XK}
theorem GD:wP (CX1 P w) (U2 (CX1 P w) P w K mg base N qual scope f cd A outer s H E) E:=by
 intro pins σ H1 s1 e s' I ⟨ea,cls,a0,B,H',he,L,hE⟩
 subst he
 exact wpAny_leaves_onW (base:=B) I.ok.frames rfl L.fly fun h' fl sl=>⟨ea,cls,a0,B,H',rfl,L.out I rfl rfl rfl fl sl,hE⟩
theorem QR {x:Str} {C:Addr} {bm bmN:List Value} {Bn Bb newId nid initId inN:String} {np cpos pos:Pos} {e:Expr} {t:TA} (O:OwnCls x C bm newId mg base) (Fn:ExcBaseFacts Bn newId inN bmN) (hBn:bm.contains (.type Bn)=true) (FB:ExcBaseFacts Bb nid initId bm)
  (hg:Gl (U2 (CX1 P w) P w K mg base N qual scope f cd A outer s H E) x) (ha:PA (U2 (CX1 P w) P w K mg base N qual scope f cd A outer s H E) [e] t)
  (he:starEach [e] (envOfC qual scope s.heap.objs.size f cd)=[(false,eval e (envOfC qual scope s.heap.objs.size f cd))]) (hd:(x == ("__debug__":Str))=false:=by decide):
  PS (U2 (CX1 P w) P w K mg base N qual scope f cd A outer s H E) (.Raise (some (.Call (.Name x np) [e] [] cpos)) none pos) (fun _ σ H1=>t σ H1 fun vs H2=>vs.length<=sizeLine/\E (.ref C) none H2):=by
 intro pins s1 σ H1 D I hw
 obtain ⟨tl,N',nm,q,bs,hdct,sn,sub,ab,col,dd,k0,k1,k2,k3,k5,mN,hC,hN,hni,T⟩:=O.obj
 have hp:(backTo cpos (starEach [e] (envOfC qual scope s.heap.objs.size f cd))).any (·.1)=false:=by rw [he]; rfl
 refine wpAny_Raise_call_subU (C:=C) (nm:=nm) (q:=q) (N:=N') (bs:=bs) (bm:=tl) (hdct:=hdct) (sn:=sn) (sub:=sub) (ab:=ab) (col:=col) (dd:=dd) (k0:=k0) (k1:=k1) (k2:=k2) (k3:=k3) (k5:=k5)
  Fn hBn FB (mN:=mN) (T.hasType FB.hasBase) (I.ok.hd rfl) hp hni (UC I hg O.bound ⟨rfl, ?_⟩ hd)
 have h2:=ha cpos pins s1 σ H1 _ I hw
 have he' :starEach [e] (U2 (CX1 P w) P w K mg base N qual scope f cd A outer s H E).env=[(false,eval e (U2 (CX1 P w) P w K mg base N qual scope f cd A outer s H E).env)]:=he
 rw [he'] at h2 ⊢
 refine Calls.evalArgs_plain (thn h2 fun us s2 ⟨vs,H2,I2,r,hl,hE⟩=>⟨rfl,by rw [← r.length]; exact hl,I2.bk _ _ hC,hN.keeps I2.bk,T.keeps I2.bk,fun h' ea hx=> ?_⟩)
 have hin:∀ env∈(U2 (CX1 P w) P w K mg base N qual scope f cd A outer s H E).stack,∀ b,env.frame=some b->b∈frs (U2 (CX1 P w) P w K mg base N qual scope f cd A outer s H E).stack:=fun env he b hb=>List.mem_filterMap.mpr ⟨env,he,hb⟩
 exact wpAny_leaves_madeW (base:=hideAll s2.heap (frs (U2 (CX1 P w) P w K mg base N qual scope f cd A outer s H E).stack)) (h:=s2.heap) I2.ok.frames rfl (fun b o q=>of_hideAll _ q) (funFrames_hide I2.stack hin) hx fun h'' t' fl _ _ sl=>
  ⟨ea, .ref C, .ref t',_,H2,rfl,Yw.made I2 rfl rfl rfl hx fl sl,hE⟩
end
end L2
namespace L2
open PySem PySem.Spec PyProof.Rows PySem.W
theorem j7.there {P:Program} {w:World} {H:Hp} {h:Heap} {a:Addr} {o:HO} (x:j7 P w H h a o):∃ ob,h.get? a=some ob:=by
 cases o with
 | lst xs=>obtain ⟨_,_,_,_,e⟩:=x; exact ⟨_,e⟩
 | tup xs=>obtain ⟨_,_,_,_,e,_⟩:=x; exact ⟨_,e⟩
 | dK kvs=>obtain ⟨_,_,_,_,o,_,_,e,_⟩:=x; exact ⟨_,e⟩
 | dT kvs=>obtain ⟨_,_,_,_,o,_,_,e,_⟩:=x; exact ⟨_,e⟩
 | set S n=>obtain ⟨o,_,_,_,e,_⟩:=x; exact ⟨_,e⟩
 | ins C dx fs=>obtain ⟨_,_,_,e,_⟩:=x; exact ⟨_,e⟩
 | own y=>obtain ⟨_,e⟩:=x; exact ⟨_,e⟩
 | xd fs=>obtain ⟨_,⟨_,_,_,e,_⟩,_⟩:=x; exact ⟨_,e⟩
 | rng lo hi=>obtain ⟨_,_,_,e⟩:=x; exact ⟨_,e⟩
 | frz ob u=>obtain ⟨e,_⟩:=x; exact ⟨_,e⟩
 | tbl ps=>exact ⟨_,(show h.get? a=some _ from x)⟩
 | met f y=>exact ⟨_,(show h.get? a=some _ from x)⟩
 | ext φ=>obtain ⟨_,e,_⟩:=x; exact e
noncomputable def Yy (cls:Value) (a:Addr) (h:Heap):Prop:=∃ o,h.get? a=some o/\o.cls=cls
theorem Yy.ok {P:Program} {w:World} {H:Hp} {h:Heap} {a:Addr} {cls:Value} (x:Yy cls a h):j7 P w H h a (.ext (Yy cls a)):=
 ⟨x,let ⟨o,e,_⟩:=x; ⟨o,e⟩,fun _ _ ⟨o,e,c⟩ k=>⟨o,k o e,c⟩⟩
noncomputable abbrev Cx.try' (X:Cx) (pn:List (Addr×Obj)) (xe:Value->Shared->Prop):Cx:={ X with pn:=pn,xe:=xe }
noncomputable abbrev Cx.mark' (X:Cx) (e:Value):Cx:={ X with A:=X.A.mark (some e),calm:=false,xe:=fun _ _=>False }
section
variable {X:Cx} {pins pins' :List (Addr×Obj)} {σ:St} {H H' :Hp} {s s' :Shared} {xe:Value->Shared->Prop}
theorem Cx.Ok.try' (ok:X.Ok) {pn:List (Addr×Obj)}:(X.try' pn xe).Ok:=
 ⟨ok.mod,ok.kind,ok.glob,ok.blt,ok.above,ok.inj,ok.has,ok.cab,ok.hd,ok.frames,ok.stk,ok.exf,ok.bs,ok.bsz,ok.noex,ok.exfs,ok.funs,ok.frf⟩
theorem Cx.Ok.untry {pn:List (Addr×Obj)} (ok:(X.try' pn xe).Ok):X.Ok:=
 ⟨ok.mod,ok.kind,ok.glob,ok.blt,ok.above,ok.inj,ok.has,ok.cab,ok.hd,ok.frames,ok.stk,ok.exf,ok.bs,ok.bsz,ok.noex,ok.exfs,ok.funs,ok.frf⟩
theorem Inv.try' (I:Inv X pins σ H s) (xe:Value->Shared->Prop):Inv (X.try' (X.pn++pins) xe) [] σ H s:=
 ⟨I.ok.try',I.os,I.bare,I.base,I.loc,I.cell,I.free,I.freeC,fun p hp=>I.pin p (by simpa using hp),I.hok,I.len⟩
theorem Inv.untry (I:Inv (X.try' (X.pn++pins) xe) pins' σ H s):Inv X pins σ H s:=
 ⟨I.ok.untry,I.os,I.bare,I.base,I.loc,I.cell,I.free,I.freeC,fun p hp=>I.pin p (List.mem_append_left _ hp),I.hok,I.len⟩
theorem Inv.mark' (I:Inv X pins σ H s) (e:Value):Inv (X.mark' e) pins σ H s:=
 ⟨⟨I.ok.mod,I.ok.kind,I.ok.glob,I.ok.blt,I.ok.above,I.ok.inj,I.ok.has,I.ok.cab,fun z=>(by cases z),I.ok.frames,I.ok.stk,I.ok.exf,I.ok.bs,I.ok.bsz,I.ok.noex,I.ok.exfs,I.ok.funs,I.ok.frf⟩,I.os,I.bare,I.base,I.loc,I.cell,I.free,I.freeC,I.pin,I.hok,I.len⟩
theorem Inv.unmark {e:Value} (I:Inv (X.mark' e) pins σ H s) (hd:X.calm=true->X.A.handled=none):Inv X pins σ H s:=
 ⟨⟨I.ok.mod,I.ok.kind,I.ok.glob,I.ok.blt,I.ok.above,I.ok.inj,I.ok.has,I.ok.cab,hd,I.ok.frames,I.ok.stk,I.ok.exf,I.ok.bs,I.ok.bsz,I.ok.noex,I.ok.exfs,I.ok.funs,I.ok.frf⟩,I.os,I.bare,I.base,I.loc,I.cell,I.free,I.freeC,I.pin,I.hok,I.len⟩
theorem SP.untry {D:Vs} {f:Flow} {pins' :List (Addr×Obj)} (h:SP (X.try' (X.pn++pins) xe) pins' D f s'):SP X pins D f s' :=by
 cases f with
 | next=>obtain ⟨σ',H',I,q⟩:=h; exact ⟨σ',H',I.untry,q⟩
 | brk=>obtain ⟨σ',H',I,q⟩:=h; exact ⟨σ',H',I.untry,q⟩
 | cont=>obtain ⟨σ',H',I,q⟩:=h; exact ⟨σ',H',I.untry,q⟩
 | ret u=>obtain ⟨v,σ',H',I,r,q⟩:=h; exact ⟨v,σ',H',I.untry,r,q⟩
theorem Xu {A:Around} {E:Value->Shared->Prop} {M:Model} {i:Nat} {n:Str} {pos:Pos} {Q:Unit->Shared->Prop} (I:Inv X pins σ H s) (hN:X.N.Nodup) (hi:X.N[i]? =some n) (hl:X.env.kindOf n=some .local) (h:∀ s',Inv X pins (σ.set i none) H s' ->Q () s'):
  wpAny M A (do bindName X.env n .none; unbindBehindTheSuite X.env n pos) Q E s:=by
 obtain ⟨m,hn,hlo⟩:=id I.loc
 have hcls:(X.env.scope.kind == .class || (X.env.scope.kind == .module && X.env.locals != X.env.globals))=false:=by rw [I.ok.kind]; rfl
 refine wpAny_nameGoes_keeps hl hn hcls fun h' v hn' hs=> ?_
 obtain ⟨oL,_,_,hoL,_⟩:=id hn
 refine h _ ⟨I.ok,I.os,I.bare,⟨fun b o e n hb hx=> ?_,fun b o e n hb hx=> ?_,I.base.free,fun b o e hx=> ?_,I.base.tups,I.base.frzs,I.base.tbls⟩,⟨_,hn',fun j y v' e1 e2 e3=> ?_⟩,fun y c e=> ?_,I.free,I.freeC,fun p hp=> ?_,fun b ob e=> ?_,by simpa using I.len⟩
 ·exact (hs.2 b (Nat.ne_of_lt (Nat.lt_of_lt_of_le (Heap.lt_size e) I.ok.above))).trans (I.base.keep b o e n hb hx)
 ·obtain ⟨sl,e1⟩:=I.base.slot b o e n hb hx
  exact ⟨sl,(hs.2 b (Nat.ne_of_lt (Nat.lt_of_lt_of_le (Heap.lt_size e) I.ok.above))).trans e1⟩
 ·obtain ⟨o',e1⟩:=I.base.there b o e hx
  exact ⟨o',(hs.2 b (Nat.ne_of_lt (Nat.lt_of_lt_of_le (Heap.lt_size e) I.ok.above))).trans e1⟩
 ·by_cases hj:j=i
  ·subst hj
   have hiσ:j < σ.length:=by rw [I.len]; exact (List.getElem?_eq_some_iff.mp hi).1
   rw [List.getElem?_set_self hiσ] at e2
   cases e2
  ·rw [List.getElem?_set_ne (Ne.symm hj)] at e2
   obtain ⟨u',r',q⟩:=hlo j y v' e1 e2 e3
   refine ⟨u',r', ?_⟩
   rcases q with ⟨k,e⟩ | ⟨k,c,e,z⟩
   ·refine .inl ⟨k, ?_⟩
    have:y ≠ n:=fun e=>hj (UB hN e1 (e ▸ hi))
    simp [this,e]
   ·exact .inr ⟨k,c,e,z.sameBut hs (I.cne y c e)⟩
 ·obtain ⟨w',z⟩:=I.cell y c e
  exact ⟨w',z.sameBut hs (I.cne y c e)⟩
 ·obtain ⟨e,n,ne,nf,d⟩:=I.pin p hp
  exact ⟨(hs.2 p.1 ne).trans e,n,ne,nf,d⟩
 ·refine (I.hok b ob e).stay (fun c w' hc q=>(hs.2 c ?_).trans q) (fun _ q=>q) fun _ _ q=>q
  rintro rfl
  rcases hc with rfl | hc
  ·rw [I.free] at e; cases e
  ·rw [I.free] at hc; cases hc
end
section
variable {prog:Program} {w:World} {A:Around} {E:Value->Shared->Prop} {s:Shared} {env:Env}
theorem qX {K:Frag} {e:Addr} {cls c:Value} {t:Expr} {n:Str} {b₀:Stmt} {suite:List Stmt} {pos:Pos} {rest:List ExceptHandler} {Q:Flow->Shared->Prop} (hx:exmOne K cls c=some true)
  (h:wpAny (model prog w) (A.mark (some (.ref e))) (eval t env) (fun v s₁=>v=c/\K.In s₁.heap/\(∃ oe,s₁.heap.get? e=some oe/\oe.cls=cls)/\
   wpAny (model prog w) (A.mark (some (.ref e))) (setFlight (.ref e) none) (fun _ s₂=>
     wpAny (model prog w) (A.mark (some (.ref e))) (storeName env n (.ref e)) (fun _ s₃=>
      wpAny (model prog w) (A.mark (some (.ref e))) (execs (b₀ :: suite) env)
       (fun f s₄=>wpAny (model prog w) A (do bindName env n .none; unbindBehindTheSuite env n pos) (fun _ s₅=>Q f s₅) E s₄)
       (fun _ _=>False) s₃) (fun _ _=>False) s₂) (fun _ _=>False) s₁) (fun _ _=>False) s):
  wpAny (model prog w) A (handleBy (.ref e) env (.ExceptHandler (some t) (some n) (b₀ :: suite) pos :: rest)) Q E s:=by
 refine wpAny_handleBy_cons (codeAny_handlers_test (wpAny_mono h (fun v s₁ h₁=> ?_) fun _ _ y=>y.elim)) (by intro q; cases q)
 obtain ⟨rfl,X,⟨oe,he,hcls⟩,hk⟩:=h₁
 have LT:Looks (model prog w) s₁.heap (typeOf (.ref e)) cls:=by
  rw [← hcls]
  exact (Looks.ld he).andThen .now
 refine (exm_one X LT hx) _ _ _ _ (fun b o q=>q) (codeAny_handlers_suite_as ?_)
 exact wpAny_mono hk (fun _ s₂ h₂=>wpAny_mono h₂ (fun _ s₃ h₃=>wpAny_mono h₃ (fun _ _ y=>y) fun _ _ y=>y.elim) fun _ _ y=>y.elim) fun _ _ y=>y.elim
end
end L2
namespace L2
open PySem PySem.Spec PyProof.Rows PySem.W
section
variable {X:Cx} {pins:List (Addr×Obj)} {σ:St} {H H' :Hp} {s s' :Shared} {ea:Addr} {cls a0:Value} {B:Heap} {h3:Heap}
theorem Inv.caught (I:Inv X pins σ H s) (L:Yw X.prog X.w X.stack H s s' ea cls a0 B H') (fl:Heap.FlyingW B X.stack ea cls a0 h3) (sl:s'.heap.UpToSlots h3):Inv X pins σ H' { s' with heap:=h3 }:=
 have L3:=L.on I.frNf fl sl
 I.call' (ch:=[]) L3.os L3.un (L.hok.kept fl.1) L3.bare (fun b z=>absurd z (by simp))
theorem Yw.fresh {P:Program} {w:World} {outer:List Env} (L:Yw P w outer H s s' ea cls a0 B H'):H' ea=none:=by
 cases q:H' ea with
 | none=>rfl
 | some o=>
  obtain ⟨ob,e⟩:=(L.hok ea o q).there
  have:=L.fly.2.1
  rw [e] at this; cases this
theorem Inv.caughtX (I:Inv X pins σ H s) (L:Yw X.prog X.w X.stack H s s' ea cls a0 B H') (fl:Heap.FlyingW B X.stack ea cls a0 h3) (sl:s'.heap.UpToSlots h3):Inv X pins σ (upd H' ea (.ext (Yy cls ea))) { s' with heap:=h3 }:=by
 have L3:=L.on I.frNf fl sl
 have hfree:=L.fresh
 obtain ⟨oe,vs,he,hc,hd,_⟩:=fl.first
 have hne:∀ b o,s.heap.get? b=some o->b ≠ ea:=fun b o e z=>by
  subst z
  by_cases hb:b∈frs X.stack
  ·obtain ⟨n,o2,e2,nf⟩:=I.frNf b hb
   obtain ⟨sl1,e3⟩:=L3.un.slot b o2 e2 n hb (by simp)
   have e3:h3.get? b=some { o2 with slots:=sl1 }:=e3
   rw [he] at e3; cases e3
   exact nf vs hd
  ·obtain ⟨o',e'⟩:=(L.inB b o e hb).2
   have:=L.fly.2.1
   rw [e'] at this; cases this
 have nt:∀ b u,H' b=some u->b ≠ ea:=fun b u e z=>by rw [z,hfree] at e; cases e
 refine I.call' (ch:=[]) L3.os ⟨L3.un.keep,L3.un.slot,fun b o e n hx=> ?_,L3.un.there,fun b xs e=> ?_,fun b o xs e=> ?_,fun b ps e=> ?_⟩ ?_ L3.bare (fun b z=>absurd z (by simp))
 ·rw [zF (hne b o e)]; exact L3.un.free b o e n hx
 ·have:=L3.un.tups b xs e
  rw [zF (nt b _ this)]; exact this
 ·have:=L3.un.frzs b o xs e
  rw [zF (nt b _ this)]; exact this
 ·obtain ⟨m,this⟩:=L3.un.tbls b ps e
  exact ⟨m,by rw [zF (nt b _ this)]; exact this⟩
 ·intro b u e
  by_cases hb:b=ea
  ·subst hb
   rw [Zj] at e; cases e
   exact Yy.ok ⟨oe,he,hc⟩
  ·rw [zF hb] at e
   exact ((L.hok.kept fl.1) b u e).stay (fun _ _ _ q=>q) (fun c q=>by rw [zF (nt c _ q)]; exact q) fun c xs q=>by rw [zF (nt c _ q)]; exact q
end
theorem Xv {X:Cx} {tb:XK->TS} {body:List Stmt} {c n y:Str} {C:Addr} {cp np yp hp apos pos:Pos} {i k:Nat}
  (hX:X.stack=X.env :: X.outer) (hf:X.env.frame=some X.env.locals) (hN:X.N.Nodup)
  (hi:X.N[i]? =some n) (hl:X.env.scope.names.lookup n=some .local) (hk:X.N[k]? =some y) (hy:X.env.scope.names.lookup y=some .local)
  (hg:Gl X c) (hm:X.mg c=some (.ref C))
  (hb:∀ (E' :XK) (pn:List (Addr×Obj)) (xe:Value->Shared->Prop),wP (CX1 X.prog X.w) (X.try' pn xe) E' ->PSs (X.try' pn xe) body (tb E'))
  (hs:swapsWith (.Name n np) (some (.Name y yp)) apos.line X.env=pure false:=by rfl)
  (hdc:(c == ("__debug__":Str))=false:=by decide) (hdn:(n == ("__debug__":Str))=false:=by decide) (hcd:(n == ("__classdict__":Str))=false:=by decide):
  PS X (.Try body [.ExceptHandler (some (.Name c cp)) (some n) [.Assign [.Name y yp] (.Name n np) apos] hp] [] [] pos)
   (fun D σ H=>∃ E' :XK,(∀ (cls:Value) (d:Option Addr) (H' :Hp) (ea:Addr) (σ' :St),E' cls d H' ->exmOne X.K cls (.ref C)=some true/\(H' ea=none->σ'.length=σ.length->σ.length=X.N.length->D.nx (((σ'.set i (some (.ref ea))).set k (some (.ref ea))).set i none) (upd H' ea (.ext (Yy cls ea)))))/\tb E' D σ H):=by
 intro pins s σ H D I ⟨E',hE,hw⟩
 have pass:wP (CX1 X.prog X.w) (X.try' (X.pn++pins) fun e s1=>wpAny (model X.prog X.w) X.A (noteFrame e X.env) (fun _ s2=>wpAny (model X.prog X.w) X.A (setFlight e none) (fun _ s3=>wpAny (model X.prog X.w) X.A (handleBy e X.env [.ExceptHandler (some (.Name c cp)) (some n) [.Assign [.Name y yp] (.Name n np) apos] hp]) (SP X pins D) X.xe s3) X.xe s2) X.xe s1) E' :=by
  intro pins' σ' H1 s1 e s' I1 ⟨ea,cls,a0,B,H',he,L,hw'⟩
  subst he
  have I0:Inv X pins σ' H1 s1:=I1.untry
  have L:Yw X.prog X.w X.stack H1 s1 s' ea cls a0 B H' :=L
  have fr:X.A.frames=some (X.env :: X.outer):=by rw [← hX]; exact I0.ok.frames
  show wpAny (model X.prog X.w) X.A (noteFrame (.ref ea) X.env) _ _ s'
  refine wpAny_looks_onW (base:=B) fr hf (hX ▸ L.fly) fun h1 held sl1=> ?_
  refine wpAny_landsW held fun h2 fl2 sl2=> ?_
  rw [← hX] at fl2
  have sl12:s'.heap.UpToSlots h2:=sl1.trans sl2
  have I2:=I0.caught L fl2 sl12
  obtain ⟨hm1,hD⟩:=hE cls none H' ea σ' hw'
  refine qX hm1 ?_
  refine UC (X:=X.mark' (.ref ea)) (I2.mark' (.ref ea)) hg hm ⟨rfl,I2.kIn,fl2.there, ?_⟩ hdc
  refine lands_againW fl2 fun h3 fl3 sl3=> ?_
  have I3:=I0.caughtX L fl3 (sl12.trans sl3)
  have hlen:σ'.length=X.N.length:=I0.len
  refine Wa (X:=X.mark' (.ref ea)) (I3.mark' _) hN hi (.inl hl) (v:= .ref ea) rfl (fun s4 I4=> ?_) (.inr hl)
  have hiσ:i < σ'.length:=by rw [hlen]; exact (List.getElem?_eq_some_iff.mp hi).1
  have hs1:=Qx (qk (X:=X.mark' (.ref ea)) (pos:=apos) (pos' :=yp) hN hk (.inl hy) (xG (pos:=np) hi (.inl hl) hdn hcd) hs (.inr hy))
  have hr:=hs1 pins s4 _ _ { nx:=fun σ5 H5=>σ5=(σ'.set i (some (.ref ea))).set k (some (.ref ea))/\H5=upd H' ea (.ext (Yy cls ea)),rt:=fun _ _=>False } I4 ⟨.ref ea,List.getElem?_set_self hiσ,rfl,rfl⟩
  refine wpAny_mono hr (fun f s5 h5=> ?_) fun _ _ z=>z
  cases f with
  | next=>
   obtain ⟨σ5,H5,I5,rfl,rfl⟩:=h5
   refine Xu (X:=X) (I5.unmark I.ok.hd) hN hi hl fun s6 I6=> ?_
   exact ⟨_,_,I6,hD L.fresh (hlen.trans I.len.symm) I.len⟩
  | brk=>obtain ⟨_,_,_,z⟩:=h5; exact z.elim
  | cont=>obtain ⟨_,_,_,z⟩:=h5; exact z.elim
  | ret u=>obtain ⟨_,_,_,_,_,z⟩:=h5; exact z.elim
 have hr:=hb E' (X.pn++pins) _ pass [] s σ H D (I.try' _) hw
 refine wpAny_Try_except (wpAny_mono hr (fun f s1 h1=> ?_) fun _ _ z=>z)
 have h1:=h1.untry
 cases f with
 | next=>exact wpAny_execs_nil h1
 | brk=>exact h1
 | cont=>exact h1
 | ret u=>exact h1
end L2
namespace L2
open PySem PySem.Spec PyProof.Rows
theorem PE.imp {X:Cx} {e:Expr} {t t' :TE} (h:PE X e t) (i:∀ σ H Q,t' σ H Q->t σ H Q):PE X e t' :=fun pins s σ H Q I q=>h pins s σ H Q I (i σ H Q q)
theorem PT.imp {X:Cx} {e:Expr} {t t' :TT} (h:PT X e t) (i:∀ σ H Q,t' σ H Q->t σ H Q):PT X e t' :=fun pins s σ H Q I q=>h pins s σ H Q I (i σ H Q q)
theorem PA.imp {X:Cx} {e:List Expr} {t t' :TA} (h:PA X e t) (i:∀ σ H Q,t' σ H Q->t σ H Q):PA X e t' :=fun pos pins s σ H Q I q=>h pos pins s σ H Q I (i σ H Q q)
theorem PS.imp {X:Cx} {e:Stmt} {t t' :TS} (h:PS X e t) (i:∀ D σ H,t' D σ H->t D σ H):PS X e t' :=fun pins s σ H D I q=>h pins s σ H D I (i D σ H q)
theorem PSs.imp {X:Cx} {e:List Stmt} {t t' :TS} (h:PSs X e t) (i:∀ D σ H,t' D σ H->t D σ H):PSs X e t' :=fun pins s σ H D I q=>h pins s σ H D I (i D σ H q)
end L2
namespace PV
open PySem
noncomputable def yy:Expr->Bool
 | .Starred _ _=>false
 | _=>true
theorem ZL {e:Expr} {rest:List Expr} {env:Env} (h:yy e=true):starEach (e :: rest) env=(false,eval e env) :: starEach rest env:=by
 cases e <;> first | rfl | cases h
theorem st2 {a b:Expr} {env:Env} (h:yy a=true) (h' :yy b=true):starEach [a,b] env=[(false,eval a env),(false,eval b env)]:=by
 rw [ZL h,ZL h']; rfl
theorem st1 {a:Expr} {env:Env} (h:yy a=true):starEach [a] env=[(false,eval a env)]:=by
 rw [ZL h]; rfl
theorem jP {pos:Pos} {env:Env}:∀ {es:List Expr},es.all yy=true->((backTo pos (starEach es env)).any fun x=>x.fst)=false
 | [],_=>rfl
 | e :: es,h=>by
  rw [List.all_cons,Bool.and_eq_true] at h
  rw [ZL h.1]
  have:=jP (pos:=pos) (env:=env) h.2
  show (false || ((backTo pos (starEach es env)).any fun x=>x.fst))=false
  rw [this]; rfl
open PySem PySem.Spec PyProof.Rows L2
noncomputable abbrev Sg:=L2.St
inductive T where
 | non | bl (b:Bool) | int (i:Int) | str (x:Str) | tup (xs:List T) | lst (xs:List T) | fz (xs:List T)
inductive R (α:Type) where
 | ok (a:α) | ex (c:Nat) | bad
noncomputable def R.bind {α β:Type} (r:R α) (f:α->R β):R β:=match r with
 | .ok a=>f a
 | .ex c=> .ex c
 | .bad=> .bad
mutual
inductive Rep (H:Hp):V->T->Prop where
 | non:Rep H .non .non
 | bl (b:Bool):Rep H (.bl b) (.bl b)
 | int (i:Int):Rep H (.int i) (.int i)
 | str (x:Str):Rep H (.str x) (.str x)
 | tup {a:Addr} {xs:List V} {ts:List T}:H a=some (.tup xs)->Z2 H xs ts->Rep H (.ref a) (.tup ts)
 | lst {a:Addr} {xs:List V} {ts:List T}:H a=some (.lst xs)->Z2 H xs ts->Rep H (.ref a) (.lst ts)
 | fz {a:Addr} {o:Obj} {xs:List V} {ts:List T}:H a=some (.frz o (.lst xs))->Z2 H xs ts->Rep H (.ref a) (.fz ts)
inductive Z2 (H:Hp):List V->List T->Prop where
 | nil:Z2 H [] []
 | cons {v:V} {t:T} {vs:List V} {ts:List T}:Rep H v t->Z2 H vs ts->Z2 H (v :: vs) (t :: ts)
end
mutual
theorem Rep.mono {H H' :Hp} (s:zN H H'):∀ {v:V} {t:T},Rep H v t->Rep H' v t
 | _,_, .non=> .non
 | _,_, .bl b=> .bl b
 | _,_, .int i=> .int i
 | _,_, .str x=> .str x
 | _,_, .tup h r=> .tup (s _ _ h) (Z2.mono s r)
 | _,_, .lst h r=> .lst (s _ _ h) (Z2.mono s r)
 | _,_, .fz h r=> .fz (s _ _ h) (Z2.mono s r)
theorem Z2.mono {H H' :Hp} (s:zN H H'):∀ {v:List V} {t:List T},Z2 H v t->Z2 H' v t
 | _,_, .nil=> .nil
 | _,_, .cons h r=> .cons (Rep.mono s h) (Z2.mono s r)
end
theorem Z2.length {H:Hp}:∀ {vs:List V} {ts:List T},Z2 H vs ts->vs.length=ts.length
 | _,_, .nil=>rfl
 | _,_, .cons _ r=>congrArg (·+1) (Z2.length r)
theorem Z2.get {H:Hp}:∀ {vs:List V} {ts:List T} {i:Nat} {t:T},Z2 H vs ts->ts[i]? =some t->∃ v,vs[i]? =some v/\Rep H v t
 | _,_,_,_, .nil,e=>by simp at e
 | _,_,0,_, .cons r _,e=>by simp at e; subst e; exact ⟨_,rfl,r⟩
 | _,_,i+1,t, .cons _ q,e=>by
  obtain ⟨v,h1,h2⟩:=Z2.get (i:=i) (t:=t) q (by simpa using e)
  exact ⟨v,by simpa using h1,h2⟩
theorem Z2.getV {H:Hp}:∀ {vs:List V} {ts:List T} {i:Nat} {v:V},Z2 H vs ts->vs[i]? =some v->∃ t,ts[i]? =some t/\Rep H v t
 | _,_,_,_, .nil,e=>by simp at e
 | _,_,0,_, .cons r _,e=>by simp at e; subst e; exact ⟨_,rfl,r⟩
 | _,_,i+1,v, .cons _ q,e=>by
  obtain ⟨t,h1,h2⟩:=Z2.getV (i:=i) (v:=v) q (by simpa using e)
  exact ⟨t,by simpa using h1,h2⟩
theorem Z2.append {H:Hp}:∀ {vs ws:List V} {ts us:List T},Z2 H vs ts->Z2 H ws us->Z2 H (vs++ws) (ts++us)
 | _,_,_,_, .nil,q=>q
 | _,_,_,_, .cons r t,q=> .cons r (Z2.append t q)
theorem Z2.take {H:Hp}:∀ {vs:List V} {ts:List T} (n:Nat),Z2 H vs ts->Z2 H (vs.take n) (ts.take n)
 | _,_,0,_=> .nil
 | _,_,_+1, .nil=> .nil
 | _,_,n+1, .cons r t=> .cons r (Z2.take n t)
theorem Z2.drop {H:Hp}:∀ {vs:List V} {ts:List T} (n:Nat),Z2 H vs ts->Z2 H (vs.drop n) (ts.drop n)
 | _,_,0,r=>r
 | _,_,_+1, .nil=> .nil
 | _,_,n+1, .cons _ t=>Z2.drop n t
theorem Z2.rep {H:Hp} {vs:List V} {ts:List T} (h:Z2 H vs ts):∀ n:Nat,Z2 H (List.replicate n vs).flatten (List.replicate n ts).flatten
 | 0=> .nil
 | n+1=>by
  rw [List.replicate_succ,List.replicate_succ,List.flatten_cons,List.flatten_cons]
  exact h.append (Z2.rep h n)
theorem Z2.nil_iff {H:Hp} {vs:List V} {ts:List T} (h:Z2 H vs ts):vs=[]↔ts=[]:=by
 cases h <;> simp
noncomputable def Zo (B H H' :Hp):Hp:=fun b=>match H b with
 | none=>H' b
 | some _=>B b
theorem ZM {B H H' :Hp} {b:Addr} (h:H b=none):Zo B H H' b=H' b:=by unfold Zo; rw [h]
theorem ZU {B H H' :Hp} {b:Addr} {o:HO} (h:H b=some o):Zo B H H' b=B b:=by unfold Zo; rw [h]
theorem Zo.ge {B H H' :Hp} (s:zN B H) (s' :zN H H'):zN B (Zo B H H'):=fun b o h=>by
 rw [ZU (s b o h)]; exact h
theorem Zo.le {B H H' :Hp} (s:zN B H) (s' :zN H H'):zN (Zo B H H') H' :=fun b o h=>by
 cases q:H b with
 | none=>rw [ZM q] at h; exact h
 | some u=>rw [ZU q] at h; exact s' b o (s b o h)
theorem Zo.self (B H:Hp) (s:zN B H):Zo B H H=B:=by
 funext b
 cases q:H b with
 | none=>
  rw [ZM q,q]
  cases z:B b with
  | none=>rfl
  | some o=>rw [s b o z] at q; cases q
 | some u=>rw [ZU q]
theorem Zo.trans {B H H1 H2:Hp} (s1:zN H H1) (s2:zN H1 H2):Zo (Zo B H H1) H1 H2=Zo B H H2:=by
 funext b
 cases q:H b with
 | none=>
  rw [ZM q]
  cases z:H1 b with
  | none=>rw [ZM z]
  | some o=>rw [ZU z,ZM q,z,s2 b o z]
 | some u=>rw [ZU q,ZU (s1 b u q),ZU q]
inductive Sl where
 | un | vl (t:T) | ow (ts:List T) | xc (c:Nat)
noncomputable abbrev En:=List Sl
structure Fx where
 B0:Hp
 H0:Hp
 E:XK
 cl:Nat->Value
structure SI (Y:Fx) (B:Hp) (ρ:En) (σ:Sg) (H:Hp):Prop where
 s0:zN Y.B0 Y.H0
 sH:zN Y.H0 H
 sB:zN B H
 old:∀ b o,Y.H0 b=some o->B b=Y.B0 b
 len:ρ.length=σ.length
 vl:∀ (i:Nat) (t:T),ρ[i]? =some (Sl.vl t)->∃ v:V,σ[i]? =some (some v)/\Rep B v t
 ow:∀ (i:Nat) (ts:List T),ρ[i]? =some (Sl.ow ts)->∃ (a:Addr) (xs:List V),σ[i]? =some (some (V.ref a))/\B a=none/\Y.H0 a=none/\H a=some (.lst xs)/\Z2 B xs ts/\
  ∀ (j:Nat) (us:List T),j ≠ i->ρ[j]? =some (Sl.ow us)->σ[j]? ≠ some (some (V.ref a))
 xc:∀ (i:Nat) (c:Nat),ρ[i]? =some (Sl.xc c)->∃ a:Addr,σ[i]? =some (some (V.ref a))/\B a=some (.ext (Yy (Y.cl c) a))
theorem SI.grow {Y:Fx} {B:Hp} {ρ:En} {σ:Sg} {H H' :Hp} (I:SI Y B ρ σ H) (s:zN H H'):SI Y (Zo B H H') ρ σ H' where
 s0:=I.s0
 sH:=I.sH.trans s
 sB:=Zo.le I.sB s
 old:=fun b o h=>by rw [ZU (I.sH b o h)]; exact I.old b o h
 len:=I.len
 vl:=fun i t h=>let ⟨v,e,r⟩:=I.vl i t h; ⟨v,e,r.mono (Zo.ge I.sB s)⟩
 ow:=fun i ts h=>let ⟨a,xs,e,b,h0,hh,r,d⟩:=I.ow i ts h; ⟨a,xs,e,by rw [ZU hh]; exact b,h0,s _ _ hh,r.mono (Zo.ge I.sB s),d⟩
 xc:=fun i c h=>let ⟨a,e,r⟩:=I.xc i c h; ⟨a,e,Zo.ge I.sB s a _ r⟩
noncomputable def XP (Y:Fx) (B:Hp) (c:Nat):Prop:=∀ (d:Option Addr) (H' :Hp),zN Y.H0 H' ->zN B H' ->Y.E (Y.cl c) d H'
noncomputable def Po {α β:Type} (Y:Fx) (rel:Hp->Hp->β->α->Prop) (B H:Hp) (r:R α) (Q:β->Hp->Prop):Prop:=match r with
 | .ok a=>∀ b H',zN H H' ->rel (Zo B H H') H' b a->Q b H'
 | .ex c=>XP Y B c
 | .bad=>False
noncomputable abbrev rC:Hp->Hp->V->T->Prop:=fun B _ v t=>Rep B v t
noncomputable abbrev rB:Hp->Hp->V->T->Prop:=fun _ H v t=>Rep H v t
noncomputable abbrev rCs:Hp->Hp->List V->List T->Prop:=fun B _ v t=>Z2 B v t
noncomputable abbrev rE {α:Type}:Hp->Hp->α->α->Prop:=fun _ _ a b=>a=b
noncomputable def tS {α β:Type} (Y:Fx) (rel:Hp->Hp->β->α->Prop) (f:En->R α) (ρ:En):Sg->Hp->(β->Hp->Prop)->Prop:=fun σ H Q=>∃ B,SI Y B ρ σ H/\Po Y rel B H (f ρ) Q
structure Snd (X:Cx) (Y:Fx) (e:Expr) (f:En->R T):Prop where
 mk ::
 go:∀ ρ,PE X e (tS Y rC f ρ)
noncomputable instance {X:Cx} {Y:Fx} {e:Expr} {f:En->R T}:CoeFun (Snd X Y e f) fun _=>∀ ρ,PE X e (tS Y rC f ρ):=⟨Snd.go⟩
structure Wd (X:Cx) (Y:Fx) (e:Expr) (f:En->R T):Prop where
 mk ::
 go:∀ ρ,PE X e (tS Y rB f ρ)
noncomputable instance {X:Cx} {Y:Fx} {e:Expr} {f:En->R T}:CoeFun (Wd X Y e f) fun _=>∀ ρ,PE X e (tS Y rB f ρ):=⟨Wd.go⟩
structure Yp (X:Cx) (Y:Fx) (e:Expr) (f:En->R Bool):Prop where
 mk ::
 go:∀ ρ,PT X e (tS Y rE f ρ)
noncomputable instance {X:Cx} {Y:Fx} {e:Expr} {f:En->R Bool}:CoeFun (Yp X Y e f) fun _=>∀ ρ,PT X e (tS Y rE f ρ):=⟨Yp.go⟩
structure Yz (X:Cx) (Y:Fx) (es:List Expr) (f:En->R (List T)):Prop where
 mk ::
 go:∀ ρ,PA X es (tS Y rCs f ρ)
noncomputable instance {X:Cx} {Y:Fx} {es:List Expr} {f:En->R (List T)}:CoeFun (Yz X Y es f) fun _=>∀ ρ,PA X es (tS Y rCs f ρ):=⟨Yz.go⟩
theorem step {α α' β β' :Type} {Y:Fx} {rel:Hp->Hp->β->α->Prop} {rel' :Hp->Hp->β' ->α' ->Prop} {f:En->R α} {k:α->R α'} {ρ:En} {B:Hp} {σ:Sg} {H:Hp} {Q:β' ->Hp->Prop} {K:β->Hp->Prop}
  (I:SI Y B ρ σ H) (h:Po Y rel' B H ((f ρ).bind k) Q)
  (n:∀ a b H1,f ρ= .ok a->zN H H1->rel (Zo B H H1) H1 b a->SI Y (Zo B H H1) ρ σ H1->Po Y rel' (Zo B H H1) H1 (k a) Q->K b H1):tS Y rel f ρ σ H K:=by
 refine ⟨B,I, ?_⟩
 cases e:f ρ with
 | bad=>rw [e] at h; exact h
 | ex c=>rw [e] at h; exact h
 | ok a=>
  rw [e] at h
  intro b H1 s r
  refine n a b H1 e s r (I.grow s) ?_
  have h' :Po Y rel' B H (k a) Q:=h
  revert h'
  cases k a with
  | bad=>exact fun h' =>h'
  | ex c=>exact fun h' d H' s0 sB' =>h' d H' s0 ((Zo.ge I.sB s).trans sB')
  | ok a' =>exact fun h' b' H2 s2 r2=>h' b' H2 (s.trans s2) (by rw [← Zo.trans s s2]; exact r2)
theorem Jj {α β:Type} {Y:Fx} {rel:Hp->Hp->β->α->Prop} {ρ:En} {B:Hp} {σ:Sg} {H:Hp} {a:α} {b:β} {Q:β->Hp->Prop} (I:SI Y B ρ σ H) (h:Po Y rel B H (.ok a) Q) (r:rel B H b a):Q b H:=h b H (zN.refl H) (by rw [Zo.self B H I.sB]; exact r)
theorem Snd.b {X:Cx} {Y:Fx} {e:Expr} {f:En->R T} (h:Snd X Y e f):Wd X Y e f:= .mk fun ρ=>PE.imp (h ρ) fun σ H Q ⟨B,I,q⟩=>⟨B,I,by
 revert q
 cases f ρ with
 | bad=>exact fun q=>q
 | ex c=>exact fun q=>q
 | ok a=>exact fun q b H' s r=>q b H' s (r.mono (Zo.le I.sB s))⟩
section
variable {X:Cx} {Y:Fx} {a b c:Expr} {fa fb fc:En->R T} {pos:Pos}
noncomputable def vE (i:Nat):En->R T:=fun ρ=>match ρ[i]? with
 | some (.vl t)=> .ok t
 | _=> .bad
noncomputable def vB (i:Nat):En->R T:=fun ρ=>match ρ[i]? with
 | some (.vl t)=> .ok t
 | some (.ow ts)=> .ok (.lst ts)
 | _=> .bad
noncomputable def cE (t:T):En->R T:=fun _=> .ok t
theorem zb (i:Nat) {x:Str} (h:PE X (.Name x pos) (Qu i)):Snd X Y (.Name x pos) (vE i):= .mk fun ρ=>PE.imp h fun σ H Q ⟨B,I,q⟩=>by
 unfold vE at q
 split at q
 ·rename_i t e
  obtain ⟨v,e1,r⟩:=I.vl i t e
  exact ⟨v,e1,Jj I q r⟩
 ·exact q.elim
theorem zm (i:Nat) {x:Str} (h:PE X (.Name x pos) (Qu i)):Wd X Y (.Name x pos) (vB i):= .mk fun ρ=>PE.imp h fun σ H Q ⟨B,I,q⟩=>by
 unfold vB at q
 split at q
 ·rename_i t e
  obtain ⟨v,e1,r⟩:=I.vl i t e
  exact ⟨v,e1,Jj I q (r.mono I.sB)⟩
 ·rename_i ts e
  obtain ⟨a,xs,e1,_,_,hh,r,_⟩:=I.ow i ts e
  exact ⟨.ref a,e1,Jj I q (.lst hh (r.mono I.sB))⟩
 ·exact q.elim
theorem zc {i j}:Snd X Y (.Constant (.int i) j pos) (cE (.int i)):= .mk fun ρ=>PE.imp K9 fun σ H Q ⟨B,I,q⟩=>Jj I q (.int i)
theorem qq {i j}:Snd X Y (.Constant (.bool i) j pos) (cE (.bl i)):= .mk fun ρ=>PE.imp Ge fun σ H Q ⟨B,I,q⟩=>Jj I q (.bl i)
theorem VD {j}:Snd X Y (.Constant .none j pos) (cE .non):= .mk fun ρ=>PE.imp xH fun σ H Q ⟨B,I,q⟩=>Jj I q .non
theorem zU {i j}:Snd X Y (.Constant (.str i) j pos) (cE (.str i)):= .mk fun ρ=>PE.imp xI fun σ H Q ⟨B,I,q⟩=>Jj I q (.str i)
noncomputable def zh:En->R (List T):=fun _=> .ok []
noncomputable def z9 (f:En->R T) (g:En->R (List T)):En->R (List T):=fun ρ=>(f ρ).bind fun t=>(g ρ).bind fun ts=> .ok (t :: ts)
theorem zk:Yz X Y [] zh:= .mk fun ρ=>PA.imp ZZ fun σ H Q ⟨B,I,q⟩=>Jj I q .nil
theorem za {es:List Expr} {g:En->R (List T)} (h:Snd X Y a fa) (hs:Yz X Y es g) (hq:starEach (a :: es) X.env=(false,eval a X.env) :: starEach es X.env:=by exact ZL rfl):Yz X Y (a :: es) (z9 fa g):= .mk fun ρ=>
 PA.imp (zO (h ρ) (hs ρ) hq) fun σ H Q ⟨B,I,q⟩=>step I q fun t v H1 _ s1 r1 I1 q1=>step I1 q1 fun ts vs H2 _ s2 r2 I2 q2=>Jj I2 q2 (.cons (r1.mono (Zo.ge I1.sB s2)) r2)
theorem zN.new {H:Hp} {p:Addr} (h:H p=none) (o:HO):zN H (upd H p o):=fun b u q=>by rw [zF (Z6 q h)]; exact q
theorem Wy {B H:Hp} {p:Addr} (h:H p=none) (o:HO):Zo B H (upd H p o) p=some o:=by rw [ZM h,Zj]
noncomputable def bnd:Nat:=16777216
theorem JM {n:Nat} (h:n<=bnd):n<=sizeLine:=by rw [sizeLine_eq]; exact h
noncomputable def jh (g:En->R (List T)):En->R T:=fun ρ=>(g ρ).bind fun ts=>if ts.length<=bnd then .ok (.tup ts) else .bad
noncomputable def Jo (g:En->R (List T)):En->R T:=fun ρ=>(g ρ).bind fun ts=>if ts.length<=bnd then .ok (.lst ts) else .bad
theorem Xw {ρ:En} {σ:Sg} {B H:Hp} {xs:List V} {ts:List T} (I:SI Y B ρ σ H) (r:Z2 B xs ts) {p:Addr} (h:H p=none):Rep (Zo B H (upd H p (.tup xs))) (.ref p) (.tup ts):=
 .tup (Wy h _) (r.mono (Zo.ge I.sB (zN.new h _)))
theorem Xx {ρ:En} {σ:Sg} {B H:Hp} {xs:List V} {ts:List T} (I:SI Y B ρ σ H) (r:Z2 B xs ts) {p:Addr} (h:H p=none):Rep (Zo B H (upd H p (.lst xs))) (.ref p) (.lst ts):=
 .lst (Wy h _) (r.mono (Zo.ge I.sB (zN.new h _)))
theorem JX {es:List Expr} {g:En->R (List T)} {x1} (h:Yz X Y es g):Snd X Y (.Tuple es x1 pos) (jh g):= .mk fun ρ=>PE.imp (Kr (h ρ)) fun σ H Q ⟨B,I,q⟩=>
 step I q fun ts vs H1 _ s1 r1 I1 q1=>by
  split at q1
  ·rename_i hb
   refine ⟨by rw [r1.length]; exact JM hb,fun p hp=>q1 _ _ (zN.new hp _) (Xw I1 r1 hp)⟩
  ·exact q1.elim
theorem wm {es:List Expr} {g:En->R (List T)} (h:Yz X Y es g):Snd X Y (.List es pos) (Jo g):= .mk fun ρ=>PE.imp (xK (h ρ)) fun σ H Q ⟨B,I,q⟩=>
 step I q fun ts vs H1 _ s1 r1 I1 q1=>by
  split at q1
  ·rename_i hb
   refine ⟨by rw [r1.length]; exact JM hb,fun p hp=>q1 _ _ (zN.new hp _) (Xx I1 r1 hp)⟩
  ·exact q1.elim
end
end PV
namespace PV
open PySem PySem.Spec PyProof.Rows L2
noncomputable def eqL (f:T->T->Option Bool):List T->List T->Option Bool
 | [],[]=>some true
 | [],_ :: _=>some false
 | _ :: _,[]=>some false
 | x :: xs,y :: ys=>match f x y with
  | none=>none
  | some b=>match eqL f xs ys with
   | none=>none
   | some c=>some (b && c)
noncomputable def b2 (b:Bool):Int:=if b then 1 else 0
noncomputable def eqF:Nat->T->T->Option Bool
 | _, .non, .non=>some true
 | _, .bl a, .bl b=>some (a == b)
 | _, .bl a, .int j=>some (b2 a == j)
 | _, .int i, .bl b=>some (i == b2 b)
 | _, .int i, .int j=>some (i == j)
 | _, .str x, .str y=>some (x == y)
 | n+1, .tup xs, .tup ys=>eqL (eqF n) xs ys
 | n+1, .lst xs, .lst ys=>eqL (eqF n) xs ys
 | n+1, .fz xs, .lst ys=>eqL (eqF n) xs ys
 | n+1, .lst xs, .fz ys=>eqL (eqF n) xs ys
 | n+1, .fz xs, .fz ys=>eqL (eqF n) xs ys
 | 0, .tup _, .tup _=>none
 | 0, .lst _, .lst _=>none
 | 0, .fz _, .lst _=>none
 | 0, .lst _, .fz _=>none
 | 0, .fz _, .fz _=>none
 | _, .non,_=>some false
 | _, .bl _,_=>some false
 | _, .int _,_=>some false
 | _, .str _,_=>some false
 | _, .tup _,_=>some false
 | _, .lst _,_=>some false
 | _, .fz _,_=>some false
mutual
theorem Rep.fn {H:Hp}:∀ {v:V} {t t' :T},Rep H v t->Rep H v t' ->t=t'
 | _,_,_, .non, .non=>rfl
 | _,_,_, .bl _, .bl _=>rfl
 | _,_,_, .int _, .int _=>rfl
 | _,_,_, .str _, .str _=>rfl
 | _,_,_, .tup h r, .tup h' r' =>by
  rw [h] at h'; cases h'; rw [Z2.fn r r']
 | _,_,_, .tup h r, .lst h' r' =>by rw [h] at h'; cases h'
 | _,_,_, .tup h r, .fz h' r' =>by rw [h] at h'; cases h'
 | _,_,_, .lst h r, .tup h' r' =>by rw [h] at h'; cases h'
 | _,_,_, .lst h r, .lst h' r' =>by
  rw [h] at h'; cases h'; rw [Z2.fn r r']
 | _,_,_, .lst h r, .fz h' r' =>by rw [h] at h'; cases h'
 | _,_,_, .fz h r, .tup h' r' =>by rw [h] at h'; cases h'
 | _,_,_, .fz h r, .lst h' r' =>by rw [h] at h'; cases h'
 | _,_,_, .fz h r, .fz h' r' =>by
  rw [h] at h'; cases h'; rw [Z2.fn r r']
theorem Z2.fn {H:Hp}:∀ {v:List V} {t t' :List T},Z2 H v t->Z2 H v t' ->t=t'
 | _,_,_, .nil, .nil=>rfl
 | _,_,_, .cons h r, .cons h' r' =>by rw [Rep.fn h h',Z2.fn r r']
end
theorem wG {f:T->T->Option Bool} (hf:∀ x b,f x x=some b->b=true):∀ (xs:List T) (b:Bool),eqL f xs xs=some b->b=true
 | [],b,h=>by
  have h' :some true=some b:=h
  cases h'; rfl
 | x :: xs,b,h=>by
  unfold eqL at h
  cases e:f x x with
  | none=>rw [e] at h; cases h
  | some c=>
   rw [e] at h
   cases e' :eqL f xs xs with
   | none=>rw [e'] at h; cases h
   | some d=>
    rw [e'] at h
    cases h
    rw [hf x c e,wG hf xs d e']
    rfl
theorem Jp:∀ (n:Nat) (t:T) (b:Bool),eqF n t t=some b->b=true
 | n, .non,b,h=>by unfold eqF at h; cases h; rfl
 | n, .bl x,b,h=>by unfold eqF at h; cases h; simp
 | n, .int x,b,h=>by unfold eqF at h; cases h; simp
 | n, .str x,b,h=>by unfold eqF at h; cases h; simp
 | 0, .tup x,b,h=>by unfold eqF at h; cases h
 | 0, .lst x,b,h=>by unfold eqF at h; cases h
 | 0, .fz x,b,h=>by unfold eqF at h; cases h
 | n+1, .tup x,b,h=>by unfold eqF at h; exact wG (Jp n) x b h
 | n+1, .lst x,b,h=>by unfold eqF at h; exact wG (Jp n) x b h
 | n+1, .fz x,b,h=>by unfold eqF at h; exact wG (Jp n) x b h
theorem QS {f:T->T->Option Bool}:∀ {xs ys:List T} {b:Bool},eqL f xs ys=some b->
  ∃ e:Nat->Bool,(∀ j x y,xs[j]? =some x->ys[j]? =some y->f x y=some (e j))/\((List.range (min xs.length ys.length)).all e && xs.length == ys.length)=b
 | [],[],b,h=>by
  have h' :some true=some b:=h
  cases h'
  exact ⟨fun _=>true,fun j x y h=>by simp at h,by simp⟩
 | [],y :: ys,b,h=>by
  have h' :some false=some b:=h
  cases h'
  exact ⟨fun _=>true,fun j x y h=>by simp at h,by simp⟩
 | x :: xs,[],b,h=>by
  have h' :some false=some b:=h
  cases h'
  exact ⟨fun _=>true,fun j x y h h' =>by simp at h',by simp⟩
 | x :: xs,y :: ys,b,h=>by
  unfold eqL at h
  cases e:f x y with
  | none=>rw [e] at h; cases h
  | some c=>
   rw [e] at h
   cases e' :eqL f xs ys with
   | none=>rw [e'] at h; cases h
   | some d=>
    rw [e'] at h
    cases h
    obtain ⟨g,h1,h2⟩:=QS e'
    refine ⟨fun j=>match j with | 0=>c | j+1=>g j,fun j u v hu hv=> ?_, ?_⟩
    ·cases j with
     | zero=>simp at hu hv; subst hu hv; exact e
     | succ j=>exact h1 j u v (by simpa using hu) (by simpa using hv)
    ·have z:min (x :: xs).length (y :: ys).length=min xs.length ys.length+1:=by simp only [List.length_cons]; omega
     rw [z,List.range_succ_eq_map,List.all_cons,List.all_map]
     have z2:((x :: xs).length == (y :: ys).length)=(xs.length == ys.length):=by simp
     rw [z2,← h2,Bool.and_assoc]
     rfl
section
variable {X:Cx} {pins:List (Addr×Obj)} {σ:Sg} {H:Hp} {s:Shared}
theorem Jw {a:Addr} {xs:List V} {ts:List T} (I:L2.Inv X pins σ H s) (h:H a=some (.tup xs)) (r:Z2 H xs ts):∃ its:List Value,ZY xs its/\s.heap.IsTuple a its.toArray/\ts.length=its.length/\xs.length<=sizeLine:=by
 obtain ⟨its,rv,p,z⟩:=I.tuple (SqT.of h)
 exact ⟨its,rv,p,by rw [← r.length]; exact rv.length,z⟩
theorem ZC {a:Addr} {xs:List V} {ts:List T} (I:L2.Inv X pins σ H s) (h:Rd H a (.lst xs)) (r:Z2 H xs ts):∃ its:List Value,ZY xs its/\s.heap.IsList a its.toArray/\ts.length=its.length/\xs.length<=sizeLine:=by
 obtain ⟨its,rv,p,z⟩:=I.list (.inl h)
 exact ⟨its,rv,p.isList,by rw [← r.length]; exact rv.length,z⟩
end
noncomputable abbrev EqN (A:Around) (s:Shared) (u u' :Value) (b:Bool):Prop:=SeqAt.EqAt A s u u' b/\SeqAt.RcAt A s u u' b/\SeqAt.RcNeAt A s u u' (!b)
section
variable {X:Cx} {pins:List (Addr×Obj)} {σ:Sg} {H:Hp} {s:Shared}
theorem QT {xs ys:List V} {ts us:List T} {its its' :List Value} {A:Around} {f:T->T->Option Bool} {e:Nat->Bool} (r:Z2 H xs ts) (r' :Z2 H ys us) (v:ZY xs its) (v' :ZY ys its')
  (he:∀ (j:Nat) (x y:T),ts[j]? =some x->us[j]? =some y->f x y=some (e j))
  (ih:∀ (x y:T) (b:Bool) (p q:V) (u w:Value),f x y=some b->Rep H p x->Rep H q y->jf p u->jf q w->EqN A s u w b) (j:Nat) (h1:j < its.toArray.size) (h2:j < its'.toArray.size):
  SeqAt.EqAt A s its.toArray[j] its'.toArray[j] (e j):=by
 have l1:=v.length
 have l2:=v'.length
 have m1:=r.length
 have m2:=r'.length
 have k1:j < xs.length:=by simp at h1; omega
 have k2:j < ys.length:=by simp at h2; omega
 obtain ⟨t,et,rt⟩:=r.getV (List.getElem?_eq_getElem k1)
 obtain ⟨t',et',rt'⟩:=r'.getV (List.getElem?_eq_getElem k2)
 obtain ⟨u,eu,ru⟩:=v.get (List.getElem?_eq_getElem k1)
 obtain ⟨u',eu',ru'⟩:=v'.get (List.getElem?_eq_getElem k2)
 have q1:its.toArray[j]=u:=by
  have:its[j]? =some its.toArray[j]:=by simp at h1 ⊢
  rw [eu] at this; exact (Option.some.inj this).symm
 have q2:its'.toArray[j]=u' :=by
  have:its'[j]? =some its'.toArray[j]:=by simp at h2 ⊢
  rw [eu'] at this; exact (Option.some.inj this).symm
 rw [q1,q2]
 exact (ih t t' (e j) _ _ u u' (he j t t' et et') rt rt' ru ru').1
theorem Xy {A:Around} {a c:Addr} {xs ys:List V} {ts us:List T} {b:Bool} {f:T->T->Option Bool} (I:L2.Inv X pins σ H s) (hu:A.units < cLine) (ha:H a=some (.tup xs)) (hc:H c=some (.tup ys)) (r:Z2 H xs ts) (r' :Z2 H ys us)
  (hb:eqL f ts us=some b) (hr:∀ x b,f x x=some b->b=true)
  (ih:∀ (x y:T) (b:Bool) (p q:V) (u w:Value),f x y=some b->Rep H p x->Rep H q y->jf p u->jf q w->EqN A.in1 s u w b):EqN A s (.ref a) (.ref c) b:=by
 obtain ⟨its,v,p,l,_⟩:=Jw I ha r
 obtain ⟨its',v',p',l',_⟩:=Jw I hc r'
 obtain ⟨e,he,hb'⟩:=QS hb
 have hp:=QT (A:=A.in1) r r' v v' he ih
 have z:((List.range (min its.toArray.size its'.toArray.size)).all e && its.toArray.size == its'.toArray.size)=b:=by
  rw [← hb']; simp [l,l']
 have R:=SeqAt.RcAt.tuples p p' hu hp
 have N:=SeqAt.RcNeAt.tuples p p' hu hp
 rw [z] at R
 have N' :SeqAt.RcNeAt A s (.ref a) (.ref c) (!b):=by
  rw [← z]; exact N
 refine ⟨?_,R,N'⟩
 by_cases hac:a=c
 ·subst hac
  rw [ha] at hc; cases hc
  have:=r.fn r'; subst this
  rw [wG hr ts b hb]
  exact SeqAt.EqAt.same _
 ·exact SeqAt.EqAt.of_refs hac R
theorem UG {A:Around} {a c:Addr} {xs ys:List V} {ts us:List T} {b:Bool} {f:T->T->Option Bool} (I:L2.Inv X pins σ H s) (hu:A.units < cLine) (ha:Rd H a (.lst xs)) (hc:Rd H c (.lst ys)) (r:Z2 H xs ts) (r' :Z2 H ys us)
  (hb:eqL f ts us=some b) (hr:∀ x b,f x x=some b->b=true)
  (ih:∀ (x y:T) (b:Bool) (p q:V) (u w:Value),f x y=some b->Rep H p x->Rep H q y->jf p u->jf q w->EqN A.in1 s u w b):EqN A s (.ref a) (.ref c) b:=by
 obtain ⟨its,v,p,l,_⟩:=ZC I ha r
 obtain ⟨its',v',p',l',_⟩:=ZC I hc r'
 obtain ⟨e,he,hb'⟩:=QS hb
 have hp:=QT (A:=A.in1) r r' v v' he ih
 have RN:SeqAt.RcAt A s (.ref a) (.ref c) b/\SeqAt.RcNeAt A s (.ref a) (.ref c) (!b):=by
  by_cases hl:its.toArray.size=its'.toArray.size
  ·have z:(List.range its.toArray.size).all e=b:=by
    rw [← hb']
    have:ts.length=us.length:=by simp at hl; omega
    rw [this]
    have k:its.toArray.size=us.length:=by simp; omega
    rw [k]; simp
   have R:=SeqAt.RcAt.lists p p' hl hu hp
   have N:=SeqAt.RcNeAt.lists p p' hl hu hp
   rw [z] at R
   refine ⟨R, ?_⟩
   rw [← z]; exact N
  ·have hl' :(its.toArray.size != its'.toArray.size)=true:=by simpa using hl
   have z:b=false:=by
    rw [← hb']
    have:¬ ts.length=us.length:=by simp at hl; omega
    simp [this]
   subst z
   exact ⟨SeqAt.RcAt.lists_lengths p p' hl' hu,SeqAt.RcNeAt.lists_lengths p p' hl' hu⟩
 refine ⟨?_,RN.1,RN.2⟩
 by_cases hac:a=c
 ·subst hac
  have hxy:xs=ys:=by
   rcases ha with ha | ⟨o,ha⟩ <;> rcases hc with hc | ⟨o',hc⟩ <;> (rw [ha] at hc; cases hc) <;> rfl
  subst hxy
  have:=r.fn r'; subst this
  rw [wG hr ts b hb]
  exact SeqAt.EqAt.same _
 ·exact SeqAt.EqAt.of_refs hac RN.1
end
end PV
namespace PV
open PySem PySem.Spec PyProof.Rows L2
section
variable {X:Cx} {pins:List (Addr×Obj)} {σ:Sg} {H:Hp} {s:Shared}
theorem We {A:Around}:A.in1.units=A.units+1:=rfl
set_option maxHeartbeats 2000000 in
theorem QU (I:L2.Inv X pins σ H s):∀ (A:Around),A.units < cLine->∀ (x y:T) (b:Bool) (p q:V) (u w:Value),eqF 0 x y=some b->Rep H p x->Rep H q y->jf p u->jf q w->EqN A s u w b:=by
 intro A hu x y b p q u w h rp rq ru rw'
 have hu' :=hu
 cases rp with
 | non=>
  obtain rfl:u=Value.none:=ru
  cases rq with
  | non=>obtain rfl:w=Value.none:=rw'; unfold eqF at h; cases h; exact ⟨.same _, .none_none, .none_none⟩
  | bl c=>obtain rfl:w=Value.bool c:=rw'; unfold eqF at h; cases h; exact ⟨.none_bool _, .none_bool _, .none_bool _⟩
  | int c=>obtain ⟨t,rfl⟩:=rw'; unfold eqF at h; cases h; exact ⟨.none_int _ _, .none_int _ _, .none_int _ _⟩
  | str c=>obtain ⟨t,rfl⟩:=rw'; unfold eqF at h; cases h; exact ⟨.none_str _ _, .none_str _ _, .none_str _ _⟩
  | tup h1 r1=>obtain rfl:w=Value.ref _:=rw'; unfold eqF at h; cases h; obtain ⟨i,_,p,_⟩:=Jw I h1 r1; exact ⟨.none_tuple p hu', .none_tuple p hu', .none_tuple p hu'⟩
  | lst h1 r1=>obtain rfl:w=Value.ref _:=rw'; unfold eqF at h; cases h; obtain ⟨i,_,p,_⟩:=ZC I (.inl h1) r1; exact ⟨.none_list p hu', .none_list p hu', .none_list p hu'⟩
  | fz h1 r1=>obtain rfl:w=Value.ref _:=rw'; unfold eqF at h; cases h; obtain ⟨i,_,p,_⟩:=ZC I (.inr ⟨_,h1⟩) r1; exact ⟨.none_list p hu', .none_list p hu', .none_list p hu'⟩
 | bl d=>
  obtain rfl:u=Value.bool d:=ru
  cases rq with
  | non=>obtain rfl:w=Value.none:=rw'; unfold eqF at h; cases h; exact ⟨.bool_none _, .bool_none _, .bool_none _⟩
  | bl c=>obtain rfl:w=Value.bool c:=rw'; unfold eqF at h; cases h; exact ⟨.bool_bool _ _, .bool_bool _ _, .bool_bool _ _⟩
  | int c=>obtain ⟨t,rfl⟩:=rw'; unfold eqF at h; cases h; exact ⟨.bool_int _ _ _, .bool_int _ _ _, .bool_int _ _ _⟩
  | str c=>obtain ⟨t,rfl⟩:=rw'; unfold eqF at h; cases h; exact ⟨.bool_str _ _ _, .bool_str _ _ _, .bool_str _ _ _⟩
  | tup h1 r1=>obtain rfl:w=Value.ref _:=rw'; unfold eqF at h; cases h; obtain ⟨i,_,p,_⟩:=Jw I h1 r1; exact ⟨.bool_tuple _ p hu', .bool_tuple _ p hu', .bool_tuple _ p hu'⟩
  | lst h1 r1=>obtain rfl:w=Value.ref _:=rw'; unfold eqF at h; cases h; obtain ⟨i,_,p,_⟩:=ZC I (.inl h1) r1; exact ⟨.bool_list _ p hu', .bool_list _ p hu', .bool_list _ p hu'⟩
  | fz h1 r1=>obtain rfl:w=Value.ref _:=rw'; unfold eqF at h; cases h; obtain ⟨i,_,p,_⟩:=ZC I (.inr ⟨_,h1⟩) r1; exact ⟨.bool_list _ p hu', .bool_list _ p hu', .bool_list _ p hu'⟩
 | int d=>
  obtain ⟨t0,rfl⟩:=ru
  cases rq with
  | non=>obtain rfl:w=Value.none:=rw'; unfold eqF at h; cases h; exact ⟨.int_none _ _, .int_none _ _, .int_none _ _⟩
  | bl c=>obtain rfl:w=Value.bool c:=rw'; unfold eqF at h; cases h; exact ⟨.int_bool _ _ _, .int_bool _ _ _, .int_bool _ _ _⟩
  | int c=>obtain ⟨t,rfl⟩:=rw'; unfold eqF at h; cases h; exact ⟨.int_int _ _ _ _, .int_int _ _ _ _, .int_int _ _ _ _⟩
  | str c=>obtain ⟨t,rfl⟩:=rw'; unfold eqF at h; cases h; exact ⟨.int_str _ _ _ _, .int_str _ _ _ _, .int_str _ _ _ _⟩
  | tup h1 r1=>obtain rfl:w=Value.ref _:=rw'; unfold eqF at h; cases h; obtain ⟨i,_,p,_⟩:=Jw I h1 r1; exact ⟨.int_tuple _ _ p hu', .int_tuple _ _ p hu', .int_tuple _ _ p hu'⟩
  | lst h1 r1=>obtain rfl:w=Value.ref _:=rw'; unfold eqF at h; cases h; obtain ⟨i,_,p,_⟩:=ZC I (.inl h1) r1; exact ⟨.int_list _ _ p hu', .int_list _ _ p hu', .int_list _ _ p hu'⟩
  | fz h1 r1=>obtain rfl:w=Value.ref _:=rw'; unfold eqF at h; cases h; obtain ⟨i,_,p,_⟩:=ZC I (.inr ⟨_,h1⟩) r1; exact ⟨.int_list _ _ p hu', .int_list _ _ p hu', .int_list _ _ p hu'⟩
 | str d=>
  obtain ⟨t0,rfl⟩:=ru
  cases rq with
  | non=>obtain rfl:w=Value.none:=rw'; unfold eqF at h; cases h; exact ⟨.str_none _ _, .str_none _ _, .str_none _ _⟩
  | bl c=>obtain rfl:w=Value.bool c:=rw'; unfold eqF at h; cases h; exact ⟨.str_bool _ _ _, .str_bool _ _ _, .str_bool _ _ _⟩
  | int c=>obtain ⟨t,rfl⟩:=rw'; unfold eqF at h; cases h; exact ⟨.str_int _ _ _ _, .str_int _ _ _ _, .str_int _ _ _ _⟩
  | str c=>obtain ⟨t,rfl⟩:=rw'; unfold eqF at h; cases h; exact ⟨.str_str _ _ _ _, .str_str _ _ _ _, .str_str _ _ _ _⟩
  | tup h1 r1=>obtain rfl:w=Value.ref _:=rw'; unfold eqF at h; cases h; obtain ⟨i,_,p,_⟩:=Jw I h1 r1; exact ⟨.str_tuple _ _ p hu', .str_tuple _ _ p hu', .str_tuple _ _ p hu'⟩
  | lst h1 r1=>obtain rfl:w=Value.ref _:=rw'; unfold eqF at h; cases h; obtain ⟨i,_,p,_⟩:=ZC I (.inl h1) r1; exact ⟨.str_list _ _ p hu', .str_list _ _ p hu', .str_list _ _ p hu'⟩
  | fz h1 r1=>obtain rfl:w=Value.ref _:=rw'; unfold eqF at h; cases h; obtain ⟨i,_,p,_⟩:=ZC I (.inr ⟨_,h1⟩) r1; exact ⟨.str_list _ _ p hu', .str_list _ _ p hu', .str_list _ _ p hu'⟩
 | tup h0 r0=>
  obtain rfl:u=Value.ref _:=ru
  obtain ⟨i0,_,p0,_⟩:=Jw I h0 r0
  cases rq with
  | non=>obtain rfl:w=Value.none:=rw'; unfold eqF at h; cases h; exact ⟨.tuple_none p0 hu', .tuple_none p0 hu', .tuple_none p0 hu'⟩
  | bl c=>obtain rfl:w=Value.bool c:=rw'; unfold eqF at h; cases h; exact ⟨.tuple_bool _ p0 hu', .tuple_bool _ p0 hu', .tuple_bool _ p0 hu'⟩
  | int c=>obtain ⟨t,rfl⟩:=rw'; unfold eqF at h; cases h; exact ⟨.tuple_int _ _ p0 hu', .tuple_int _ _ p0 hu', .tuple_int _ _ p0 hu'⟩
  | str c=>obtain ⟨t,rfl⟩:=rw'; unfold eqF at h; cases h; exact ⟨.tuple_str _ _ p0 hu', .tuple_str _ _ p0 hu', .tuple_str _ _ p0 hu'⟩
  | tup h1 r1=>unfold eqF at h; cases h
  | lst h1 r1=>obtain rfl:w=Value.ref _:=rw'; unfold eqF at h; cases h; obtain ⟨i,_,p,_⟩:=ZC I (.inl h1) r1; exact ⟨.tuple_list p0 p hu', .tuple_list p0 p hu', .tuple_list p0 p hu'⟩
  | fz h1 r1=>obtain rfl:w=Value.ref _:=rw'; unfold eqF at h; cases h; obtain ⟨i,_,p,_⟩:=ZC I (.inr ⟨_,h1⟩) r1; exact ⟨.tuple_list p0 p hu', .tuple_list p0 p hu', .tuple_list p0 p hu'⟩
 | lst h0 r0=>
  obtain rfl:u=Value.ref _:=ru
  obtain ⟨i0,_,p0,_⟩:=ZC I (.inl h0) r0
  cases rq with
  | non=>obtain rfl:w=Value.none:=rw'; unfold eqF at h; cases h; exact ⟨.list_none p0 hu', .list_none p0 hu', .list_none p0 hu'⟩
  | bl c=>obtain rfl:w=Value.bool c:=rw'; unfold eqF at h; cases h; exact ⟨.list_bool _ p0 hu', .list_bool _ p0 hu', .list_bool _ p0 hu'⟩
  | int c=>obtain ⟨t,rfl⟩:=rw'; unfold eqF at h; cases h; exact ⟨.list_int _ _ p0 hu', .list_int _ _ p0 hu', .list_int _ _ p0 hu'⟩
  | str c=>obtain ⟨t,rfl⟩:=rw'; unfold eqF at h; cases h; exact ⟨.list_str _ _ p0 hu', .list_str _ _ p0 hu', .list_str _ _ p0 hu'⟩
  | tup h1 r1=>obtain rfl:w=Value.ref _:=rw'; unfold eqF at h; cases h; obtain ⟨i,_,p,_⟩:=Jw I h1 r1; exact ⟨.list_tuple p0 p hu', .list_tuple p0 p hu', .list_tuple p0 p hu'⟩
  | lst h1 r1=>unfold eqF at h; cases h
  | fz h1 r1=>unfold eqF at h; cases h
 | fz h0 r0=>
  obtain rfl:u=Value.ref _:=ru
  obtain ⟨i0,_,p0,_⟩:=ZC I (.inr ⟨_,h0⟩) r0
  cases rq with
  | non=>obtain rfl:w=Value.none:=rw'; unfold eqF at h; cases h; exact ⟨.list_none p0 hu', .list_none p0 hu', .list_none p0 hu'⟩
  | bl c=>obtain rfl:w=Value.bool c:=rw'; unfold eqF at h; cases h; exact ⟨.list_bool _ p0 hu', .list_bool _ p0 hu', .list_bool _ p0 hu'⟩
  | int c=>obtain ⟨t,rfl⟩:=rw'; unfold eqF at h; cases h; exact ⟨.list_int _ _ p0 hu', .list_int _ _ p0 hu', .list_int _ _ p0 hu'⟩
  | str c=>obtain ⟨t,rfl⟩:=rw'; unfold eqF at h; cases h; exact ⟨.list_str _ _ p0 hu', .list_str _ _ p0 hu', .list_str _ _ p0 hu'⟩
  | tup h1 r1=>obtain rfl:w=Value.ref _:=rw'; unfold eqF at h; cases h; obtain ⟨i,_,p,_⟩:=Jw I h1 r1; exact ⟨.list_tuple p0 p hu', .list_tuple p0 p hu', .list_tuple p0 p hu'⟩
  | lst h1 r1=>unfold eqF at h; cases h
  | fz h1 r1=>unfold eqF at h; cases h
set_option maxHeartbeats 2000000 in
theorem QV (I:L2.Inv X pins σ H s):∀ (n:Nat) (A:Around),A.units+n < cLine->∀ (x y:T) (b:Bool) (p q:V) (u w:Value),eqF n x y=some b->Rep H p x->Rep H q y->jf p u->jf q w->EqN A s u w b:=by
 intro n
 induction n with
 | zero=>exact fun A hu x y b p q u w h=>QU I A (by omega) x y b p q u w h
 | succ n ih=>
  intro A hu x y b p q u w h rp rq ru rw'
  have low:eqF 0 x y=some b->EqN A s u w b:=fun h=>QU I A (by omega) x y b p q u w h rp rq ru rw'
  have hu' :A.units < cLine:=by omega
  have ih' :=ih A.in1 (by rw [We]; omega)
  cases rp with
  | tup h0 r0=>
   cases rq with
   | tup h1 r1=>
    obtain rfl:u=Value.ref _:=ru
    obtain rfl:w=Value.ref _:=rw'
    unfold eqF at h
    exact Xy I hu' h0 h1 r0 r1 h (Jp n) ih'
   | _=>exact low (by unfold eqF at h ⊢; exact h)
  | lst h0 r0=>
   cases rq with
   | lst h1 r1=>
    obtain rfl:u=Value.ref _:=ru
    obtain rfl:w=Value.ref _:=rw'
    unfold eqF at h
    exact UG I hu' (.inl h0) (.inl h1) r0 r1 h (Jp n) ih'
   | fz h1 r1=>
    obtain rfl:u=Value.ref _:=ru
    obtain rfl:w=Value.ref _:=rw'
    unfold eqF at h
    exact UG I hu' (.inl h0) (.inr ⟨_,h1⟩) r0 r1 h (Jp n) ih'
   | _=>exact low (by unfold eqF at h ⊢; exact h)
  | fz h0 r0=>
   cases rq with
   | lst h1 r1=>
    obtain rfl:u=Value.ref _:=ru
    obtain rfl:w=Value.ref _:=rw'
    unfold eqF at h
    exact UG I hu' (.inr ⟨_,h0⟩) (.inl h1) r0 r1 h (Jp n) ih'
   | fz h1 r1=>
    obtain rfl:u=Value.ref _:=ru
    obtain rfl:w=Value.ref _:=rw'
    unfold eqF at h
    exact UG I hu' (.inr ⟨_,h0⟩) (.inr ⟨_,h1⟩) r0 r1 h (Jp n) ih'
   | _=>exact low (by unfold eqF at h ⊢; exact h)
  | _=>exact low (by cases rq <;> (unfold eqF at h ⊢; exact h))
end
end PV
namespace PV
open PySem PySem.Spec PyProof.Rows L2
section
variable {X:Cx} {Y:Fx} {a b c d:Expr} {fa fb fc fd:En->R T} {pos:Pos}
noncomputable def rG (Y:Fx) (g:T->T->R T):R2:=fun x y H Q=>∃ B t t',zN B H/\Rep B x t/\Rep B y t' /\Po Y rC B H (g t t') Q
noncomputable def zf (g:T->T->R T) (fa fb:En->R T):En->R T:=fun ρ=>(fa ρ).bind fun x=>(fb ρ).bind fun y=>g x y
theorem QW {op:Operator} {g:T->T->R T} (ho:OpR X (binaryOp op) (rG Y g)) (ha:Snd X Y a fa) (hb:Snd X Y b fb):Snd X Y (.BinOp a op b pos) (zf g fa fb):= .mk fun ρ=>
 PE.imp (Gq ho (ha ρ) (hb ρ)) fun σ H Q ⟨B,I,q⟩=>step I q fun t v H1 _ s1 r1 I1 q1=>step I1 q1 fun t' v' H2 _ s2 r2 I2 q2=>
  ⟨_,t,t',I2.sB,r1.mono (Zo.ge I1.sB s2),r2,q2⟩
theorem po0 {g:R T} {B H:Hp} {Q:VK} {t:T} {v:V} (sB:zN B H) (q:Po Y rC B H g Q) (e:g= .ok t) (r:Rep B v t):Q v H:=by
 subst e
 exact q v H (zN.refl H) (by show Rep (Zo B H H) v t; rw [Zo.self B H sB]; exact r)
theorem G2 {g:R T} {B H:Hp} {Q:VK} {ts:List T} {xs:List V} {p:Addr} (sB:zN B H) (q:Po Y rC B H g Q) (e:g= .ok (.tup ts)) (r:Z2 B xs ts) (h:H p=none):Q (.ref p) (upd H p (.tup xs)):=by
 subst e
 exact q _ _ (zN.new h _) (.tup (Wy h _) (r.mono (Zo.ge sB (zN.new h _))))
theorem GE {g:R T} {B H:Hp} {Q:VK} {ts:List T} {xs:List V} {p:Addr} (sB:zN B H) (q:Po Y rC B H g Q) (e:g= .ok (.lst ts)) (r:Z2 B xs ts) (h:H p=none):Q (.ref p) (upd H p (.lst xs)):=by
 subst e
 exact q _ _ (zN.new h _) (.lst (Wy h _) (r.mono (Zo.ge sB (zN.new h _))))
noncomputable def zA:T->T->R T
 | .int i, .int j=> .ok (.int (i+j))
 | .bl x, .int j=> .ok (.int (b2 x+j))
 | .int i, .bl y=> .ok (.int (i+b2 y))
 | .str x, .str y=>if x.length+y.length<=bnd then .ok (.str (x++y)) else .bad
 | .tup xs, .tup ys=>if xs.length+ys.length<=bnd then .ok (.tup (xs++ys)) else .bad
 | .lst xs, .lst ys=>if xs.length+ys.length<=bnd then .ok (.lst (xs++ys)) else .bad
 | _,_=> .bad
theorem VE {prog:Program} {w:World} {A:Around} {E:Value->Shared->Prop} {s:Shared} {t b:Addr} {vs ws:List Value} {Q:Value->Shared->Prop} (ht:IsTup s.heap t vs.toArray) (hb:IsTup s.heap b ws.toArray) (hv:vs=[])
  (h1:Q (.ref b) s):wpAny (model prog w) A (binaryOp .Add (.ref t) (.ref b)) Q E s:=by
 obtain ⟨⟨cls,dd,data,sl⟩,ho,hc,n,hd⟩:=id ht
 obtain ⟨⟨cls2,dd2,data2,sl2⟩,ho2,hc2,n2,hd2⟩:=id hb
 simp only at hc hd hc2 hd2
 subst hc hd hc2 hd2
 exact concat_meets ⟨_,ho,rfl⟩ ⟨_,ho2,rfl⟩ noFill_tuple_add seq_tuple_add PySem.F.slot_tuple_add PySem.F.entry_tuple_add (PySem.F.args_tuple_add_2 _ _)
   (tuple_addW0 t b vs.toArray ws.toArray n n2 dd dd2 sl sl2 (by simp [hv])) ⟨ho,ho2,h1⟩
theorem Xz:OpR X (binaryOp .Add) (rG Y zA):=by
 intro pins s σ H x y v u Q I rx ry h
 obtain ⟨B,t,t',sB,r,r',q⟩:=h
 cases r with
 | int i=>
  cases r' with
  | int j=>exact Kk pins s σ H _ _ v u Q I rx ry ⟨i,j,rfl,rfl,po0 sB q rfl (.int _)⟩
  | bl y=>exact QC pins s σ H _ _ v u Q I rx ry ⟨i,y,rfl,rfl,po0 sB q rfl (.int _)⟩
  | _=>exact q.elim
 | bl x=>
  cases r' with
  | int j=>
   obtain rfl:v=Value.bool x:=rx
   obtain ⟨tk,rfl⟩:=ry
   exact IntBool.add_bool_int (⟨.int _,H,I.tok _,⟨_,rfl⟩,po0 sB q rfl (.int _)⟩)
  | _=>exact q.elim
 | str x=>
  cases r' with
  | str y=>
   by_cases hb:x.length+y.length<=bnd
   ·exact qT pins s σ H _ _ v u Q I rx ry ⟨x,y,rfl,rfl,JM hb,po0 sB q (if_pos hb) (.str _)⟩
   ·rw [show zA (.str x) (.str y)= .bad from if_neg hb] at q; exact q.elim
  | _=>exact q.elim
 | @tup a xs ts h1 r1=>
  cases r' with
  | @tup a' ys us h2 r2=>
   by_cases hb:ts.length+us.length<=bnd
   ·have eg:zA (.tup ts) (.tup us)= .ok (.tup (ts++us)):=if_pos hb
    have hz:xs.length+ys.length<=sizeLine:=by rw [r1.length,r2.length]; exact JM hb
    by_cases hx:xs=[]
    ·obtain rfl:v=Value.ref a:=rx
     obtain rfl:u=Value.ref a' :=ry
     obtain ⟨its,rv,p,_⟩:=I.tuple (SqT.of (sB _ _ h1))
     obtain ⟨its',rv',p',_⟩:=I.tuple (SqT.of (sB _ _ h2))
     have et:ts=[]:=r1.nil_iff.mp hx
     refine VE p p' (rv.nil_iff.mpr hx) ⟨.ref a',H,I,rfl,po0 sB q eg ?_⟩
     rw [et]; exact .tup h2 r2
    ·refine Xo pins s σ H _ _ v u Q I rx ry ⟨a,a',xs,ys,rfl,rfl,SqT.of (sB _ _ h1),SqT.of (sB _ _ h2),hx,hz,fun hy=> ?_,fun hy p hp=> ?_⟩
     ·refine po0 sB q eg ?_
      rw [r2.nil_iff.mp hy,List.append_nil]
      exact .tup h1 r1
     ·exact G2 sB q eg (r1.append r2) hp
   ·rw [show zA (.tup ts) (.tup us)= .bad from if_neg hb] at q; exact q.elim
  | _=>exact q.elim
 | @lst a xs ts h1 r1=>
  cases r' with
  | @lst a' ys us h2 r2=>
   by_cases hb:ts.length+us.length<=bnd
   ·have eg:zA (.lst ts) (.lst us)= .ok (.lst (ts++us)):=if_pos hb
    have hz:xs.length+ys.length<=sizeLine:=by rw [r1.length,r2.length]; exact JM hb
    exact KA pins s σ H _ _ v u Q I rx ry ⟨a,a',xs,ys,rfl,rfl,sB _ _ h1,sB _ _ h2,hz,fun p hp=>GE sB q eg (r1.append r2) hp⟩
   ·rw [show zA (.lst ts) (.lst us)= .bad from if_neg hb] at q; exact q.elim
  | _=>exact q.elim
 | _=>cases r' <;> exact q.elim
theorem zS (ha:Snd X Y a fa) (hb:Snd X Y b fb):Snd X Y (.BinOp a .Add b pos) (zf zA fa fb):=QW Xz ha hb
noncomputable def yi:T->T->R T
 | .int i, .int j=> .ok (.int (i - j))
 | _,_=> .bad
noncomputable def u9:T->T->R T
 | .int i, .int j=>if 0 < j then .ok (.int (i % j)) else .bad
 | _,_=> .bad
noncomputable def qY:T->T->R T
 | .int i, .int j=>if 0 < j/\j < 1073741824 then .ok (.int (i / j)) else .bad
 | _,_=> .bad
noncomputable instance (i j:Int):Decidable (yh i j):=by unfold yh; infer_instance
noncomputable def Zw:T->T->R T
 | .int i, .int j=>if yh i j then .ok (.int (i*j)) else .bad
 | .lst xs, .int k=>if 0<=k/\k < 1000000/\xs.length*k.toNat<=bnd then .ok (.lst (List.replicate k.toNat xs).flatten) else .bad
 | .tup xs, .int k=>if 2<=k/\k < 1000000/\xs ≠ []/\xs.length*k.toNat<=bnd then .ok (.tup (List.replicate k.toNat xs).flatten) else .bad
 | _,_=> .bad
theorem XA:OpR X (binaryOp .Sub) (rG Y yi):=by
 intro pins s σ H x y v u Q I rx ry h
 obtain ⟨B,t,t',sB,r,r',q⟩:=h
 cases r with
 | int i=>
  cases r' with
  | int j=>exact Kl pins s σ H _ _ v u Q I rx ry ⟨i,j,rfl,rfl,po0 sB q rfl (.int _)⟩
  | _=>exact q.elim
 | _=>cases r' <;> exact q.elim
theorem XB:OpR X (binaryOp .Mod) (rG Y u9):=by
 intro pins s σ H x y v u Q I rx ry h
 obtain ⟨B,t,t',sB,r,r',q⟩:=h
 cases r with
 | int i=>
  cases r' with
  | int j=>
   by_cases hj:0 < j
   ·exact Kn pins s σ H _ _ v u Q I rx ry ⟨i,j,rfl,rfl,hj,po0 sB q (if_pos hj) (.int _)⟩
   ·rw [show u9 (.int i) (.int j)= .bad from if_neg hj] at q; exact q.elim
  | _=>exact q.elim
 | _=>cases r' <;> exact q.elim
theorem VF:OpR X (binaryOp .FloorDiv) (rG Y qY):=by
 intro pins s σ H x y v u Q I rx ry h
 obtain ⟨B,t,t',sB,r,r',q⟩:=h
 cases r with
 | int i=>
  cases r' with
  | int j=>
   by_cases hj:0 < j/\j < 1073741824
   ·exact Xi pins s σ H _ _ v u Q I rx ry ⟨i,j,rfl,rfl,hj,po0 sB q (if_pos hj) (.int _)⟩
   ·rw [show qY (.int i) (.int j)= .bad from if_neg hj] at q; exact q.elim
  | _=>exact q.elim
 | _=>cases r' <;> exact q.elim
theorem qZ (l:Addr) (items:Array Value) (n:Nat) (dd:Option Addr) (sl:Array (Option Value)) (x:Int) (u:Tok) (h1:2<=x) (h2:x < 1000000) (hne:items.isEmpty=false) (hsz:items.size*x.toNat<=sizeLine):
  Meets (Builtin.«tuple.__mul__» ⟨[.ref l, .int x u],[]⟩) (fun _ R s=>s.heap.get? l=some { cls:= .type "tuple",dict:=dd,data:= .seq items n,slots:=sl }/\
   R (.ok (.ret (Value.ref s.heap.objs.size))) { s with heap:=s.heap.push { cls:=Value.type "tuple",data:=Data.seq (List.foldl (fun x1 x2=>x1++x2) #[] (List.replicate x.toNat items)) },toks:=s.toks }):=
 .of_wp fun prog w A R s h=>by
  obtain ⟨hp,g,d,tk,os⟩:=s; obtain ⟨hl,h⟩:=h
  have f1:=AutoSeq1.idx_int
  have e0:(items.size:Int)*x=((items.size*x.toNat:Nat):Int):=by
   have:x=((x.toNat:Nat):Int):=by omega
   rw [Int.natCast_mul,← this]
  have sl1:(sizeLine:Nat)=16777216:=sizeLine_eq
  have c1:¬ (decide (x < -(2 ^ 63)) || decide (x ≥ 2 ^ 63))=true:=by simp; omega
  have c2:¬ (items.isEmpty || x == 1)=true:=by simp [hne]; omega
  have c3:¬ (decide (x<=0) || items.isEmpty)=true:=by simp [hne]; omega
  have c4:¬ ((items.size:Int)*x > (2 ^ 63 - 1) / 8):=by rw [e0]; omega
  have c5:¬ Builtin.Tuple.tupleTooMany ((items.size:Int)*x)=true:=by
   unfold Builtin.Tuple.tupleTooMany
   rw [e0]
   intro z
   have:=of_decide_eq_true z
   omega
  unfold Builtin.«tuple.__mul__»
  wp_walk using wpAny_loadPart' hl
  rw [if_neg c1]
  wp_walk using wpAny_loadPart' hl
  rw [if_neg c2]
  try dsimp only
  rw [if_neg c3]
  try dsimp only
  rw [if_neg c4]
  try dsimp only
  rw [if_neg c5]
  try dsimp only
  have hsz' :sizeOk (.seq (List.foldl (fun x1 x2=>x1++x2) #[] (List.replicate x.toNat items))):=by
   show (List.foldl (fun x1 x2=>x1++x2) #[] (List.replicate x.toNat items)).size<=sizeLine
   have:=Wc items.toList x.toNat []
   rw [List.nil_append] at this
   have q:List.foldl (fun x1 x2=>x1++x2) #[] (List.replicate x.toNat items)=(List.replicate x.toNat items.toList).flatten.toArray:=by
    simpa using this
   rw [q,List.size_toArray,Yv,Array.length_toList,Nat.mul_comm]
   exact hsz
  exact wpAny_bind (m:=Builtin.Tuple.tupleExact _) (wpAny_newObj_type (wpAny_pure ⟨_,rfl,h⟩) hsz')
theorem yz:seqRepeat? (.type "tuple")=pure (some (.builtin "tuple.__mul__")):=by
 unfold seqRepeat?
 rw [PySem.seqSlot_of (T:="tuple") (name:="__mul__") (id:="tuple.__mul__") F.slot_tuple_mul.lookup (by decide+kernel),PySem.seqSlot_of (T:="tuple") (name:="__rmul__") (id:="tuple.__rmul__") F.slot_tuple_rmul.lookup (by decide+kernel)]
 rfl
theorem u5:fillsNumberSlot (.type "tuple") "mul"=pure false:=
 PySem.fillsNumberSlot_seq (id:="tuple.__mul__") (r:=some (.builtin "tuple.__rmul__")) F.slot_tuple_mul.lookup (by decide+kernel) F.slot_tuple_rmul.lookup (by decide+kernel)
theorem U3 (a:Int) (t:Tok) (l:Addr) (items:Array Value) (n:Nat) (dd:Option Addr) (sl:Array (Option Value)):
  Meets (Builtin.«int.__rmul__» ⟨[.int a t, .ref l],[]⟩) (fun _ R s=>s.heap.get? l=some { cls:= .type "tuple",dict:=dd,data:= .seq items n,slots:=sl }/\R (.ok (.ret Value.notImplemented)) s):=
 .of_wp fun prog w A R s h=>by obtain ⟨hp,g,d,tk,os⟩:=s; obtain ⟨hl,h⟩:=h; wp_walk; exact ⟨_,rfl,h⟩
theorem XD {prog:Program} {w:World} {A:Around} {E:Value->Shared->Prop} {s:Shared} {l:Addr} {its:List Value} {k:Int} {t:Tok} {Q:Value->Shared->Prop} (p:IsTup s.heap l its.toArray) (hne:its ≠ []) (h1:2<=k) (h2:k < 1000000)
  (hsz:its.length*k.toNat<=sizeLine) (q:Q (.ref s.heap.objs.size) { s with heap:=s.heap.push { cls:= .type "tuple",data:= .seq (List.replicate k.toNat its).flatten.toArray } }):
  wpAny (model prog w) A (binaryOp .Mult (.ref l) (.int k t)) Q E s:=by
 obtain ⟨⟨cls,dd,data,sl⟩,ho,hc,n,hd⟩:=id p
 simp only at hc hd
 subst hc hd
 refine wpAny_binaryOp_repeat_ref (T:="tuple") (U:="int") (by decide) ⟨_,ho,rfl⟩ (fun s' =>typeIs_int s' k t) u5 F.fills_int_mul F.slot_int_rmul yz F.slot_int_index.lookup
  (call_meets F.slot_int_rmul (typeIs_int s k t) F.entry_int_rmul (F.args_int_rmul_2 _ _) (U3 k t l its.toArray n dd sl)
   ⟨ho,rfl,⟨_,ho,rfl⟩,call_meets F.slot_tuple_mul ⟨_,ho,rfl⟩ F.entry_tuple_mul (F.args_tuple_mul_2 _ _) (qZ l its.toArray n dd sl k t h1 h2 (by simpa using hne) (by simpa using hsz)) ⟨ho, ?_⟩⟩)
 have:=Wc its k.toNat []
 rw [List.nil_append] at this
 rw [this]
 exact q
theorem XE:OpR X (binaryOp .Mult) (rG Y Zw):=by
 intro pins s σ H x y v u Q I rx ry h
 obtain ⟨B,t,t',sB,r,r',q⟩:=h
 cases r with
 | int i=>
  cases r' with
  | int j=>
   by_cases hj:yh i j
   ·exact Km pins s σ H _ _ v u Q I rx ry ⟨i,j,rfl,rfl,hj,po0 sB q (if_pos hj) (.int _)⟩
   ·rw [show Zw (.int i) (.int j)= .bad from if_neg hj] at q; exact q.elim
  | _=>exact q.elim
 | @lst l xs ts h1 r1=>
  cases r' with
  | int k=>
   by_cases hk:0<=k/\k < 1000000/\ts.length*k.toNat<=bnd
   ·have eg:Zw (.lst ts) (.int k)= .ok (.lst (List.replicate k.toNat ts).flatten):=if_pos hk
    exact KC pins s σ H _ _ v u Q I rx ry ⟨l,k,xs,rfl,rfl,sB _ _ h1,by omega,by omega,by rw [r1.length]; exact JM hk.2.2,fun p hp=>GE sB q eg (r1.rep _) hp⟩
   ·rw [show Zw (.lst ts) (.int k)= .bad from if_neg hk] at q; exact q.elim
  | _=>exact q.elim
 | @tup l xs ts h1 r1=>
  cases r' with
  | int k=>
   by_cases hk:2<=k/\k < 1000000/\ts ≠ []/\ts.length*k.toNat<=bnd
   ·have eg:Zw (.tup ts) (.int k)= .ok (.tup (List.replicate k.toNat ts).flatten):=if_pos hk
    obtain rfl:v=Value.ref l:=rx
    obtain ⟨tk,rfl⟩:=ry
    obtain ⟨its,rv,p,_⟩:=I.tuple (SqT.of (sB _ _ h1))
    have ln:ts.length=its.length:=r1.length.symm.trans rv.length
    have hne:its ≠ []:=fun z=>hk.2.2.1 (by rw [z] at ln; exact List.length_eq_zero_iff.mp ln)
    refine XD p hne hk.1 hk.2.1 (by rw [← ln]; exact JM hk.2.2.2) ⟨.ref s.heap.objs.size,upd H s.heap.objs.size (.tup (List.replicate k.toNat xs).flatten),I.laid (t' :=s.toks) (fun b u e=>Heap.get?_push_of_some _ e) (Nat.le_refl _) ?_,rfl, ?_⟩
    ·exact ⟨by rw [Yv,r1.length,Nat.mul_comm]; exact JM hk.2.2.2,(List.replicate k.toNat its).flatten,rv.rep _,⟨_,Heap.get?_push_size _ rfl,rfl,_,rfl⟩⟩
    ·exact G2 sB q eg (r1.rep _) (I.hok.fresh (Nat.le_refl _))
   ·rw [show Zw (.tup ts) (.int k)= .bad from if_neg hk] at q; exact q.elim
  | _=>exact q.elim
 | _=>cases r' <;> exact q.elim
theorem yA (ha:Snd X Y a fa) (hb:Snd X Y b fb):Snd X Y (.BinOp a .Sub b pos) (zf yi fa fb):=QW XA ha hb
theorem Q0 (ha:Snd X Y a fa) (hb:Snd X Y b fb):Snd X Y (.BinOp a .Mod b pos) (zf u9 fa fb):=QW XB ha hb
theorem KG (ha:Snd X Y a fa) (hb:Snd X Y b fb):Snd X Y (.BinOp a .FloorDiv b pos) (zf qY fa fb):=QW VF ha hb
theorem Jx (ha:Snd X Y a fa) (hb:Snd X Y b fb):Snd X Y (.BinOp a .Mult b pos) (zf Zw fa fb):=QW XE ha hb
noncomputable def QX (fa:En->R T):En->R T:=fun ρ=>(fa ρ).bind fun x=>match x with
 | .int i=> .ok (.int (-i))
 | _=> .bad
theorem QY (ha:Snd X Y a fa):Snd X Y (.UnaryOp .USub a pos) (QX fa):= .mk fun ρ=>PE.imp (Gr Ko (ha ρ)) fun σ H Q ⟨B,I,q⟩=>step I q fun t v H1 _ s1 r1 I1 q1=>by
 cases r1 with
 | int i=>exact ⟨i,rfl,po0 I1.sB q1 rfl (.int _)⟩
 | _=>exact q1.elim
noncomputable def Ul (g:T->T->R Bool):R2:=fun x y H Q=>∃ t t' b,Rep H x t/\Rep H y t' /\g t t' = .ok b/\Q (.bl b) H
noncomputable def wg (g:T->T->R Bool) (fa fb:En->R T):En->R T:=fun ρ=>(fa ρ).bind fun x=>(fb ρ).bind fun y=>(g x y).bind fun b=> .ok (.bl b)
noncomputable def Zl (g:T->T->R Bool) (fa fb:En->R T):En->R Bool:=fun ρ=>(fa ρ).bind fun x=>(fb ρ).bind fun y=>g x y
noncomputable def Nx (g:T->T->R Bool):Prop:=∀ t t' c,g t t' ≠ .ex c
theorem JY {op:CmpOp} {g:T->T->R Bool} (nx:Nx g) (ho:OpR X (compareOp op) (Ul g)) (ha:Wd X Y a fa) (hb:Wd X Y b fb) (hm:behindInMarks op b=false):Snd X Y (.Compare a [op] [b] pos) (wg g fa fb):= .mk fun ρ=>
 PE.imp (Xj ho (ha ρ) (hb ρ) hm) fun σ H Q ⟨B,I,q⟩=>step I q fun t v H1 _ s1 r1 I1 q1=>step I1 q1 fun t' v' H2 _ s2 r2 I2 q2=>by
  cases e:g t t' with
  | bad=>rw [e] at q2; exact q2.elim
  | ex c=>exact absurd e (nx _ _ _)
  | ok b=>rw [e] at q2; exact ⟨t,t',b,r1.mono s2,r2,e,Jj I2 q2 (.bl b)⟩
theorem Za {op:CmpOp} {g:T->T->R Bool} (nx:Nx g) (ho:OpR X (compareOp op) (Ul g)) (ha:Wd X Y a fa) (hb:Wd X Y b fb) (hm:behindInMarks op b=false):Yp X Y (.Compare a [op] [b] pos) (Zl g fa fb):= .mk fun ρ=>
 PT.imp (QD ho (ha ρ) (hb ρ) hm) fun σ H Q ⟨B,I,q⟩=>step I q fun t v H1 _ s1 r1 I1 q1=>step I1 q1 fun t' v' H2 _ s2 r2 I2 q2=>by
  cases e:g t t' with
  | bad=>rw [e] at q2; exact q2.elim
  | ex c=>exact absurd e (nx _ _ _)
  | ok b=>rw [e] at q2; exact ⟨t,t',b,r1.mono s2,r2,e,b,rfl,Jj I2 q2 rfl⟩
noncomputable def eqC (t t' :T):R Bool:=match eqF 30 t t' with
 | some b=> .ok b
 | none=> .bad
noncomputable def neC (t t' :T):R Bool:=match eqF 30 t t' with
 | some b=> .ok (!b)
 | none=> .bad
theorem Zr:Nx eqC:=fun t t' c h=>by unfold eqC at h; split at h <;> cases h
theorem UH:Nx neC:=fun t t' c h=>by unfold neC at h; split at h <;> cases h
theorem zK (hu:X.A.units+64 < cLine):OpR X (compareOp .Eq) (Ul eqC):=by
 intro pins s σ H x y v u Q I rx ry h
 obtain ⟨t,t',b,r,r',e,q⟩:=h
 unfold eqC at e
 split at e
 ·rename_i k ek
  have e' :k=b:=by injection e
  subst e'
  exact (QV I 30 X.A (by omega) t t' k x y v u ek r r' rx ry).2.1 _ _ _ _ ⟨.bl k,H,I,rfl,q⟩
 ·cases e
theorem Wf (hu:X.A.units+64 < cLine):OpR X (compareOp .NotEq) (Ul neC):=by
 intro pins s σ H x y v u Q I rx ry h
 obtain ⟨t,t',b,r,r',e,q⟩:=h
 unfold neC at e
 split at e
 ·rename_i k ek
  cases e
  exact (QV I 30 X.A (by omega) t t' k x y v u ek r r' rx ry).2.2 _ _ _ _ ⟨.bl (!k),H,I,rfl,q⟩
 ·cases e
noncomputable def ltC:T->T->R Bool
 | .int i, .int j=> .ok (decide (i < j))
 | _,_=> .bad
noncomputable def leC:T->T->R Bool
 | .int i, .int j=> .ok (decide (i<=j))
 | .str x, .str y=> .ok (!decide (y.cps.toList < x.cps.toList))
 | _,_=> .bad
noncomputable def gtC:T->T->R Bool
 | .int i, .int j=> .ok (decide (j < i))
 | _,_=> .bad
theorem Q1:Nx ltC:=fun t t' c h=>by unfold ltC at h; split at h <;> cases h
theorem ji:Nx leC:=fun t t' c h=>by unfold leC at h; split at h <;> cases h
theorem KH:Nx gtC:=fun t t' c h=>by unfold gtC at h; split at h <;> cases h
theorem Um:OpR X (compareOp .Lt) (Ul ltC):=by
 intro pins s σ H x y v u Q I rx ry h
 obtain ⟨t,t',b,r,r',e,q⟩:=h
 unfold ltC at e
 split at e
 ·rename_i i j; cases e; cases r; cases r'; exact Gu pins s σ H _ _ v u Q I rx ry ⟨i,j,rfl,rfl,q⟩
 ·cases e
theorem xM:OpR X (compareOp .Gt) (Ul gtC):=by
 intro pins s σ H x y v u Q I rx ry h
 obtain ⟨t,t',b,r,r',e,q⟩:=h
 unfold gtC at e
 split at e
 ·rename_i i j; cases e; cases r; cases r'; exact Gw pins s σ H _ _ v u Q I rx ry ⟨i,j,rfl,rfl,q⟩
 ·cases e
theorem Zb:OpR X (compareOp .LtE) (Ul leC):=by
 intro pins s σ H x y v u Q I rx ry h
 obtain ⟨t,t',b,r,r',e,q⟩:=h
 unfold leC at e
 split at e
 ·rename_i i j; cases e; cases r; cases r'; exact Gv pins s σ H _ _ v u Q I rx ry ⟨i,j,rfl,rfl,q⟩
 ·rename_i i j; cases e; cases r; cases r'
  obtain ⟨t1,rfl⟩:=rx
  obtain ⟨t2,rfl⟩:=ry
  exact PySem.P.le_str ⟨.bl _,H,I,rfl,q⟩
 ·cases e
end
end PV
namespace PV
open PySem PySem.Spec PyProof.Rows L2
section
variable {X:Cx} {Y:Fx} {a b c d:Expr} {fa fb fc fd:En->R T} {pos:Pos}
noncomputable def qr (f:T->Option Bool):List T->Option Bool
 | []=>some false
 | t :: r=>match f t with
  | none=>none
  | some b=>match qr f r with
   | none=>none
   | some c=>some (b || c)
noncomputable def inC (t t' :T):R Bool:=match t' with
 | .tup ys=>match qr (fun y=>eqF 30 y t) ys with | some b=> .ok b | none=> .bad
 | .lst ys=>match qr (fun y=>eqF 30 y t) ys with | some b=> .ok b | none=> .bad
 | _=> .bad
noncomputable def VG (t t' :T):R Bool:=(inC t t').bind fun b=> .ok (!b)
theorem QZ:Nx inC:=fun t t' c h=>by
 unfold inC at h
 split at h
 ·split at h <;> cases h
 ·split at h <;> cases h
 ·cases h
theorem KI:Nx VG:=fun t t' c h=>by
 unfold VG at h
 cases e:inC t t' with
 | bad=>rw [e] at h; cases h
 | ex k=>exact absurd e (QZ _ _ _)
 | ok k=>rw [e] at h; cases h
open Classical in
theorem YA {H:Hp} (f:T->Option Bool):∃ e:Value->Bool,∀ (v:V) (t:T) (u:Value) (b:Bool),jf v u->Rep H v t->f t=some b->e u=b:=by
 refine ⟨fun u=>decide (∃ v t,jf v u/\Rep H v t/\f t=some true),fun v t u b rv r e=> ?_⟩
 cases b with
 | true=>exact decide_eq_true ⟨v,t,rv,r,e⟩
 | false=>
  refine decide_eq_false ?_
  rintro ⟨v',t',rv',r',e'⟩
  have:=rv.inj rv'; subst this
  have:=r.fn r'; subst this
  rw [e] at e'; cases e'
theorem v6 {H:Hp} {f:T->Option Bool} {e:Value->Bool} (he:∀ (v:V) (t:T) (u:Value) (b:Bool),jf v u->Rep H v t->f t=some b->e u=b):∀ {xs:List V} {ts:List T} {its:List Value} {b:Bool},
  ZY xs its->Z2 H xs ts->qr f ts=some b->its.any e=b/\∀ u∈its,∃ v t k,jf v u/\Rep H v t/\f t=some k
 | _,_,_,b, .nil, .nil,h=>by
  have h' :some false=some b:=h
  cases h'
  exact ⟨rfl,fun u hu=>by simp at hu⟩
 | _,_,_,b, .cons rv vs, .cons r rs,h=>by
  rename_i v u vals us t ts
  unfold qr at h
  cases q:f t with
  | none=>rw [q] at h; cases h
  | some k=>
   rw [q] at h
   cases q' :qr f ts with
   | none=>rw [q'] at h; cases h
   | some k' =>
    rw [q'] at h
    cases h
    obtain ⟨h1,h2⟩:=v6 he vs rs q'
    refine ⟨by rw [List.any_cons,h1,he v t u k rv r q],fun w hw=> ?_⟩
    rcases List.mem_cons.mp hw with rfl | hw
    ·exact ⟨v,t,k,rv,r,q⟩
    ·exact h2 w hw
theorem v7 (hu:X.A.units+64 < cLine) (neg:Bool):OpR X (compareOp (if neg then .NotIn else .In)) (Ul (if neg then VG else inC)):=by
 intro pins s σ H x y v u Q I rx ry h
 obtain ⟨t,t',b,r,r',e,q⟩:=h
 have hs:∃ k,inC t t' = .ok k/\b=(if neg then !k else k):=by
  cases neg with
  | false=>exact ⟨b,e,rfl⟩
  | true=>
   have e' :VG t t' = .ok b:=e
   unfold VG at e'
   cases z:inC t t' with
   | bad=>rw [z] at e'; cases e'
   | ex k=>exact absurd z (QZ _ _ _)
   | ok k=>rw [z] at e'; cases e'; exact ⟨k,rfl,rfl⟩
 obtain ⟨k,ek,rfl⟩:=hs
 unfold inC at ek
 obtain ⟨f,hf⟩:=YA (H:=H) fun y=>eqF 30 y t
 have eqa:∀ w,(∃ v t' k,jf v w/\Rep H v t' /\eqF 30 t' t=some k)->SeqAt.EqAt X.A.in1 s w v (f w):=fun w ⟨v',t',k,rv,rr,ee⟩=>by
  rw [hf v' t' w k rv rr ee]
  exact (QV I 30 X.A.in1 (by rw [We]; omega) t' t k v' x w v ee rr r rv rx).1
 split at ek
 ·rename_i ys
  split at ek
  ·rename_i k' hk
   cases ek
   cases r' with
   | @tup l xs _ h1 r1=>
    obtain rfl:u=Value.ref l:=ry
    obtain ⟨its,rv,p,_⟩:=Jw I h1 r1
    obtain ⟨h2,h3⟩:=v6 hf rv r1 hk
    have h4:its.toArray.any f=k:=by simpa using h2
    cases neg with
    | false=>exact SeqAt.in_tupleAt f p (fun w hw=>eqa w (h3 w (by simpa using hw))) (by rw [h4]; exact ⟨.bl k,H,I,rfl,q⟩)
    | true=>exact SeqAt.notIn_tupleAt f p (fun w hw=>eqa w (h3 w (by simpa using hw))) (by rw [h4]; exact ⟨.bl (!k),H,I,rfl,q⟩)
  ·cases ek
 ·rename_i ys
  split at ek
  ·rename_i k' hk
   cases ek
   cases r' with
   | @lst l xs _ h1 r1=>
    obtain rfl:u=Value.ref l:=ry
    obtain ⟨its,rv,p,_⟩:=ZC I (.inl h1) r1
    obtain ⟨h2,h3⟩:=v6 hf rv r1 hk
    have h4:its.toArray.any f=k:=by simpa using h2
    cases neg with
    | false=>exact SeqAt.in_listAt f p (fun w hw=>eqa w (h3 w (by simpa using hw))) (by rw [h4]; exact ⟨.bl k,H,I,rfl,q⟩)
    | true=>exact SeqAt.notIn_listAt f p (fun w hw=>eqa w (h3 w (by simpa using hw))) (by rw [h4]; exact ⟨.bl (!k),H,I,rfl,q⟩)
  ·cases ek
 ·cases ek
theorem v8 (hu:X.A.units+64 < cLine):OpR X (compareOp .In) (Ul inC):=v7 hu false
theorem XF (hu:X.A.units+64 < cLine):OpR X (compareOp .NotIn) (Ul VG):=v7 hu true
noncomputable def v9 (t t' :T):R Bool:=match t' with
 | .non=>match t with | .non=> .ok true | _=> .ok false
 | .bl k=>match t with | .bl j=> .ok (j == k) | _=> .ok false
 | _=> .bad
noncomputable def U4 (t t' :T):R Bool:=(v9 t t').bind fun b=> .ok (!b)
theorem XG:Nx v9:=fun t t' c h=>by
 unfold v9 at h
 split at h
 ·split at h <;> cases h
 ·split at h <;> cases h
 ·cases h
theorem KJ:Nx U4:=fun t t' c h=>by
 unfold U4 at h
 cases e:v9 t t' with
 | bad=>rw [e] at h; cases h
 | ex k=>exact absurd e (XG _ _ _)
 | ok k=>rw [e] at h; cases h
theorem va (neg:Bool):OpR X (compareOp (if neg then .IsNot else .Is)) (Ul (if neg then U4 else v9)):=by
 intro pins s σ H x y v u Q I rx ry h
 obtain ⟨t,t',b,r,r',e,q⟩:=h
 have hs:∃ k,v9 t t' = .ok k/\b=(if neg then !k else k):=by
  cases neg with
  | false=>exact ⟨b,e,rfl⟩
  | true=>
   have e' :U4 t t' = .ok b:=e
   unfold U4 at e'
   cases z:v9 t t' with
   | bad=>rw [z] at e'; cases e'
   | ex k=>exact absurd z (XG _ _ _)
   | ok k=>rw [z] at e'; cases e'; exact ⟨k,rfl,rfl⟩
 obtain ⟨k,ek,rfl⟩:=hs
 have go:plainIs v u=true/\(v == u)=k:=by
  cases r' with
  | non=>
   obtain rfl:u=Value.none:=ry
   cases r with
   | non=>obtain rfl:v=Value.none:=rx; cases ek; exact ⟨rfl,rfl⟩
   | bl j=>obtain rfl:v=Value.bool j:=rx; cases ek; exact ⟨rfl,rfl⟩
   | int j=>obtain ⟨t,rfl⟩:=rx; cases ek; exact ⟨rfl,rfl⟩
   | str j=>obtain ⟨t,rfl⟩:=rx; cases ek; exact ⟨rfl,rfl⟩
   | tup _ _=>obtain rfl:v=Value.ref _:=rx; cases ek; exact ⟨rfl,rfl⟩
   | lst _ _=>obtain rfl:v=Value.ref _:=rx; cases ek; exact ⟨rfl,rfl⟩
   | fz _ _=>obtain rfl:v=Value.ref _:=rx; cases ek; exact ⟨rfl,rfl⟩
  | bl k' =>
   obtain rfl:u=Value.bool k' :=ry
   cases r with
   | non=>obtain rfl:v=Value.none:=rx; cases ek; exact ⟨rfl,rfl⟩
   | bl j=>obtain rfl:v=Value.bool j:=rx; cases ek; exact ⟨rfl,by cases j <;> cases k' <;> rfl⟩
   | int j=>obtain ⟨t,rfl⟩:=rx; cases ek; exact ⟨rfl,rfl⟩
   | str j=>obtain ⟨t,rfl⟩:=rx; cases ek; exact ⟨rfl,rfl⟩
   | tup _ _=>obtain rfl:v=Value.ref _:=rx; cases ek; exact ⟨rfl,rfl⟩
   | lst _ _=>obtain rfl:v=Value.ref _:=rx; cases ek; exact ⟨rfl,rfl⟩
   | fz _ _=>obtain rfl:v=Value.ref _:=rx; cases ek; exact ⟨rfl,rfl⟩
  | _=>cases ek
 cases neg with
 | false=>exact wpAny_is_plain go.1 (by rw [go.2]; exact ⟨.bl k,H,I,rfl,q⟩)
 | true=>exact wpAny_isNot_plain go.1 (by rw [go.2]; exact ⟨.bl (!k),H,I,rfl,q⟩)
theorem KK:OpR X (compareOp .Is) (Ul v9):=va false
theorem XH:OpR X (compareOp .IsNot) (Ul U4):=va true
noncomputable def chE (g g' :T->T->R Bool) (fa fb fc:En->R T):En->R T:=fun ρ=>(fa ρ).bind fun x=>(fb ρ).bind fun y=>(g x y).bind fun k=>if k=true then (fc ρ).bind fun z=>(g' y z).bind fun k' => .ok (.bl k') else .ok (.bl false)
noncomputable def chT (g g' :T->T->R Bool) (fa fb fc:En->R T):En->R Bool:=fun ρ=>(fa ρ).bind fun x=>(fb ρ).bind fun y=>(g x y).bind fun k=>if k=true then (fc ρ).bind fun z=>g' y z else .ok false
theorem wn {op op' :CmpOp} {g g' :T->T->R Bool} (nx:Nx g) (nx' :Nx g') (ho:OpR X (compareOp op) (Ul g)) (ho' :OpR X (compareOp op') (Ul g')) (ha:Wd X Y a fa) (hb:Wd X Y b fb) (hc:Wd X Y c fc)
  (hm:lastMarks [op,op'] [b,c]=false:=by with_unfolding_all rfl):Snd X Y (.Compare a [op,op'] [b,c] pos) (chE g g' fa fb fc):= .mk fun ρ=>
 PE.imp (Vx ho ho' (ha ρ) (hb ρ) (hc ρ) hm) fun σ H Q ⟨B,I,q⟩=>step I q fun t v H1 _ s1 r1 I1 q1=>step I1 q1 fun t' v' H2 _ s2 r2 I2 q2=>by
  cases e:g t t' with
  | bad=>rw [e] at q2; exact q2.elim
  | ex c=>exact absurd e (nx _ _ _)
  | ok k=>
   rw [e] at q2
   refine ⟨t,t',k,r1.mono s2,r2,e,k,rfl, ?_⟩
   cases k with
   | false=>exact Jj I2 q2 (.bl false)
   | true=>
    refine step I2 q2 fun t3 v3 H3 _ s3 r3 I3 q3=> ?_
    ·cases e:g' t' t3 with
     | bad=>rw [e] at q3; exact q3.elim
     | ex c=>exact absurd e (nx' _ _ _)
     | ok k=>rw [e] at q3; exact ⟨t',t3,k,r2.mono s3,r3,e,Jj I3 q3 (.bl k)⟩
theorem UI {op op' :CmpOp} {g g' :T->T->R Bool} (nx:Nx g) (nx' :Nx g') (ho:OpR X (compareOp op) (Ul g)) (ho' :OpR X (compareOp op') (Ul g')) (ha:Wd X Y a fa) (hb:Wd X Y b fb) (hc:Wd X Y c fc)
  (hm:lastMarks [op,op'] [b,c]=false:=by with_unfolding_all rfl):Yp X Y (.Compare a [op,op'] [b,c] pos) (chT g g' fa fb fc):= .mk fun ρ=>
 PT.imp (Vy ho ho' (ha ρ) (hb ρ) (hc ρ) hm) fun σ H Q ⟨B,I,q⟩=>step I q fun t v H1 _ s1 r1 I1 q1=>step I1 q1 fun t' v' H2 _ s2 r2 I2 q2=>by
  cases e:g t t' with
  | bad=>rw [e] at q2; exact q2.elim
  | ex c=>exact absurd e (nx _ _ _)
  | ok k=>
   rw [e] at q2
   refine ⟨t,t',k,r1.mono s2,r2,e,k,rfl, ?_⟩
   cases k with
   | false=>exact ⟨false,rfl,Jj I2 q2 rfl⟩
   | true=>
    refine step I2 q2 fun t3 v3 H3 _ s3 r3 I3 q3=> ?_
    ·cases e:g' t' t3 with
     | bad=>rw [e] at q3; exact q3.elim
     | ex c=>exact absurd e (nx' _ _ _)
     | ok k=>rw [e] at q3; exact ⟨t',t3,k,r2.mono s3,r3,e,k,rfl,Jj I3 q3 rfl⟩
noncomputable def XI (r r' r'' :R2) (ta tb tc td:TE):TE:=fun σ H Q=>ta σ H fun x H1=>tb σ H1 fun y H2=>r x y H2 fun z H3=>∃ k,z= .bl k/\
 (if k=true then tc σ H3 fun w' H4=>r' y w' H4 fun z' H5=>∃ k',z' = .bl k' /\(if k' =true then td σ H5 fun w2 H6=>r'' w' w2 H6 Q else Q (.bl false) H5) else Q (.bl false) H3)
theorem vb {op op' op'' :CmpOp} {r r' r'' :R2} {ta tb tc td:TE} (ho:OpR X (compareOp op) r) (ho' :OpR X (compareOp op') r') (ho'' :OpR X (compareOp op'') r'') (ha:PE X a ta) (hb:PE X b tb) (hc:PE X c tc) (hd:PE X d td)
  (hm:lastMarks [op,op',op''] [b,c,d]=false:=by with_unfolding_all rfl):PE X (.Compare a [op,op',op''] [b,c,d] pos) (XI r r' r'' ta tb tc td):=by
 intro pins s σ H Q I h
 refine Compare_chain (thn (ha pins s σ H _ I h) fun v s1 ⟨x,H1,I1,r1,q1⟩=>chain_link (thn (hb pins s1 σ H1 _ I1 q1) fun u s2 ⟨y,H2,I2,r2,q2⟩=>
  thn (ho pins s2 σ H2 x y v u _ I2 r1 r2 q2) fun d' s3 ⟨z,H3,I3,r3,k,e,q3⟩=> ?_)) hm
 subst e
 cases r3
 refine wpAny_truthy_bool ?_
 cases k with
 | false=>exact ite_ff ⟨.bl false,H3,I3,rfl,q3⟩
 | true=>
  refine ite_tt (chain_link (thn (hc pins s3 σ H3 _ I3 q3) fun w' s4 ⟨z',H4,I4,r4,q4⟩=>thn (ho' pins s4 σ H4 y z' u w' _ I4 r2 r4 q4) fun d2 s5 ⟨z5,H5,I5,r5,k5,e5,q5⟩=> ?_))
  subst e5
  cases r5
  refine wpAny_truthy_bool ?_
  cases k5 with
  | false=>exact ite_ff ⟨.bl false,H5,I5,rfl,q5⟩
  | true=>exact ite_tt (chain_last (thn (hd pins s5 σ H5 _ I5 q5) fun w6 s6 ⟨z6,H6,I6,r6,q6⟩=>ho'' pins s6 σ H6 z' z6 w' w6 Q I6 r4 r6 q6))
noncomputable def ch3E (g g' g'' :T->T->R Bool) (fa fb fc fd:En->R T):En->R T:=fun ρ=>(fa ρ).bind fun x=>(fb ρ).bind fun y=>(g x y).bind fun k=>if k=true then (fc ρ).bind fun z=>(g' y z).bind fun k' =>
 if k' =true then (fd ρ).bind fun w=>(g'' z w).bind fun k'' => .ok (.bl k'') else .ok (.bl false) else .ok (.bl false)
theorem VH {op op' op'' :CmpOp} {g g' g'' :T->T->R Bool} (nx:Nx g) (nx' :Nx g') (nx'' :Nx g'') (ho:OpR X (compareOp op) (Ul g)) (ho' :OpR X (compareOp op') (Ul g')) (ho'' :OpR X (compareOp op'') (Ul g''))
  (ha:Wd X Y a fa) (hb:Wd X Y b fb) (hc:Wd X Y c fc) (hd:Wd X Y d fd)
  (hm:lastMarks [op,op',op''] [b,c,d]=false:=by with_unfolding_all rfl):Snd X Y (.Compare a [op,op',op''] [b,c,d] pos) (ch3E g g' g'' fa fb fc fd):= .mk fun ρ=>
 PE.imp (vb ho ho' ho'' (ha ρ) (hb ρ) (hc ρ) (hd ρ) hm) fun σ H Q ⟨B,I,q⟩=>step I q fun t v H1 _ s1 r1 I1 q1=>step I1 q1 fun t' v' H2 _ s2 r2 I2 q2=>by
  cases e:g t t' with
  | bad=>rw [e] at q2; exact q2.elim
  | ex c=>exact absurd e (nx _ _ _)
  | ok k=>
   rw [e] at q2
   refine ⟨t,t',k,r1.mono s2,r2,e,k,rfl, ?_⟩
   cases k with
   | false=>exact Jj I2 q2 (.bl false)
   | true=>
    refine step I2 q2 fun t3 v3 H3 _ s3 r3 I3 q3=> ?_
    ·cases e:g' t' t3 with
     | bad=>rw [e] at q3; exact q3.elim
     | ex c=>exact absurd e (nx' _ _ _)
     | ok k=>
      rw [e] at q3
      refine ⟨t',t3,k,r2.mono s3,r3,e,k,rfl, ?_⟩
      cases k with
      | false=>exact Jj I3 q3 (.bl false)
      | true=>
       refine step I3 q3 fun t4 v4 H4 _ s4 r4 I4 q4=> ?_
       ·cases e:g'' t3 t4 with
        | bad=>rw [e] at q4; exact q4.elim
        | ex c=>exact absurd e (nx'' _ _ _)
        | ok k=>rw [e] at q4; exact ⟨t3,t4,k,r3.mono s4,r4,e,Jj I4 q4 (.bl k)⟩
variable {rest:List Expr} {ga gb:En->R Bool}
noncomputable def wo (fa fb:En->R T):En->R T:=fun ρ=>(fa ρ).bind fun x=>match x with
 | .bl true=>fb ρ
 | .bl false=> .ok (.bl false)
 | _=> .bad
noncomputable def orE (fa fb:En->R T):En->R T:=fun ρ=>(fa ρ).bind fun x=>match x with
 | .bl true=> .ok (.bl true)
 | .bl false=>fb ρ
 | _=> .bad
noncomputable def GF (fa:En->R T):En->R T:=fun ρ=>(fa ρ).bind fun x=>match x with
 | .bl k=> .ok (.bl (!k))
 | _=> .bad
theorem JN {op} (h:Snd X Y a fa):Snd X Y (.BoolOp op [a] pos) fa:= .mk fun ρ=>Ke (h ρ)
theorem jG (ha:Snd X Y a fa) (hb:Snd X Y (.BoolOp .And (b :: rest) pos) fb):Snd X Y (.BoolOp .And (a :: b :: rest) pos) (wo fa fb):= .mk fun ρ=>
 PE.imp (Kf (ha ρ) (hb ρ)) fun σ H Q ⟨B,I,q⟩=>step I q fun t v H1 _ s1 r1 I1 q1=>by
  cases r1 with
  | bl k=>
   refine ⟨k,rfl, ?_⟩
   cases k with
   | true=>exact ⟨_,I1,q1⟩
   | false=>exact Jj I1 q1 (.bl false)
  | _=>exact q1.elim
theorem s_or (ha:Snd X Y a fa) (hb:Snd X Y (.BoolOp .Or (b :: rest) pos) fb):Snd X Y (.BoolOp .Or (a :: b :: rest) pos) (orE fa fb):= .mk fun ρ=>
 PE.imp (Gi (ha ρ) (hb ρ)) fun σ H Q ⟨B,I,q⟩=>step I q fun t v H1 _ s1 r1 I1 q1=>by
  cases r1 with
  | bl k=>
   refine ⟨k,rfl, ?_⟩
   cases k with
   | false=>exact ⟨_,I1,q1⟩
   | true=>exact Jj I1 q1 (.bl true)
  | _=>exact q1.elim
theorem KL (ha:Snd X Y a fa):Snd X Y (.UnaryOp .Not a pos) (GF fa):= .mk fun ρ=>
 PE.imp (Kg (ha ρ)) fun σ H Q ⟨B,I,q⟩=>step I q fun t v H1 _ s1 r1 I1 q1=>by
  cases r1 with
  | bl k=>exact ⟨k,rfl,Jj I1 q1 (.bl (!k))⟩
  | _=>exact q1.elim
structure ua (X:Cx) (Y:Fx) (e:Expr) (f:En->R Bool):Prop where
 mk ::
 go:∀ ρ,PW X e (tS Y rE f ρ)
noncomputable instance {X:Cx} {Y:Fx} {e:Expr} {f:En->R Bool}:CoeFun (ua X Y e f) fun _=>∀ ρ,PW X e (tS Y rE f ρ):=⟨ua.go⟩
theorem ua.t {e:Expr} {f:En->R Bool} (h:ua X Y e f):Yp X Y e f:= .mk fun ρ=>(h ρ).pt
theorem PW.imp {e:Expr} {t t' :TT} (h:PW X e t) (i:∀ σ H Q,t' σ H Q->t σ H Q):PW X e t' :=fun wh pins s σ H Q I q=>h wh pins s σ H Q I (i σ H Q q)
noncomputable def U5 (fa fb:En->R Bool):En->R Bool:=fun ρ=>(fa ρ).bind fun x=>if x=true then fb ρ else .ok false
noncomputable def orT (fa fb:En->R Bool):En->R Bool:=fun ρ=>(fa ρ).bind fun x=>if x=true then .ok true else fb ρ
noncomputable def Wg (fa:En->R Bool):En->R Bool:=fun ρ=>(fa ρ).bind fun x=> .ok (!x)
theorem qt (h:Yp X Y a ga):ua X Y (.BoolOp .And [a] pos) ga:= .mk fun ρ=>Xf (h ρ)
theorem U6 (h:Yp X Y a ga):ua X Y (.BoolOp .Or [a] pos) ga:= .mk fun ρ=>Ka (h ρ)
theorem VI (ha:Yp X Y a ga) (hb:ua X Y (.BoolOp .And (b :: rest) pos) gb):ua X Y (.BoolOp .And (a :: b :: rest) pos) (U5 ga gb):= .mk fun ρ=>
 PW.imp (Kb (ha ρ) (hb ρ)) fun σ H Q ⟨B,I,q⟩=>step I q fun t v H1 _ s1 r1 I1 q1=>by
  have r1' :v=t:=r1
  subst r1'
  cases v with
  | true=>exact ⟨_,I1,q1⟩
  | false=>exact Jj I1 q1 rfl
theorem yB (ha:Yp X Y a ga) (hb:ua X Y (.BoolOp .Or (b :: rest) pos) gb):ua X Y (.BoolOp .Or (a :: b :: rest) pos) (orT ga gb):= .mk fun ρ=>
 PW.imp (Gf (ha ρ) (hb ρ)) fun σ H Q ⟨B,I,q⟩=>step I q fun t v H1 _ s1 r1 I1 q1=>by
  have r1' :v=t:=r1
  subst r1'
  cases v with
  | false=>exact ⟨_,I1,q1⟩
  | true=>exact Jj I1 q1 rfl
theorem wj (ha:Yp X Y a ga):Yp X Y (.UnaryOp .Not a pos) (Wg ga):= .mk fun ρ=>
 PT.imp (Kc (ha ρ)) fun σ H Q ⟨B,I,q⟩=>step I q fun t v H1 _ s1 r1 I1 q1=>by
  have r1' :v=t:=r1
  subst r1'
  exact Jj I1 q1 rfl
noncomputable def tru:T->R Bool
 | .bl k=> .ok k
 | .non=> .ok false
 | .int i=> .ok (i != 0)
 | .tup xs=> .ok (!xs.isEmpty)
 | .lst xs=> .ok (!xs.isEmpty)
 | _=> .bad
noncomputable def jg (fa:En->R T):En->R Bool:=fun ρ=>(fa ρ).bind tru
theorem isE {H:Hp} {xs:List V} {ts:List T} (r:Z2 H xs ts):(!xs.isEmpty)= !ts.isEmpty:=by cases r <;> rfl
theorem jZ (ha:Wd X Y a fa) (he:∀ whole,isTrue a X.env whole=(do let v ← whole; standAt a.pos; holding [v] (truthy v)):=by intro _; rfl):Yp X Y a (jg fa):= .mk fun ρ=>
 PT.imp (Vz (ha ρ) he) fun σ H Q ⟨B,I,q⟩=>step I q fun t v H1 _ s1 r1 I1 q1=>by
  cases r1 with
  | bl k=>exact ⟨k,rfl,Jj I1 q1 rfl⟩
  | non=>exact ⟨false,rfl,Jj I1 q1 rfl⟩
  | int i=>exact ⟨_,rfl,Jj I1 q1 rfl⟩
  | tup h r=>exact ⟨_, .inr (.inl ⟨_,SqT.of h,rfl⟩),Jj I1 q1 (isE r)⟩
  | lst h r=>exact ⟨_, .inl ⟨_,SqL.of h,rfl⟩,Jj I1 q1 (isE r)⟩
  | _=>exact q1.elim
noncomputable def ifE (g:En->R Bool) (fa fb:En->R T):En->R T:=fun ρ=>(g ρ).bind fun k=>if k=true then fa ρ else fb ρ
theorem s_if (hc:Yp X Y c ga) (ha:Snd X Y a fa) (hb:Snd X Y b fb):Snd X Y (.IfExp c a b pos) (ifE ga fa fb):= .mk fun ρ=>
 PE.imp (Vt (hc ρ) (ha ρ) (hb ρ)) fun σ H Q ⟨B,I,q⟩=>step I q fun t v H1 _ s1 r1 I1 q1=>by
  have r1' :v=t:=r1
  subst r1'
  cases v with
  | true=>exact ⟨_,I1,q1⟩
  | false=>exact ⟨_,I1,q1⟩
end
end PV
namespace PV
open PySem PySem.Spec PyProof.Rows L2
section
variable {X:Cx} {Y:Fx} {a b c d:Expr} {fa fb fc fd:En->R T} {pos p:Pos}
noncomputable def ap1 (g:T->R T) (fa:En->R T):En->R T:=fun ρ=>(fa ρ).bind g
noncomputable abbrev St1 (X:Cx) (a:Expr):Prop:=starEach [a] X.env=[(false,eval a X.env)]
theorem xN {id:String} {x:Str} {r:List V->Hp->VK->Prop} {g:T->R T} (hc:JL X (.builtin id) r) (hr:∀ v t B H Q,Rep H v t->zN B H->Po Y rC B H (g t) Q->r [v] H Q)
  (gl:Gl X x) (mg:X.mg x=none) (bt:bootBuiltins x=some (.builtin id)) (ha:Wd X Y a fa) (hs:St1 X a:=by exact st1 rfl) (hn:x ≠ "__name__":=by decide) (hd:(x == ("__debug__":Str))=false:=by decide):Snd X Y (.Call (.Name x p) [a] [] pos) (ap1 g fa):= .mk fun ρ=>
 PE.imp (wF hc gl mg bt (zO (ha ρ) ZZ hs) hn hd hs rfl) fun σ H Q ⟨B,I,q⟩=>step I q fun t v H1 _ s1 r1 I1 q1=>hr v t _ H1 Q r1 I1.sB q1
theorem xO {id:String} {x:Str} {r:List V->Hp->VK->Prop} {g:T->R T} (hc:JL X (.type id) r) (hr:∀ v t B H Q,Rep B v t->zN B H->Po Y rC B H (g t) Q->r [v] H Q)
  (gl:Gl X x) (mg:X.mg x=none) (bt:bootBuiltins x=some (.type id)) (ha:Snd X Y a fa) (hs:St1 X a:=by exact st1 rfl) (hn:x ≠ "__name__":=by decide) (hd:(x == ("__debug__":Str))=false:=by decide):Snd X Y (.Call (.Name x p) [a] [] pos) (ap1 g fa):= .mk fun ρ=>
 PE.imp (Wb hc gl mg bt (zO (ha ρ) ZZ hs) hn hd hs rfl) fun σ H Q ⟨B,I,q⟩=>step I q fun t v H1 _ s1 r1 I1 q1=>hr v t _ H1 Q r1 I1.sB q1
noncomputable def ZI:T->R T
 | .tup xs=> .ok (.int xs.length)
 | .lst xs=> .ok (.int xs.length)
 | .fz xs=> .ok (.int xs.length)
 | .str x=>if x.length<=bnd then .ok (.int x.length) else .bad
 | _=> .bad
theorem GG (v:V) (t:T) (B H:Hp) (Q:VK) (r:Rep H v t) (sB:zN B H) (q:Po Y rC B H (ZI t) Q):
  (∃ p ys,[v]=[V.ref p]/\(SqL X.K H p ys\/SqT X.K H p ys)/\Q (V.int ys.length) H)\/(∃ z,[v]=[V.str z]/\z.length<=sizeLine/\Q (V.int z.length) H):=by
 cases r with
 | tup h r=>exact .inl ⟨_,_,rfl, .inr (SqT.of h),po0 sB q rfl (by rw [r.length]; exact .int _)⟩
 | lst h r=>exact .inl ⟨_,_,rfl, .inl (SqL.of h),po0 sB q rfl (by rw [r.length]; exact .int _)⟩
 | fz h r=>exact .inl ⟨_,_,rfl, .inl (.inl (.inr ⟨_,h⟩)),po0 sB q rfl (by rw [r.length]; exact .int _)⟩
 | str x=>
  by_cases hb:x.length<=bnd
  ·exact .inr ⟨x,rfl,JM hb,po0 sB q (if_pos hb) (.int _)⟩
  ·rw [show ZI (.str x)= .bad from if_neg hb] at q; exact q.elim
 | _=>exact q.elim
theorem ZS (gl:Gl X "len") (mg:X.mg "len"=none) (ha:Wd X Y a fa) (hs:St1 X a:=by exact st1 rfl):Snd X Y (.Call (.Name "len" p) [a] [] pos) (ap1 ZI fa):=
 xN (yu.or yv) GG gl mg PySem.boot_len ha hs
noncomputable def G4:T->R T
 | .tup xs=> .ok (.tup xs)
 | .lst xs=> .ok (.tup xs)
 | _=> .bad
theorem GH (v:V) (t:T) (B H:Hp) (Q:VK) (r:Rep B v t) (sB:zN B H) (q:Po Y rC B H (G4 t) Q):
  ∃ p ys,[v]=[V.ref p]/\((SqL X.K H p ys/\∀ l,H l=none->Q (.ref l) (upd H l (.tup ys)))\/(SqT X.K H p ys/\Q (.ref p) H)):=by
 cases r with
 | tup h r=>exact ⟨_,_,rfl, .inr ⟨SqT.of (sB _ _ h),po0 sB q rfl (.tup h r)⟩⟩
 | lst h r=>exact ⟨_,_,rfl, .inl ⟨SqL.of (sB _ _ h),fun l hl=>G2 sB q rfl r hl⟩⟩
 | _=>exact q.elim
theorem vc (gl:Gl X "tuple") (mg:X.mg "tuple"=none) (ha:Snd X Y a fa) (hs:St1 X a:=by exact st1 rfl):Snd X Y (.Call (.Name "tuple" p) [a] [] pos) (ap1 G4 fa):=
 xO UF GH gl mg (PyProof.Rows.Boot.«tuple») ha hs
noncomputable def tyN:T->String
 | .non=>"NoneType"
 | .bl _=>"bool"
 | .int _=>"int"
 | .str _=>"str"
 | .tup _=>"tuple"
 | .lst _=>"list"
 | .fz _=>"list"
noncomputable def isT (n:String) (t:T):Bool:=tyN t == n || (n == "int" && tyN t == "bool")
theorem GI {H:Hp} {v:V} {t:T} (K:PySem.W.Frag) (r:Rep H v t):qU K H v (.type (tyN t)):=by
 cases r with
 | non=>exact .non
 | bl b=>exact .bl b
 | int b=>exact .int b
 | str b=>exact .str b
 | tup h _=>exact .tup h
 | lst h _=>exact .lst h
 | fz h _=>exact .frz h
theorem VJ:JL X (.builtin "isinstance") (fun xs H Q=>∃ v n t,xs=[v, .ty n]/\Rep H v t/\PySem.W.kitOne X.K (.type (tyN t)) (.type n)=some (isT n t)/\Q (.bl (isT n t)) H):=by
 intro pins s σ H xs us Q I rv h
 obtain ⟨v,n,t,rfl,r,hk,q⟩:=h
 obtain ⟨u,w,rfl,ru,rw'⟩:=QE rv
 obtain rfl:w=Value.type n:=rw'
 exact QI I ru (GI X.K r) hk fun tk=>⟨.bl _,H,I.tok tk,rfl,q⟩
noncomputable def Jk (n:String) (t:T):R T:= .ok (.bl (isT n t))
theorem YB (K:PySem.W.Frag) (t:T):PySem.W.kitOne K (.type (tyN t)) (.type "int")=some (isT "int" t):=by cases t <;> rfl
theorem Wh (K:PySem.W.Frag) (t:T):PySem.W.kitOne K (.type (tyN t)) (.type "bool")=some (isT "bool" t):=by cases t <;> rfl
theorem YC (K:PySem.W.Frag) (t:T):PySem.W.kitOne K (.type (tyN t)) (.type "str")=some (isT "str" t):=by cases t <;> rfl
theorem j0 (K:PySem.W.Frag) (t:T):PySem.W.kitOne K (.type (tyN t)) (.type "tuple")=some (isT "tuple" t):=by cases t <;> rfl
theorem Jy {n:String} {p' :Pos} (hk:∀ t,PySem.W.kitOne X.K (.type (tyN t)) (.type n)=some (isT n t)) (gl:Gl X "isinstance") (mg:X.mg "isinstance"=none) (gl' :Gl X (Str.ofString n)) (mg' :X.mg (Str.ofString n)=none) (bt:bootBuiltins (Str.ofString n)=some (.type n)) (ha:Wd X Y a fa)
  (hs:starEach [a, .Name (Str.ofString n) p'] X.env=[(false,eval a X.env),(false,eval (.Name (Str.ofString n) p') X.env)]:=by exact st2 rfl rfl) (hs2:starEach [.Name (Str.ofString n) p'] X.env=[(false,eval (.Name (Str.ofString n) p') X.env)]:=by exact st1 rfl)
  (hn:Str.ofString n ≠ "__name__":=by decide) (hd:(Str.ofString n == ("__debug__":Str))=false:=by decide) (hz:((backTo pos (starEach [.Name (Str.ofString n) p'] X.env)).any fun x=>x.fst)=false:=by exact jP rfl):
  Snd X Y (.Call (.Name "isinstance" p) [a, .Name (Str.ofString n) p'] [] pos) (ap1 (Jk n) fa):= .mk fun ρ=>
 PE.imp (wF VJ gl mg PyProof.Rows.Boot.«isinstance» (zO (ha ρ) (zO (Qw (v:= .ty n) gl' mg' bt rfl hn hd) ZZ hs2) (by rw [hs,hs2])) (by decide) (by decide) (by rw [hs,hs2]) hz) fun σ H Q ⟨B,I,q⟩=>
  step I q fun t v H1 _ s1 r1 I1 q1=>⟨v,n,t,rfl,r1,hk t,po0 I1.sB q1 rfl (.bl _)⟩
noncomputable def atT (xs:List T) (i:Int):R T:=match atI xs i with
 | some t=> .ok t
 | none=> .bad
noncomputable def ixT:T->T->R T
 | .tup xs, .int i=>atT xs i
 | .lst xs, .int i=>atT xs i
 | .fz xs, .int i=>atT xs i
 | .str z, .int i=>if z.length<=bnd then match atI z.cps.toList i with | some c=> .ok (.str ⟨#[c]⟩) | none=> .bad else .bad
 | _,_=> .bad
theorem vd {H:Hp} {xs:List V} {ts:List T} {i:Int} {t:T} (r:Z2 H xs ts) (h:atI ts i=some t):∃ v,atI xs i=some v/\Rep H v t:=by
 unfold atI at h ⊢
 rw [r.length]
 cases e:ixN ts.length i with
 | none=>rw [e] at h; cases h
 | some j=>
  rw [e] at h
  obtain ⟨v,h1,h2⟩:=r.get (show ts[j]? =some t from h)
  exact ⟨v,h1,h2⟩
theorem Zk (ha:Snd X Y a fa) (hb:Snd X Y b fb) (hs:QM b:=by exact fun _ _=>rfl):Snd X Y (.Subscript a b pos) (zf ixT fa fb):= .mk fun ρ=>
 PE.imp (GC Ky (ha ρ) (hb ρ) hs) fun σ H Q ⟨B,I,q⟩=>step I q fun t v H1 _ s1 r1 I1 q1=>step I1 q1 fun t' v' H2 _ s2 r2 I2 q2=>by
  have r1:=r1.mono (Zo.ge I1.sB s2)
  cases r2 with
  | int i=>
   cases r1 with
   | @tup _ xs ts h r=>
    have q2:Po Y rC _ H2 (atT ts i) Q:=q2
    unfold atT at q2
    split at q2
    ·rename_i t' e
     obtain ⟨w,e1,e2⟩:=vd r e
     exact .inr (.inl ⟨_,xs,i,w,rfl,rfl,SqT.of (I2.sB _ _ h),e1,po0 I2.sB q2 rfl e2⟩)
    ·exact q2.elim
   | @lst _ xs ts h r=>
    have q2:Po Y rC _ H2 (atT ts i) Q:=q2
    unfold atT at q2
    split at q2
    ·rename_i t' e
     obtain ⟨w,e1,e2⟩:=vd r e
     exact .inl ⟨_,xs,i,w,rfl,rfl,SqL.of (I2.sB _ _ h),e1,po0 I2.sB q2 rfl e2⟩
    ·exact q2.elim
   | @fz _ _ xs ts h r=>
    have q2:Po Y rC _ H2 (atT ts i) Q:=q2
    unfold atT at q2
    split at q2
    ·rename_i t' e
     obtain ⟨w,e1,e2⟩:=vd r e
     exact .inl ⟨_,xs,i,w,rfl,rfl, .inl (.inr ⟨_,I2.sB _ _ h⟩),e1,po0 I2.sB q2 rfl e2⟩
    ·exact q2.elim
   | str z=>
    have q2:Po Y rC _ H2 (if z.length<=bnd then match atI z.cps.toList i with | some c=> .ok (.str ⟨#[c]⟩) | none=> .bad else .bad) Q:=q2
    split at q2
    ·rename_i hb
     split at q2
     ·rename_i c e
      exact .inr (.inr ⟨z,i,c,rfl,rfl,JM hb,e,po0 I2.sB q2 rfl (.str _)⟩)
     ·exact q2.elim
    ·exact q2.elim
   | _=>exact q2.elim
  | _=>cases r1 <;> exact q2.elim
structure K0 (X:Cx) (Y:Fx) (e:Option Expr) (f:En->R (Option Int)):Prop where
 mk ::
 go:∀ ρ,PO X e (tS Y rE f ρ)
noncomputable instance {X:Cx} {Y:Fx} {e:Option Expr} {f:En->R (Option Int)}:CoeFun (K0 X Y e f) fun _=>∀ ρ,PO X e (tS Y rE f ρ):=⟨K0.go⟩
noncomputable def noO:En->R (Option Int):=fun _=> .ok none
noncomputable def jv (fa:En->R T):En->R (Option Int):=fun ρ=>(fa ρ).bind fun t=>match t with
 | .int i=> .ok (some i)
 | _=> .bad
theorem PO.imp {e:Option Expr} {t t' :TO} (h:PO X e t) (i:∀ σ H Q,t' σ H Q->t σ H Q):PO X e t' :=fun pins s σ H Q I q=>h pins s σ H Q I (i σ H Q q)
theorem Wi:K0 X Y none noO:= .mk fun ρ=>PO.imp Xm fun σ H Q ⟨B,I,q⟩=>Jj I q rfl
theorem wp (ha:Snd X Y a fa):K0 X Y (some a) (jv fa):= .mk fun ρ=>PO.imp (Xn (ha ρ)) fun σ H Q ⟨B,I,q⟩=>step I q fun t v H1 _ s1 r1 I1 q1=>by
 cases r1 with
 | int i=>exact ⟨i,rfl,Jj I1 q1 rfl⟩
 | _=>exact q1.elim
noncomputable def cut (xs:List T) (lo hi:Option Int):List T:=(xs.drop (HT.sIx xs.length 0 lo)).take (HT.sIx xs.length xs.length hi - HT.sIx xs.length 0 lo)
noncomputable def slT (t:T) (lo hi:Option Int):R T:=match t with
 | .tup xs=> .ok (.tup (cut xs lo hi))
 | .lst xs=> .ok (.lst (cut xs lo hi))
 | _=> .bad
noncomputable def slE (fa:En->R T) (fl fh:En->R (Option Int)):En->R T:=fun ρ=>(fa ρ).bind fun t=>(fl ρ).bind fun lo=>(fh ρ).bind fun hi=>slT t lo hi
theorem ve {H:Hp} {xs:List V} {ts:List T} {lo hi:Option Int} (r:Z2 H xs ts):Z2 H (xL xs lo hi) (cut ts lo hi):=by
 unfold xL cut
 rw [r.length]
 exact (r.drop _).take _
theorem Wz {prog:Program} {w:World} {A:Around} {E:Value->Shared->Prop} {s:Shared} {t sl:Addr} {items:Array Value} {vl vu:Value} {lo hi:Option Int} {Q:Value->Shared->Prop} (ht:IsTup s.heap t items) (hs:s.heap.IsSliceOf sl vl vu .none) (pl:IsPart vl lo) (pu:IsPart vu hi)
  (hw:HT.sIx items.size 0 lo=0/\HT.sIx items.size items.size hi=items.size) (h:Q (.ref t) s):wpAny (model prog w) A (getItem (.ref t) (.ref sl)) Q E s:=by
 obtain ⟨os,hos,hcs,hds⟩:=id hs
 have hTs:s.TypeIs (.ref sl) "slice":=⟨os,hos,hcs⟩
 unfold getItem
 try with_reducible refine wpAny_holding ?_
 first | refine wpAny_bind (wpAny_pure ?_) | skip
 refine wpAny_bind (wpAny_sequenceKey ht.typeIs (by decide) ?_)
 refine wpAny_bind (wpAny_callSpecial?_slot (name:=Str.ofString "__getitem__") ht.typeIs PyProof.Rows.slot_tuple_getitem
  (wpAny_call_entry PyProof.Rows.slot_tuple_getitem ht.typeIs entry_tuple_getitem ?_ (args_tuple_getitem _ _)))
 show wpAny _ _ (Builtin.Tuple.tupleItemsOf (.ref t) >>= _) _ _ s
 refine wpAny_bind (tupleItemsOf_ ht ?_)
 refine wpAny_bind (wpAny_typeOf hTs ?_)
 rw [if_pos (by decide)]
 refine wpAny_bind (HT.sliceApplied_gen hs pl pu ?_)
 have hyes:(((HT.sIx items.size 0 lo:Nat):Int) == 0 && (1:Int) == 1 && (HT.sIx items.size items.size hi - HT.sIx items.size 0 lo) == items.size)=true:=by
  rw [hw.1,hw.2]; simp
 show wpAny _ _ (if (((HT.sIx items.size 0 lo:Nat):Int) == 0 && (1:Int) == 1 && (HT.sIx items.size items.size hi - HT.sIx items.size 0 lo) == items.size)=true then _ else _) _ _ s
 rw [if_pos hyes]
 unfold Builtin.Tuple.tupleIsExact
 refine wpAny_bind (wpAny_bind (wpAny_typeOf ht.typeIs (wpAny_pure ?_)))
 rw [if_pos (by decide)]
 exact wpAny_bind (wpAny_rule (wpAny_pure ⟨_,rfl,wpAny_pure h⟩))
theorem Q2:SlR X (fun x lo hi H Q=>∃ a xs,x= .ref a/\SqT X.K H a xs/\(HT.sIx xs.length 0 lo=0/\HT.sIx xs.length xs.length hi=xs.length)/\Q (.ref a) H):=by
 intro pins s σ H x v vl vu lo hi sl Q I rx hs pl pu h
 obtain ⟨a,xs,rfl,hx,hw,q⟩:=h
 obtain rfl:v=Value.ref a:=rx
 obtain ⟨its,r,ht,hz⟩:=I.tuple hx
 have hlen:its.toArray.size=xs.length:=by rw [List.size_toArray]; exact r.length.symm
 refine ⟨"tuple",_,PyProof.Rows.slot_tuple_getitem.lookup,ht.typeIs, ?_⟩
 exact Wz ht hs pl pu (by rw [hlen]; exact hw) ⟨.ref a,H,I,rfl,q⟩
theorem XJ {xs:List T} {lo hi:Option Int} (h1:HT.sIx xs.length 0 lo=0) (h2:HT.sIx xs.length xs.length hi=xs.length):cut xs lo hi=xs:=by
 unfold cut
 rw [h1,h2]; simp
theorem Jz {lo hi:Option Expr} {fl fh:En->R (Option Int)} {p2:Pos} (ha:Snd X Y a fa) (hl:K0 X Y lo fl) (hh:K0 X Y hi fh):Snd X Y (.Subscript a (.Slice lo hi none p2) pos) (slE fa fl fh):= .mk fun ρ=>
 PE.imp (VB (Kv.or (Q2.or Xr)) (ha ρ) (hl ρ) (hh ρ)) fun σ H Q ⟨B,I,q⟩=>step I q fun t v H1 _ s1 r1 I1 q1=>step I1 q1 fun l l' H2 _ s2 el I2 q2=>step I2 q2 fun h h' H3 _ s3 eh I3 q3=>by
  have el' :l' =l:=el
  have eh' :h' =h:=eh
  subst el' eh'
  have r1:=r1.mono ((Zo.ge I1.sB s2).trans (Zo.ge I2.sB s3))
  cases r1 with
  | @tup _ xs ts hx r=>
   have q3:Po Y rC _ H3 (.ok (.tup (cut ts l' h'))) Q:=q3
   by_cases hw:HT.sIx xs.length 0 l' =0/\HT.sIx xs.length xs.length h' =xs.length
   ·refine .inr (.inl ⟨_,xs,rfl,SqT.of (I3.sB _ _ hx),hw,po0 I3.sB q3 rfl ?_⟩)
    rw [r.length] at hw
    rw [XJ hw.1 hw.2]
    exact .tup hx r
   ·exact .inl ⟨_,xs,rfl,SqT.of (I3.sB _ _ hx),hw,fun p hp=>G2 I3.sB q3 rfl (ve r) hp⟩
  | @lst _ xs ts hx r=>
   have q3:Po Y rC _ H3 (.ok (.lst (cut ts l' h'))) Q:=q3
   exact .inr (.inr ⟨_,xs,rfl,SqL.of (I3.sB _ _ hx),fun p hp=>GE I3.sB q3 rfl (ve r) hp⟩)
  | _=>exact q3.elim
noncomputable def vf (t t' :T):R T:=match t,t' with
 | .int i, .int j=> .ok (.int (if j < i then j else i))
 | _,_=> .bad
theorem xP (hc:X.calm=true) (gl:Gl X "min") (mg:X.mg "min"=none) (ha:Snd X Y a fa) (hb:Snd X Y b fb)
  (hs:starEach [a,b] X.env=[(false,eval a X.env),(false,eval b X.env)]:=by exact st2 rfl rfl) (hs2:starEach [b] X.env=[(false,eval b X.env)]:=by exact st1 rfl):
  Snd X Y (.Call (.Name "min" p) [a,b] [] pos) (zf vf fa fb):= .mk fun ρ=>
 PE.imp (wF (QF hc) gl mg PyProof.Rows.Boot.«min» (zO (ha ρ) (zO (hb ρ) ZZ hs2) (by rw [hs,hs2])) (by decide) (by decide) (by rw [hs,hs2]) (by rw [hs2]; rfl)) fun σ H Q ⟨B,I,q⟩=>
  step I q fun t v H1 _ s1 r1 I1 q1=>step I1 q1 fun t' v' H2 _ s2 r2 I2 q2=>by
   cases r1 with
   | int i=>
    cases r2 with
    | int j=>exact ⟨i,j,rfl,po0 I2.sB q2 rfl (.int _)⟩
    | _=>exact q2.elim
   | _=>cases r2 <;> exact q2.elim
noncomputable def yC:List T->Option Bool
 | []=>some true
 | .bl k :: r=>match yC r with | some j=>some (k && j) | none=>none
 | _ :: _=>none
noncomputable def vg:T->R T
 | .lst ts=>match yC ts with | some k=> .ok (.bl k) | none=> .bad
 | _=> .bad
theorem vh:∀ {H:Hp} {xs:List V} {ts:List T} {its:List Value} {k:Bool},Z2 H xs ts->ZY xs its->yC ts=some k->∃ tr:Nat->Bool,(∀ i v,its[i]? =some v->v=Value.bool (tr i))/\(List.range its.length).all tr=k
 | _,_,_,_,k, .nil, .nil,h=>by
  have h' :some true=some k:=h
  cases h'
  exact ⟨fun _=>true,fun i v e=>by simp at e,rfl⟩
 | H,_,_,_,k, .cons (v:=x) (t:=t) r rs, .cons (b:=u) rv vs,h=>by
  cases r with
  | bl b=>
   unfold yC at h
   split at h
   ·rename_i j e
    cases h
    obtain ⟨tr,h1,h2⟩:=vh rs vs e
    obtain rfl:u=Value.bool b:=rv
    refine ⟨fun i=>match i with | 0=>b | i+1=>tr i,fun i v e=> ?_, ?_⟩
    ·cases i with
     | zero=>simp at e; exact e.symm
     | succ i=>exact h1 i v (by simpa using e)
    ·rw [List.length_cons,List.range_succ_eq_map,List.all_cons,List.all_map,← h2]
     rfl
   ·cases h
  | _=>cases h
theorem vi (hh:X.A.handled=none):JL X (.builtin "all") (fun vs H Q=>∃ l xs ts k,vs=[.ref l]/\H l=some (.lst xs)/\Z2 H xs ts/\yC ts=some k/\Q (.bl k) H):=by
 intro pins s σ H vs us Q I rv h
 obtain ⟨l,xs,ts,k,rfl,hl,r,hk,q⟩:=h
 obtain ⟨u,rfl,ru⟩:=Ww rv
 obtain rfl:u=Value.ref l:=ru
 obtain ⟨its,rv,p,_⟩:=ZC I (.inl hl) r
 obtain ⟨tr,h1,h2⟩:=vh r rv hk
 refine call_all_walk (wpAny_pyIter_list p ?_)
 have hlt:l < s.heap.objs.size:=I.hok.lt hl
 have old:∀ b o,s.heap.get? b=some o->(s.heap.push { cls:= .type "list_iterator",data:= .fields #[.ref l, .int 0 0] }).get? b=some o:=fun b o e=>Heap.get?_push_of_some _ e
 refine ⟨s.heap.objs.size,_,_,_,_,_,tr,rfl,Walks.list (A:=X.A.in1) hh s.heap.objs.size l (Nat.ne_of_lt hlt) its.toArray, ?_, ?_,fun h' tk hk' => ?_⟩
 ·refine ⟨?_,p.at fun o e=>old _ o e⟩
  exact ⟨_,Heap.get?_push_size _ rfl,rfl,rfl⟩
 ·intro i v s' Q' E' hi hq
  rw [h1 i v (by simpa using hi)]
  exact wpAny_truthy_bool hq
 ·rw [List.size_toArray,h2]
  refine ⟨.bl k,H,I.kept (t' :=tk) (fun b o e=>hk' b o ?_ (old b o e)),rfl,q⟩
  simp
  exact Nat.ne_of_lt (Heap.lt_size e)
theorem vj (hh:X.A.handled=none) (gl:Gl X "all") (mg:X.mg "all"=none) (ha:Wd X Y a fa) (hs:St1 X a:=by exact st1 rfl):Snd X Y (.Call (.Name "all" p) [a] [] pos) (ap1 vg fa):=
 xN (vi hh) (fun v t B H Q r sB q=>by
  cases r with
  | @lst l xs ts h r=>
   have q:Po Y rC B H (match yC ts with | some k=> .ok (.bl k) | none=> .bad) Q:=q
   split at q
   ·rename_i k e
    exact ⟨l,xs,ts,k,rfl,h,r,e,po0 sB q rfl (.bl k)⟩
   ·exact q.elim
  | _=>exact q.elim) gl mg PyProof.Rows.Boot.«all» ha hs
end
end PV
namespace PV
open PySem PySem.Spec PyProof.Rows L2
inductive RS where
 | nx (ρ:En) | rt (t:T) | bk (ρ:En) | ct (ρ:En) | ex (c:Nat) | bad | rf (ts:List T)
noncomputable def R.s {α:Type} (r:R α) (k:α->RS):RS:=match r with
 | .ok a=>k a
 | .ex c=> .ex c
 | .bad=> .bad
noncomputable def PoS (Y:Fx) (B:Hp) (r:RS) (D:Vs):Prop:=match r with
 | .nx ρ' =>∀ σ' H' B',zN B B' ->SI Y B' ρ' σ' H' ->D.nx σ' H'
 | .rt t=>∀ v H',zN Y.H0 H' ->Rep (Zo Y.B0 Y.H0 H') v t->D.rt v H'
 | .bk ρ' =>∀ σ' H' B',zN B B' ->SI Y B' ρ' σ' H' ->D.bk σ' H'
 | .ct ρ' =>∀ σ' H' B',zN B B' ->SI Y B' ρ' σ' H' ->D.ct σ' H'
 | .ex c=>XP Y B c
 | .bad=>False
 | .rf ts=>∀ a xs H' B',zN Y.H0 H' ->Y.H0 a=none->H' a=some (.lst xs)->Z2 B' xs ts->B' a=none->zN B' (Zo Y.B0 Y.H0 H')->D.rt (.ref a) H'
theorem PoS.up {Y:Fx} {B B' :Hp} {r:RS} {D:Vs} (s:zN B B') (h:PoS Y B r D):PoS Y B' r D:=by
 cases r with
 | nx ρ=>exact fun σ' H' B2 s2 I=>h σ' H' B2 (s.trans s2) I
 | bk ρ=>exact fun σ' H' B2 s2 I=>h σ' H' B2 (s.trans s2) I
 | ct ρ=>exact fun σ' H' B2 s2 I=>h σ' H' B2 (s.trans s2) I
 | rt t=>exact h
 | rf t=>exact h
 | ex c=>exact fun d H' s0 sB=>h d H' s0 (s.trans sB)
 | bad=>exact h
noncomputable def tSS (Y:Fx) (f:En->RS) (ρ:En):TS:=fun D σ H=>∃ B,SI Y B ρ σ H/\PoS Y B (f ρ) D
structure yD (X:Cx) (Y:Fx) (e:Stmt) (f:En->RS):Prop where
 mk ::
 go:∀ ρ,PS X e (tSS Y f ρ)
noncomputable instance {X:Cx} {Y:Fx} {e:Stmt} {f:En->RS}:CoeFun (yD X Y e f) fun _=>∀ ρ,PS X e (tSS Y f ρ):=⟨yD.go⟩
structure Q3 (X:Cx) (Y:Fx) (e:List Stmt) (f:En->RS):Prop where
 mk ::
 go:∀ ρ,PSs X e (tSS Y f ρ)
noncomputable instance {X:Cx} {Y:Fx} {e:List Stmt} {f:En->RS}:CoeFun (Q3 X Y e f) fun _=>∀ ρ,PSs X e (tSS Y f ρ):=⟨Q3.go⟩
theorem UJ {α β:Type} {Y:Fx} {rel:Hp->Hp->β->α->Prop} {f:En->R α} {k:α->RS} {ρ:En} {B:Hp} {σ:Sg} {H:Hp} {D:Vs} {K:β->Hp->Prop}
  (I:SI Y B ρ σ H) (h:PoS Y B ((f ρ).s k) D)
  (n:∀ a b H1,f ρ= .ok a->zN H H1->rel (Zo B H H1) H1 b a->SI Y (Zo B H H1) ρ σ H1->PoS Y (Zo B H H1) (k a) D->K b H1):tS Y rel f ρ σ H K:=by
 refine ⟨B,I, ?_⟩
 cases e:f ρ with
 | bad=>rw [e] at h; exact h
 | ex c=>rw [e] at h; exact h
 | ok a=>
  rw [e] at h
  exact fun b H1 s r=>n a b H1 e s r (I.grow s) (PoS.up (Zo.ge I.sB s) h)
theorem Z5 {α:Type} {xs:List α} {i j:Nat} {x y:α} (h:(xs.set i x)[j]? =some y):(j=i/\y=x)\/(j ≠ i/\xs[j]? =some y):=by
 by_cases e:j=i
 ·subst e
  by_cases hl:j < xs.length
  ·rw [List.getElem?_set_self hl] at h; exact .inl ⟨rfl,(Option.some.inj h).symm⟩
  ·rw [List.getElem?_eq_none (by rw [List.length_set]; omega)] at h; cases h
 ·rw [List.getElem?_set_ne (Ne.symm e)] at h; exact .inr ⟨e,h⟩
theorem vk {α:Type} {xs:List α} {i:Nat} {x y:α} (h:(xs.set i x)[i]? =some y):i < xs.length:=by
 by_cases hl:i < xs.length
 ·exact hl
 ·rw [List.getElem?_eq_none (by rw [List.length_set]; omega)] at h; cases h
theorem SI.setV {Y:Fx} {B:Hp} {ρ:En} {σ:Sg} {H:Hp} (I:SI Y B ρ σ H) (i:Nat) {v:V} {t:T} (r:Rep B v t):SI Y B (ρ.set i (.vl t)) (σ.set i (some v)) H where
 s0:=I.s0
 sH:=I.sH
 sB:=I.sB
 old:=I.old
 len:=by rw [List.length_set,List.length_set]; exact I.len
 vl:=fun j u h=>by
  rcases Z5 h with ⟨rfl,e⟩ | ⟨hj,h'⟩
  ·cases e
   exact ⟨v,List.getElem?_set_self (by rw [← I.len]; exact vk h),r⟩
  ·obtain ⟨w,e,rr⟩:=I.vl j u h'
   exact ⟨w,by rw [List.getElem?_set_ne (Ne.symm hj)]; exact e,rr⟩
 ow:=fun j us h=>by
  rcases Z5 h with ⟨rfl,e⟩ | ⟨hj,h'⟩
  ·cases e
  ·obtain ⟨a,xs,e,b0,h0,hh,rr,d⟩:=I.ow j us h'
   refine ⟨a,xs,by rw [List.getElem?_set_ne (Ne.symm hj)]; exact e,b0,h0,hh,rr,fun k ws hk hw=> ?_⟩
   rcases Z5 hw with ⟨rfl,e'⟩ | ⟨hk',hw'⟩
   ·cases e'
   ·rw [List.getElem?_set_ne (Ne.symm hk')]; exact d k ws hk hw'
 xc:=fun j c h=>by
  rcases Z5 h with ⟨rfl,e⟩ | ⟨hj,h'⟩
  ·cases e
  ·obtain ⟨a,e,r⟩:=I.xc j c h'
   exact ⟨a,by rw [List.getElem?_set_ne (Ne.symm hj)]; exact e,r⟩
theorem SI.newO {Y:Fx} {B:Hp} {ρ:En} {σ:Sg} {H:Hp} (I:SI Y B ρ σ H) (i:Nat) {p:Addr} {xs:List V} {ts:List T} (hp:H p=none) (r:Z2 B xs ts):SI Y B (ρ.set i (.ow ts)) (σ.set i (some (.ref p))) (upd H p (.lst xs)) where
 s0:=I.s0
 sH:=I.sH.trans (zN.new hp _)
 sB:=I.sB.trans (zN.new hp _)
 old:=I.old
 len:=by rw [List.length_set,List.length_set]; exact I.len
 vl:=fun j u h=>by
  rcases Z5 h with ⟨rfl,e⟩ | ⟨hj,h'⟩
  ·cases e
  ·obtain ⟨w,e,rr⟩:=I.vl j u h'
   exact ⟨w,by rw [List.getElem?_set_ne (Ne.symm hj)]; exact e,rr⟩
 ow:=fun j us h=>by
  have op:∀ k ws a,ρ[k]? =some (Sl.ow ws)->σ[k]? =some (some (V.ref a))->a ≠ p:=fun k ws a h1 h2=>by
   obtain ⟨a',xs',e,_,_,hh,_⟩:=I.ow k ws h1
   rw [e] at h2; cases h2
   exact Z6 hh hp
  rcases Z5 h with ⟨rfl,e⟩ | ⟨hj,h'⟩
  ·cases e
   refine ⟨p,xs,List.getElem?_set_self (by rw [← I.len]; exact vk h),I.sB.free hp,I.sH.free hp,Zj,r,fun k ws hk hw=> ?_⟩
   rcases Z5 hw with ⟨rfl,e'⟩ | ⟨hk',hw'⟩
   ·exact absurd rfl hk
   ·rw [List.getElem?_set_ne (Ne.symm hk')]
    exact fun z=>op k ws p hw' z rfl
  ·obtain ⟨a,xs',e,b0,h0,hh,rr,d⟩:=I.ow j us h'
   refine ⟨a,xs',by rw [List.getElem?_set_ne (Ne.symm hj)]; exact e,b0,h0,by rw [zF (op j us a h' e)]; exact hh,rr,fun k ws hk hw=> ?_⟩
   rcases Z5 hw with ⟨rfl,e'⟩ | ⟨hk',hw'⟩
   ·rw [List.getElem?_set_self (by rw [← I.len]; exact vk hw)]
    intro z
    exact op j us a h' e (by injection z with z; injection z with z; injection z with z; exact z.symm)
   ·rw [List.getElem?_set_ne (Ne.symm hk')]; exact d k ws hk hw'
 xc:=fun j c h=>by
  rcases Z5 h with ⟨rfl,e⟩ | ⟨hj,h'⟩
  ·cases e
  ·obtain ⟨a,e,r⟩:=I.xc j c h'
   exact ⟨a,by rw [List.getElem?_set_ne (Ne.symm hj)]; exact e,r⟩
theorem SI.chg {Y:Fx} {B:Hp} {ρ:En} {σ:Sg} {H:Hp} (I:SI Y B ρ σ H) (i:Nat) {p:Addr} {ts us:List T} {ys:List V} (hi:ρ[i]? =some (.ow ts)) (he:σ[i]? =some (some (.ref p))) (r:Z2 B ys us):SI Y B (ρ.set i (.ow us)) σ (upd H p (.lst ys)):=by
 obtain ⟨p',xs,e,b0,h0,hh,rr,d⟩:=I.ow i ts hi
 rw [he] at e
 cases e
 have nb:∀ b o,B b=some o->b ≠ p:=fun b o h z=>by subst z; rw [b0] at h; cases h
 have n0:∀ b o,Y.H0 b=some o->b ≠ p:=fun b o h z=>by subst z; rw [h0] at h; cases h
 refine ⟨I.s0,fun b o h=>by rw [zF (n0 b o h)]; exact I.sH b o h,fun b o h=>by rw [zF (nb b o h)]; exact I.sB b o h,I.old,by rw [List.length_set]; exact I.len,fun j u h=> ?_,fun j ws h=> ?_,fun j c h=> ?_⟩
 rotate_right
 ·rcases Z5 h with ⟨rfl,z⟩ | ⟨hj,h'⟩
  ·cases z
  ·exact I.xc j c h'
 ·rcases Z5 h with ⟨rfl,z⟩ | ⟨hj,h'⟩
  ·cases z
  ·exact I.vl j u h'
 ·rcases Z5 h with ⟨rfl,z⟩ | ⟨hj,h'⟩
  ·cases z
   refine ⟨p,ys,he,b0,h0,Zj,r,fun k vs hk hw=> ?_⟩
   rcases Z5 hw with ⟨rfl,e'⟩ | ⟨hk',hw'⟩
   ·exact absurd rfl hk
   ·exact d k vs hk hw'
  ·obtain ⟨a,xs',e,c0,g0,gg,ss,d'⟩:=I.ow j ws h'
   have hne:a ≠ p:=fun z=>by subst z; exact d j ws hj h' e
   refine ⟨a,xs',e,c0,g0,by rw [zF hne]; exact gg,ss,fun k vs hk hw=> ?_⟩
   rcases Z5 hw with ⟨rfl,e'⟩ | ⟨hk',hw'⟩
   ·rw [he]; intro z; injection z with z; injection z with z; injection z with z; exact hne z.symm
   ·exact d' k vs hk hw'
noncomputable def Wv:Sl->Sl
 | .ow ts=> .vl (.lst ts)
 | x=>x
noncomputable def frz (ρ:En):En:=ρ.map Wv
theorem SI.up {Y:Fx} {B:Hp} {ρ:En} {σ:Sg} {H:Hp} (I:SI Y B ρ σ H):zN B (Zo B Y.H0 H):=fun b o h=>by
 cases q:Y.H0 b with
 | none=>rw [ZM q]; exact I.sB b o h
 | some u=>rw [ZU q]; exact h
theorem SI.frz {Y:Fx} {B:Hp} {ρ:En} {σ:Sg} {H:Hp} (I:SI Y B ρ σ H):SI Y (Zo B Y.H0 H) (PV.frz ρ) σ H:=by
 have up:zN B (Zo B Y.H0 H):=fun b o h=>by
  cases q:Y.H0 b with
  | none=>rw [ZM q]; exact I.sB b o h
  | some u=>rw [ZU q]; exact h
 refine ⟨I.s0,I.sH,fun b o h=> ?_,fun b o h=>by rw [ZU h]; exact I.old b o h,by unfold PV.frz; rw [List.length_map]; exact I.len,fun j t h=> ?_,fun j ts h=> ?_,fun j c h=> ?_⟩
 rotate_right
 ·unfold PV.frz at h
  rw [List.getElem?_map] at h
  cases e:ρ[j]? with
  | none=>rw [e] at h; cases h
  | some x=>
   rw [e] at h
   cases x with
   | xc d=>
    cases h
    obtain ⟨a,e1,r⟩:=I.xc j _ e
    exact ⟨a,e1,up a _ r⟩
   | un=>cases h
   | vl _=>cases h
   | ow _=>cases h
 ·cases q:Y.H0 b with
  | none=>rw [ZM q] at h; exact h
  | some u=>rw [ZU q] at h; exact I.sB b o h
 ·unfold PV.frz at h
  rw [List.getElem?_map] at h
  cases e:ρ[j]? with
  | none=>rw [e] at h; cases h
  | some x=>
   rw [e] at h
   cases x with
   | un=>cases h
   | vl u=>
    cases h
    obtain ⟨v,e1,r⟩:=I.vl j _ e
    exact ⟨v,e1,r.mono up⟩
   | ow us=>
    cases h
    obtain ⟨a,xs,e1,b0,h0,hh,rr,_⟩:=I.ow j us e
    exact ⟨.ref a,e1, .lst (by rw [ZM h0]; exact hh) (rr.mono up)⟩
   | xc _=>cases h
 ·unfold PV.frz at h
  rw [List.getElem?_map] at h
  cases e:ρ[j]? with
  | none=>rw [e] at h; cases h
  | some x=>
   rw [e] at h
   cases x with
   | un=>cases h
   | vl u=>cases h
   | ow us=>cases h
   | xc _=>cases h
theorem KM {Y:Fx} {B H H' :Hp} (s0:zN Y.H0 H) (old:∀ b o,Y.H0 b=some o->B b=Y.B0 b) (s:zN H H') (sB:zN B H):zN (Zo B H H') (Zo Y.B0 Y.H0 H'):=fun b o h=>by
 cases q:H b with
 | none=>
  rw [ZM q] at h
  rw [ZM (s0.free q)]; exact h
 | some u=>
  rw [ZU q] at h
  cases z:Y.H0 b with
  | none=>rw [ZM z]; exact s b o (sB b o h)
  | some w=>rw [ZU z,← old b w z]; exact h
section
variable {X:Cx} {Y:Fx} {a b c d:Expr} {fa fb fc fd:En->R T} {pos p:Pos} {st:Stmt} {sts sts' :List Stmt} {f g:En->RS}
noncomputable def nxS:En->RS:=fun ρ=> .nx ρ
noncomputable def zR (f g:En->RS):En->RS:=fun ρ=>match f ρ with
 | .nx ρ' =>g ρ'
 | r=>r
theorem Zh:Q3 X Y [] nxS:= .mk fun ρ=>PSs.imp Xg fun D σ H ⟨B,I,q⟩=>q σ H B (zN.refl B) I
theorem zu (h:yD X Y st f):Q3 X Y [st] f:= .mk fun ρ=>Qx (h ρ)
theorem zj (h1:yD X Y st f) (h2:Q3 X Y sts g):Q3 X Y (st :: sts) (zR f g):= .mk fun ρ=>by
 refine PSs.imp (Vu (u:=fun D σ H=>∃ ρ',tSS Y g ρ' D σ H) (h1 ρ) ?_) ?_
 ·intro pins s σ H D I ⟨ρ',q⟩
  exact h2 ρ' pins s σ H D I q
 ·intro D σ H ⟨B,I,q⟩
  refine ⟨B,I, ?_⟩
  unfold zR at q
  cases e:f ρ with
  | nx ρ' =>
   rw [e] at q
   intro σ' H' B' s' I'
   exact ⟨ρ',B',I',PoS.up s' q⟩
  | rt t=>rw [e] at q; exact q
  | rf t=>rw [e] at q; exact q
  | bk ρ' =>rw [e] at q; exact q
  | ct ρ' =>rw [e] at q; exact q
  | ex c=>rw [e] at q; exact q
  | bad=>rw [e] at q; exact q
noncomputable def Z3 (i:Nat) (fa:En->R T):En->RS:=fun ρ=>(fa ρ).s fun t=> .nx (ρ.set i (.vl t))
theorem ZJ {i:Nat} {x:Str} {p' :Pos} (hN:X.N.Nodup) (hi:X.N[i]? =some x) (hx:L2.Loc X.env.scope x) (ha:Snd X Y a fa) (hs:swapsWith a (some (.Name x p')) pos.line X.env=pure false:=by rfl)
  (hf:X.fn x=true\/X.env.scope.names.lookup x=some .local:=by first | exact .inl rfl | exact .inr rfl | assumption):yD X Y (.Assign [.Name x p'] a pos) (Z3 i fa):= .mk fun ρ=>
 PS.imp (qk hN hi hx (ha ρ) hs hf) fun D σ H ⟨B,I,q⟩=>UJ I q fun t v H1 _ s1 r1 I1 q1=>q1 _ _ _ (zN.refl _) (I1.setV i r1)
noncomputable def vm (i:Nat) (ga:En->R (List T)):En->RS:=fun ρ=>(ga ρ).s fun ts=>if ts.length<=bnd then .nx (ρ.set i (.ow ts)) else .bad
theorem yE {i:Nat} {x:Str} {p' :Pos} {es:List Expr} {ga:En->R (List T)} (hN:X.N.Nodup) (hi:X.N[i]? =some x) (hx:L2.Loc X.env.scope x) (ha:Yz X Y es ga) (hs:swapsWith (.List es p) (some (.Name x p')) pos.line X.env=pure false:=by rfl)
  (hf:X.fn x=true\/X.env.scope.names.lookup x=some .local:=by first | exact .inl rfl | exact .inr rfl | assumption):yD X Y (.Assign [.Name x p'] (.List es p) pos) (vm i ga):= .mk fun ρ=>
 PS.imp (qk hN hi hx (xK (ha ρ)) hs hf) fun D σ H ⟨B,I,q⟩=>UJ I q fun ts vs H1 _ s1 r1 I1 q1=>by
  split at q1
  ·rename_i hb
   exact ⟨by rw [r1.length]; exact JM hb,fun p hp=>q1 _ _ _ (zN.refl _) (I1.newO i hp r1)⟩
  ·exact q1.elim
noncomputable def Zc (fa:En->R T):En->RS:=fun ρ=>(fa (frz ρ)).s fun t=> .rt t
theorem zz (ha:Snd X Y a fa):yD X Y (.Return (some a) pos) (Zc fa):= .mk fun ρ=>
 PS.imp (Kh (ha (frz ρ))) fun D σ H ⟨B,I,q⟩=>by
  refine ⟨_,I.frz, ?_⟩
  unfold Zc at q
  cases e:fa (frz ρ) with
  | bad=>rw [e] at q; exact q
  | ex c=>
   rw [e] at q
   exact fun d H' s0 sG=>q d H' s0 (I.up.trans sG)
  | ok t=>
   rw [e] at q
   intro v H' s r
   have J:=I.frz
   exact q v H' (I.sH.trans s) (r.mono (KM J.sH J.old s J.sB))
noncomputable def ifS (g:En->R Bool) (f1 f2:En->RS):En->RS:=fun ρ=>(g ρ).s fun k=>if k=true then f1 ρ else f2 ρ
theorem Zi {ga:En->R Bool} (hc:Yp X Y c ga) (h1:Q3 X Y sts f) (h2:Q3 X Y sts' g):yD X Y (.If c sts sts' pos) (ifS ga f g):= .mk fun ρ=>
 PS.imp (Gm (hc ρ) (h1 ρ) (h2 ρ)) fun D σ H ⟨B,I,q⟩=>UJ I q fun t v H1 _ s1 r1 I1 q1=>by
  have r1' :v=t:=r1
  subst r1'
  cases v with
  | true=>exact ⟨_,I1,q1⟩
  | false=>exact ⟨_,I1,q1⟩
noncomputable def VL (fa:En->R T):En->RS:=fun ρ=>(fa ρ).s fun _=> .nx ρ
theorem KN (ha:Snd X Y a fa) (hs:swapsWith a none pos.line X.env=pure false:=by rfl):yD X Y (.Expr a pos) (VL fa):= .mk fun ρ=>
 PS.imp (Ys (ha ρ) hs) fun D σ H ⟨B,I,q⟩=>UJ I q fun t v H1 _ s1 r1 I1 q1=>q1 _ _ _ (zN.refl _) I1
noncomputable def G5 (i:Nat) (fa:En->R T):En->RS:=fun ρ=>match ρ[i]? with
 | some (.ow ts)=>(fa ρ).s fun t=>if ts.length < bnd then .nx (ρ.set i (.ow (ts++[t]))) else .bad
 | _=> .bad
noncomputable def VM (i:Nat) (fa:En->R T):En->RS:=fun ρ=>match ρ[i]? with
 | some (.ow ts)=>(fa ρ).s fun t=>match t with
  | .lst us=>if ts.length+us.length<=bnd then .nx (ρ.set i (.ow (ts++us))) else .bad
  | _=> .bad
 | _=> .bad
theorem KO {n:Nat} (h:n < bnd):n < sizeLine:=by rw [sizeLine_eq]; exact h
theorem GJ {i:Nat} {x:Str} {px pa:Pos} (hv:PE X (.Name x px) (Qu i)) (ha:Snd X Y a fa) (hb:attributeBase (.Name x px) "append" X.env (eval (.Name x px) X.env)=eval (.Name x px) X.env:=by rfl) (hs:St1 X a:=by exact st1 rfl)
  (hz:(pa.endLine == p.line)=true:=by rfl) (hw:swapsWith (.Call (.Attribute (.Name x px) "append" pa) [a] [] p) none pos.line X.env=pure false:=by rfl):yD X Y (.Expr (.Call (.Attribute (.Name x px) "append" pa) [a] [] p) pos) (G5 i fa):= .mk fun ρ=>by
 have e1:(((((backTo p (starEach [a] X.env)).all fun x=> !x.fst) && (backToKw p (keywordEach [] X.env)).all fun x=>x.fst.isSome) && decide (([a].length+([]:List Keyword).length+if ([]:List Keyword).isEmpty=true then 0 else 1) < 30))=true):=by rw [hs]; rfl
 refine PS.imp (Ys (QN PySem.F.plainAttrs_list PySem.F.slot_list_append PySem.F.type_list_append yw hv (zO (ha ρ) ZZ hs) hb e1 hz hs rfl) hw) fun D σ H ⟨B,I,q⟩=> ?_
 unfold G5 at q
 split at q
 ·rename_i ts e
  obtain ⟨l,xs,e1,b0,h0,hh,rr,d⟩:=I.ow i ts e
  refine ⟨.ref l,e1, .inl ⟨rfl,_,SqL.of hh⟩, ?_⟩
  refine UJ I q fun t v H1 _ s1 r1 I1 q1=> ?_
  split at q1
  ·rename_i hb
   refine ⟨l,xs,v,rfl,rfl,s1 _ _ hh,by rw [rr.length]; exact KO hb, ?_⟩
   exact q1 _ _ _ (zN.refl _) (I1.chg i e e1 ((rr.mono (Zo.ge I.sB s1)).append (.cons r1 .nil)))
  ·exact q1.elim
 ·exact q.elim
theorem VN {i:Nat} {x:Str} {px pa:Pos} (hv:PE X (.Name x px) (Qu i)) (ha:Snd X Y a fa) (hb:attributeBase (.Name x px) "extend" X.env (eval (.Name x px) X.env)=eval (.Name x px) X.env:=by rfl) (hs:St1 X a:=by exact st1 rfl)
  (hz:(pa.endLine == p.line)=true:=by rfl) (hw:swapsWith (.Call (.Attribute (.Name x px) "extend" pa) [a] [] p) none pos.line X.env=pure false:=by rfl):yD X Y (.Expr (.Call (.Attribute (.Name x px) "extend" pa) [a] [] p) pos) (VM i fa):= .mk fun ρ=>by
 have e1:(((((backTo p (starEach [a] X.env)).all fun x=> !x.fst) && (backToKw p (keywordEach [] X.env)).all fun x=>x.fst.isSome) && decide (([a].length+([]:List Keyword).length+if ([]:List Keyword).isEmpty=true then 0 else 1) < 30))=true):=by rw [hs]; rfl
 refine PS.imp (Ys (QN PySem.F.plainAttrs_list PySem.F.slot_list_extend PySem.F.type_list_extend QO hv (zO (ha ρ) ZZ hs) hb e1 hz hs rfl) hw) fun D σ H ⟨B,I,q⟩=> ?_
 unfold VM at q
 split at q
 ·rename_i ts e
  obtain ⟨l,xs,e1,b0,h0,hh,rr,d⟩:=I.ow i ts e
  refine ⟨.ref l,e1, .inl ⟨rfl,_,SqL.of hh⟩, ?_⟩
  refine UJ I q fun t v H1 _ s1 r1 I1 q1=> ?_
  cases r1 with
  | @lst b zs us hb r=>
   have q1:PoS Y _ (if ts.length+us.length<=bnd then .nx (ρ.set i (.ow (ts++us))) else .bad) D:=q1
   split at q1
   ·rename_i hl
    refine ⟨l,b,xs,zs,rfl,rfl,s1 _ _ hh,I1.sB _ _ hb,by rw [rr.length,r.length]; exact JM hl, ?_⟩
    exact q1 _ _ _ (zN.refl _) (I1.chg i e e1 ((rr.mono (Zo.ge I.sB s1)).append r))
   ·exact q1.elim
  | _=>exact q1.elim
 ·exact q.elim
end
end PV
namespace PV
open PySem PySem.Spec PyProof.Rows L2
noncomputable def spP (cl:Nat->Value) (n:Nat) (g:List T->R T):Sp:=fun vs H Q E=>∃ B ts,ts.length=n/\zN B H/\Z2 B vs ts/\Po ⟨B,H,E,cl⟩ rC B H (g ts) Q
theorem spP.len {cl:Nat->Value} {n:Nat} {g:List T->R T} (vs:List V) (H:Hp) (Q:VK) (E:XK) (h:spP cl n g vs H Q E):vs.length=n:=by
 obtain ⟨B,ts,hl,_,r,_⟩:=h
 rw [r.length,hl]
noncomputable def zd (n:Nat) (g:List T->R T) (ga:En->R (List T)):En->R T:=fun ρ=>(ga ρ).bind fun ts=>if ts.length=n then g ts else .bad
section
variable {X:Cx} {Y:Fx} {a b c d:Expr} {fa fb fc fd:En->R T} {pos p:Pos}
theorem xQ {CX:CXT} {k n:Nat} {f:Addr} {fd:FuncData} {ps:List Str} {g:List T->R T} {x:Str} {es:List Expr} {ga:En->R (List T)} (F:jF X.prog X.w X.K X.mg X.base CX k f fd ps (spP Y.cl n g)) (hr:Wx k X.A) (gl:Gl X x) (mg:X.mg x=some (.ref f))
  (kp:PySem.W.keepIn X.K (.ref f)=true) (bd:L2.Binds X.K fd ps []) (hx:wP CX X Y.E) (ha:Yz X Y (a :: es) ga) (hd:(x == ("__debug__":Str))=false:=by decide)
  (hs:starEach (a :: es) X.env=(false,eval a X.env) :: starEach es X.env:=by exact ZL rfl) (hz:((backTo pos (starEach es X.env)).any fun x=>x.fst)=false:=by exact jP rfl):Snd X Y (.Call (.Name x p) (a :: es) [] pos) (zd n g ga):= .mk fun ρ=>
 PE.imp (QJ F hr gl mg kp bd .nil hx (ha ρ) hd hs hz) fun σ H Q ⟨B,I,q⟩=>step I q fun ts vs H1 _ s1 r1 I1 q1=>by
  split at q1
  ·rename_i hn
   rw [List.append_nil]
   refine ⟨_,ts,hn,I1.sB,r1, ?_⟩
   revert q1
   cases g ts with
   | bad=>exact fun q1=>q1
   | ex c=>exact fun q1 d H' s sB=>q1 d H' (I1.sH.trans s) sB
   | ok t=>exact fun q1=>q1
  ·exact q1.elim
end
noncomputable def zp:RS->R T
 | .rt t=> .ok t
 | .rf ts=> .ok (.lst ts)
 | .nx _=> .ok .non
 | .ex c=> .ex c
 | _=> .bad
noncomputable def en0 (n:Nat) (ts:List T):En:=ts.map Sl.vl++List.replicate (n - ts.length) Sl.un
theorem Z2.vl {H:Hp}:∀ {vs:List V} {ts:List T} {i:Nat} {t:T} {n m:Nat},Z2 H vs ts->(ts.map Sl.vl++List.replicate n Sl.un)[i]? =some (Sl.vl t)->∃ v:V,(vs.map some++List.replicate m none)[i]? =some (some v)/\Rep H v t
 | _,_,i,t,n,m, .nil,h=>by
  exfalso
  simp only [List.map_nil,List.nil_append] at h
  rw [List.getElem?_replicate] at h
  split at h
  ·cases h
  ·cases h
 | _,_,0,t,n,m, .cons r _,h=>by
  simp at h; subst h; exact ⟨_,rfl,r⟩
 | _,_,i+1,t,n,m, .cons _ q,h=>by
  obtain ⟨v,h1,h2⟩:=Z2.vl (i:=i) (t:=t) (n:=n) (m:=m) q (by simpa using h)
  exact ⟨v,by simpa using h1,h2⟩
theorem xR {n:Nat}:∀ {ts:List T} {i:Nat} {us:List T},(ts.map Sl.vl++List.replicate n Sl.un)[i]? =some (Sl.ow us)->False
 | [],i,us,h=>by
  simp only [List.map_nil,List.nil_append] at h
  rw [List.getElem?_replicate] at h
  split at h
  ·cases h
  ·cases h
 | t :: ts,0,us,h=>by simp at h
 | t :: ts,i+1,us,h=>xR (ts:=ts) (i:=i) (us:=us) (n:=n) (by simpa using h)
theorem xS {n:Nat}:∀ {ts:List T} {i:Nat} {c:Nat},(ts.map Sl.vl++List.replicate n Sl.un)[i]? =some (Sl.xc c)->False
 | [],i,us,h=>by
  simp only [List.map_nil,List.nil_append] at h
  rw [List.getElem?_replicate] at h
  split at h
  ·cases h
  ·cases h
 | t :: ts,0,us,h=>by simp at h
 | t :: ts,i+1,us,h=>xS (ts:=ts) (i:=i) (c:=us) (n:=n) (by simpa using h)
theorem SI.start {Y:Fx} {N:List Str} {vs:List V} {ts:List T} (s:zN Y.B0 Y.H0) (r:Z2 Y.B0 vs ts):SI Y Y.B0 (en0 N.length ts) (L2.start N vs) Y.H0 where
 s0:=s
 sH:=zN.refl _
 sB:=s
 old:=fun _ _ _=>rfl
 len:=by unfold en0 L2.start; simp [r.length]
 vl:=fun i t h=>r.vl h
 ow:=fun i ts h=>(xR h).elim
 xc:=fun i c h=>(xS h).elim
section
variable {P:Program} {w:World} {K:PySem.W.Frag} {mg:Str->Option Value} {base:Heap}
theorem j8 {cl:Nat->Value} {x qual:Str} {st:Stmt} {f:Addr} {fd:FuncData} {N ps:List Str} {k n:Nat} {fb:En->RS} {g:List T->R T} (F:Fun K x qual st f fd) (S:zv N ps (ze st)) (hn:n=ps.length)
  (hb:∀ (cdv:Value) (A:Around) (outer:List Env) (s:Shared) (H:Hp) (E:XK) (Y:Fx),Y.cl=cl->Wx k (A.deeper (envOfC qual (ze st) s.heap.objs.size f cdv))->
   Q3 (U2 CX0 P w K mg base N qual (ze st) f cdv A outer s H E).nox Y (jy st) fb)
  (hg:∀ ts,ts.length=n->g ts=zp (fb (en0 N.length ts))):jF P w K mg base CX0 (k+1) f fd ps (spP cl n g):=by
 subst hn
 refine F.ok S spP.len fun cdv A outer s H vs Q E hr ⟨B,ts,hl,sB,r,q⟩=> ?_
 refine ⟨_,hb cdv A outer s H E ⟨B,H,E,cl⟩ rfl hr (en0 N.length ts),B,SI.start (Y:=⟨B,H,E,cl⟩) sB r, ?_⟩
 rw [hg ts hl] at q
 revert q
 cases fb (en0 N.length ts) with
 | rt t=>exact fun q v H' s r=>q v H' s r
 | rf t=>exact fun q a xs H' B' s0 n e r _ l=>q (.ref a) H' s0 (.lst (by rw [ZM n]; exact e) (r.mono l))
 | nx ρ=>exact fun q σ' H' B' _ I=>q .non H' I.sH .non
 | ex c=>exact fun q=>q
 | bk ρ=>exact fun q=>q.elim
 | ct ρ=>exact fun q=>q.elim
 | bad=>exact fun q=>q
end
noncomputable abbrev rI:Hp->Hp->It->List T->Prop:=fun B1 _ J ts=>∀ B2 H2,zN B1 B2->zN B2 H2->(∀ i,i < ts.length->J.go i H2)/\(∀ (i:Nat) t x H3,ts[i]? =some t->J.yld i H2 x H3->zN H2 H3/\Rep (Zo B2 H2 H3) x t)/\(∀ i,ts.length<=i->J.stop i H2)
structure Vn (X:Cx) (Y:Fx) (tg iter:Expr) (f:En->R (List T)):Prop where
 mk ::
 go:∀ ρ,PI X tg iter (tS Y rI f ρ)
noncomputable instance {X:Cx} {Y:Fx} {tg iter:Expr} {f:En->R (List T)}:CoeFun (Vn X Y tg iter f) fun _=>∀ ρ,PI X tg iter (tS Y rI f ρ):=⟨Vn.go⟩
section
variable {X:Cx} {Y:Fx} {a b c d tg:Expr} {fa fb fc fd:En->R T} {pos p:Pos}
theorem PI.imp {e:Expr} {t t' :TI} (h:PI X tg e t) (i:∀ σ H Q,t' σ H Q->t σ H Q):PI X tg e t' :=fun pins s σ H Q I q=>h pins s σ H Q I (i σ H Q q)
theorem KP {K:PySem.W.Frag} {B1 H1:Hp} {a:Addr} {xs:List V} {ts:List T} (h:B1 a=some (.tup xs)) (r:Z2 B1 xs ts):rI B1 H1 (Itt K a) ts:=fun B2 H2 s1 s2=>by
 have h2:=s2 _ _ (s1 _ _ h)
 refine ⟨fun i hi=> ?_,fun i t x H3 e y=> ?_,fun i hi=>⟨xs,SqT.of h2,by rw [r.length]; exact hi⟩⟩
 ·obtain ⟨v,e,_⟩:=r.get (List.getElem?_eq_getElem hi)
  exact ⟨xs,v,SqT.of h2,e⟩
 ·obtain ⟨rfl,y⟩:=y
  obtain ⟨v,e1,r1⟩:=r.get e
  have:=y xs (SqT.of h2)
  rw [e1] at this; cases this
  refine ⟨zN.refl _, ?_⟩
  rw [Zo.self B2 _ s2]
  exact r1.mono s1
theorem KQ {K:PySem.W.Frag} {B1 H1:Hp} {a:Addr} {xs:List V} {ts:List T} (h:B1 a=some (.lst xs)) (r:Z2 B1 xs ts):rI B1 H1 (Itl K a) ts:=fun B2 H2 s1 s2=>by
 have h2:=s2 _ _ (s1 _ _ h)
 refine ⟨fun i hi=> ?_,fun i t x H3 e y=> ?_,fun i hi=>⟨xs,SqL.of h2,by rw [r.length]; exact hi⟩⟩
 ·obtain ⟨v,e,_⟩:=r.get (List.getElem?_eq_getElem hi)
  exact ⟨xs,v,SqL.of h2,e⟩
 ·obtain ⟨rfl,y⟩:=y
  obtain ⟨v,e1,r1⟩:=r.get e
  have:=y xs (SqL.of h2)
  rw [e1] at this; cases this
  refine ⟨zN.refl _, ?_⟩
  rw [Zo.self B2 _ s2]
  exact r1.mono s1
noncomputable def rng (lo:Int) (n:Nat):List T:=(List.range n).map fun (i:Nat)=>T.int (lo+(i:Int))
theorem xT {B1 H1:Hp} {lo:Int} {n:Nat}:rI B1 H1 (Itr lo n) (rng lo n):=fun B2 H2 s1 s2=>by
 have hl:(rng lo n).length=n:=by unfold rng; simp
 refine ⟨fun i hi=>by rw [hl] at hi; exact hi,fun i t x H3 e y=> ?_,fun i hi=>by rw [hl] at hi; exact hi⟩
 obtain ⟨rfl,rfl⟩:=y
 refine ⟨zN.refl _, ?_⟩
 unfold rng at e
 rw [List.getElem?_map] at e
 by_cases hi:i < n
 ·rw [List.getElem?_range hi] at e
  cases e
  exact .int _
 ·rw [List.getElem?_eq_none (by simp; omega)] at e; cases e
noncomputable def jH (fa:En->R T):En->R (List T):=fun ρ=>(fa ρ).bind fun t=>match t with
 | .int j=>if -1000000 < j/\j < 1000000 then .ok (rng 0 j.toNat) else .bad
 | _=> .bad
noncomputable def U7 (fa fb:En->R T):En->R (List T):=fun ρ=>(fa ρ).bind fun t=>(fb ρ).bind fun t' =>match t,t' with
 | .int i, .int j=>if -1000000 < i/\i < 1000000/\ -1000000 < j/\j < 1000000 then .ok (rng i (j - i).toNat) else .bad
 | _,_=> .bad
theorem um (gl:Gl X "range") (mg:X.mg "range"=none) (ha:Snd X Y a fa) (hs:St1 X a:=by exact st1 rfl):Vn X Y tg (.Call (.Name "range" p) [a] [] pos) (jH fa):= .mk fun ρ=>PI.imp (Qz gl mg (zO (ha ρ) ZZ hs) hs) fun σ H R ⟨B,I,q⟩=>step I q fun t v H1 _ s1 r1 I1 q1=>by
 cases r1 with
 | int j=>
  have q1:Po Y rI _ H1 (if -1000000 < j/\j < 1000000 then .ok (rng 0 j.toNat) else .bad) R:=q1
  split at q1
  ·rename_i hj
   exact ⟨j,rfl,by omega,by omega,Jj I1 q1 xT⟩
  ·exact q1.elim
 | _=>exact q1.elim
theorem KR (gl:Gl X "range") (mg:X.mg "range"=none) (ha:Snd X Y a fa) (hb:Snd X Y b fb) (hs:starEach [a,b] X.env=[(false,eval a X.env),(false,eval b X.env)]:=by exact st2 rfl rfl) (hs2:St1 X b:=by exact st1 rfl):Vn X Y tg (.Call (.Name "range" p) [a,b] [] pos) (U7 fa fb):= .mk fun ρ=>
 PI.imp (QA gl mg (zO (ha ρ) (zO (hb ρ) ZZ hs2) (by rw [hs,hs2])) hs hs2) fun σ H R ⟨B,I,q⟩=>step I q fun t v H1 _ s1 r1 I1 q1=>step I1 q1 fun t' v' H2 _ s2 r2 I2 q2=>by
  cases r1 with
  | int i=>
   cases r2 with
   | int j=>
    have q2:Po Y rI _ H2 (if -1000000 < i/\i < 1000000/\ -1000000 < j/\j < 1000000 then .ok (rng i (j - i).toNat) else .bad) R:=q2
    split at q2
    ·rename_i hj
     exact ⟨i,j,rfl,⟨by omega,by omega,by omega,by omega⟩,Jj I2 q2 xT⟩
    ·exact q2.elim
   | _=>exact q2.elim
  | _=>cases r2 <;> exact q2.elim
noncomputable def SndG (X:Cx) (Y:Fx) (tg:Expr) (g:T->En->R En):Prop:=∃ t:TG,PG X tg t/\∀ B ρ σ H v x Q,SI Y B ρ σ H->Rep B v x->(match g x ρ with | .ok ρ' =>∀ σ',SI Y B ρ' σ' H->Q σ' H | _=>False)->t v σ H Q
noncomputable def zG (i:Nat):T->En->R En:=fun t ρ=> .ok (ρ.set i (.vl t))
theorem Wj {i:Nat} {x:Str} (hN:X.N.Nodup) (hi:X.N[i]? =some x) (hx:L2.Loc X.env.scope x) (hf:X.fn x=true\/X.env.scope.names.lookup x=some .local:=by first | exact .inl rfl | exact .inr rfl | assumption):SndG X Y (.Name x pos) (zG i):=
 ⟨qP i,zP hN hi hx hf,fun B ρ σ H v x Q I r q=>q _ (I.setV i r)⟩
noncomputable def jI (i j:Nat):T->En->R En:=fun t ρ=>match t with
 | .tup [x,y]=> .ok ((ρ.set i (.vl x)).set j (.vl y))
 | _=> .bad
noncomputable def Jl (g:T->En->R En) (fb:En->RS):List T->En->RS
 | [],ρ=> .nx ρ
 | t :: ts,ρ=>match g t ρ with
  | .ok ρ1=>match fb ρ1 with
   | .nx ρ2=>Jl g fb ts ρ2
   | .ct ρ2=>Jl g fb ts ρ2
   | .bk ρ2=> .nx ρ2
   | r=>r
  | .ex c=> .bad
  | .bad=> .bad
noncomputable def WN (fi:En->R (List T)) (g:T->En->R En) (fb:En->RS):En->RS:=fun ρ=>(fi ρ).s fun ts=>Jl g fb ts ρ
theorem UK {iter:Expr} {sts:List Stmt} {fi:En->R (List T)} {g:T->En->R En} {fb:En->RS} (hp:PassesOwn (model X.prog X.w) X.A X.env X.xe) (hc:X.calm=true) (hi:Vn X Y tg iter fi) (hg:SndG X Y tg g) (hb:Q3 X Y sts fb)
  (hs:∀ x,foldedSetIterable iter X.env x=pure x:=by intro _; rfl):yD X Y (.For tg iter sts [] pos) (WN fi g fb):= .mk fun ρ=>by
 obtain ⟨tG,hG,hG'⟩:=hg
 refine PS.imp (Kj (tb:=fun D σ H=>∃ ρ',tSS Y fb ρ' D σ H) hp hc (hi ρ) hG (fun pins s σ H D I ⟨ρ',q⟩=>hb ρ' pins s σ H D I q) hs) fun D σ H ⟨B,I,q⟩=> ?_
 refine UJ I q fun ts J H1 _ s1 r1 I1 q1=> ?_
 refine ⟨fun i m σ' H' =>m=ts.length - i/\i<=ts.length/\∃ ρ' B',SI Y B' ρ' σ' H' /\zN (Zo B H H1) B' /\PoS Y B' (Jl g fb (ts.drop i) ρ') D,⟨ts.length,by simp,Nat.zero_le _,ρ,_,I1,zN.refl _,q1⟩, ?_⟩
 rintro i m σ' H' ⟨rfl,hi,ρ',B',I',sB',q'⟩
 obtain ⟨hgo,hyld,hstop⟩:=r1 B' H' sB' I'.sB
 by_cases hlt:i < ts.length
 ·refine .inr ⟨hgo i hlt,fun σ2 H2=>∃ ρ2 B2,SI Y B2 ρ2 σ2 H2/\zN (Zo B H H1) B2/\PoS Y B2 (Jl g fb (ts.drop (i+1)) ρ2) D,fun σ2 H2 ⟨ρ2,B2,I2,s2,q2⟩=>⟨ts.length - (i+1),by omega,rfl,hlt,ρ2,B2,I2,s2,q2⟩,fun x H2 y=> ?_⟩
  obtain ⟨s2,r2⟩:=hyld i _ x H2 (List.getElem?_eq_getElem hlt) y
  rw [List.drop_eq_getElem_cons hlt] at q'
  unfold Jl at q'
  refine hG' _ ρ' σ' H2 x _ _ (I'.grow s2) r2 ?_
  cases eg:g ts[i] ρ' with
  | bad=>rw [eg] at q'; exact q'
  | ex c=>rw [eg] at q'; exact q'
  | ok ρ1=>
   rw [eg] at q'
   intro σ1 J1
   refine ⟨ρ1,_,J1, ?_⟩
   have q2:=PoS.up (Zo.ge I'.sB s2) q'
   dsimp only at q2
   have s3:zN (Zo B H H1) (Zo B' H' H2):=sB'.trans (Zo.ge I'.sB s2)
   revert q2
   cases fb ρ1 with
   | nx ρ2=>exact fun q2 σ3 H3 B3 s4 I3=>⟨ρ2,B3,I3,s3.trans s4,PoS.up s4 q2⟩
   | ct ρ2=>exact fun q2 σ3 H3 B3 s4 I3=>⟨ρ2,B3,I3,s3.trans s4,PoS.up s4 q2⟩
   | bk ρ2=>exact fun q2=>q2
   | rt t=>exact fun q2=>q2
   | rf t=>exact fun q2=>q2
   | ex c=>exact fun q2=>q2
   | bad=>exact fun q2=>q2
 ·have e:i=ts.length:=by omega
  subst e
  rw [List.drop_length] at q'
  exact .inl ⟨hstop _ (Nat.le_refl _),q' σ' H' B' (zN.refl _) I'⟩
end
end PV
namespace PV
open PySem PySem.Spec PyProof.Rows L2
theorem uo {env:Env}:∀ (ns:List (Str×NameKind)) (acc:List (Str×Addr)),(∀ x∈ns,x.2=NameKind.free->∃ c,env.cells.lookup x.1=some c)->(∀ x c,acc.lookup x=some c->env.cells.lookup x=some c)->
  ∃ cl,(forIn ns acc (fun (x:Str×NameKind) (r:List (Str×Addr))=>if (x.2 == NameKind.free)=true then (do let c ← cellOf env x.1; pure (ForInStep.yield ((x.1,c) :: r))) else pure (ForInStep.yield r)):Sem _)=pure cl/\
   (∀ x c,cl.lookup x=some c->env.cells.lookup x=some c)/\(∀ x c,acc.lookup x=some c->∃ c',cl.lookup x=some c')/\(∀ x∈ns,x.2=NameKind.free->∃ c,cl.lookup x.1=some c)
 | [],acc,_,h=>⟨acc,rfl,h,fun x c e=>⟨c,e⟩,fun x hx=>by simp at hx⟩
 | (n,k) :: ns,acc,hf,h=>by
  by_cases hk:k=NameKind.free
  ·obtain ⟨c,hc⟩:=hf (n,k) List.mem_cons_self hk
   have h' :∀ x d,((n,c) :: acc).lookup x=some d->env.cells.lookup x=some d:=fun x d e=>by
    by_cases hx:x=n
    ·subst hx
     have e' :some c=some d:=by simpa [List.lookup_cons] using e
     cases e'; exact hc
    ·have e' :acc.lookup x=some d:=by
      rw [List.lookup_cons,(beq_eq_false_iff_ne.mpr hx)] at e; exact e
     exact h x d e'
   obtain ⟨cl,e,h1,h2,h3⟩:=uo ns ((n,c) :: acc) (fun x hx=>hf x (List.mem_cons_of_mem _ hx)) h'
   refine ⟨cl, ?_,h1,fun x d ed=> ?_,fun x hx hxf=> ?_⟩
   ·rw [List.forIn_cons]
    subst hk
    have q:cellOf env n=pure c:=by unfold cellOf; rw [hc]
    simp only [beq_self_eq_true,if_true,q]
    exact e
   ·by_cases hx:x=n
    ·subst hx; exact h2 x c (by simp [List.lookup_cons])
    ·exact h2 x d (by rw [List.lookup_cons,(beq_eq_false_iff_ne.mpr hx)]; exact ed)
   ·rcases List.mem_cons.mp hx with rfl | hx
    ·exact h2 n c (by simp [List.lookup_cons])
    ·exact h3 x hx hxf
  ·obtain ⟨cl,e,h1,h2,h3⟩:=uo ns acc (fun x hx=>hf x (List.mem_cons_of_mem _ hx)) h
   refine ⟨cl, ?_,h1,h2,fun x hx hxf=> ?_⟩
   ·rw [List.forIn_cons]
    have q:(k == NameKind.free)=false:=by simpa using hk
    simp only [q,Bool.false_eq_true,if_false]
    exact e
   ·rcases List.mem_cons.mp hx with rfl | hx
    ·exact absurd hxf hk
    ·exact h3 x hx hxf
theorem XL {scope:Scope} {env:Env} (hf:∀ x∈scope.names,x.2=NameKind.free->∃ c,env.cells.lookup x.1=some c):
  ∃ cl,closureFor scope env=pure cl/\(∀ x c,cl.lookup x=some c->env.cells.lookup x=some c)/\(∀ x∈scope.names,x.2=NameKind.free->∃ c,cl.lookup x.1=some c):=by
 obtain ⟨cl,e,h1,_,h3⟩:=uo scope.names [] hf (fun x c e=>by simp at e)
 refine ⟨cl, ?_,h1,h3⟩
 unfold closureFor
 show (do let cs ← _; pure cs)=_
 exact (by simpa using e)
noncomputable def cxC (X:Cx) (scope:Scope) (N' :List Str) (cl:List (Str×Addr)) (C:Addr) (s3:Shared) (H3:Hp) (fp:List Addr) (pins:List (Addr×Obj)):Cx:=
 { X with N:=N',s₀:=s3,H₀:=H3,env:=compEnvC scope cl C X.env,outer:=X.stack,stack:=X.stack,ex:=fp,fn:=fun _=>false,pn:=X.pn++pins,xe:=fun _ _=>False }
structure CSc (X:Cx) (scope:Scope):Prop where
 kind:scope.kind= .function
 nocell:∀ x∈scope.names,x.2 ≠ .cell
 loc:∀ x∈scope.names,x.2= .local->scope.names.lookup x.1=some .local
 fre:∀ x∈scope.names,x.2= .free->X.env.kindOf x.1=some .cell\/X.env.kindOf x.1=some .free
theorem Wl {scope:Scope} {env:Env} {x:Str} {k:NameKind} (h:(relabel scope env).names.lookup x=some k) (hk:k= .cell\/k= .free) (hn:∀ x∈scope.names,x.2 ≠ NameKind.cell):∃ y∈scope.names,y.1=x/\y.2= .free:=by
 have go:∀ ns:List (Str×NameKind),(∀ x∈ns,x.2 ≠ NameKind.cell)->(ns.map fun (n,k)=>if (k == NameKind.free && env.scope.kind == .function && env.kindOf n == some .cell) then (n,NameKind.cell) else (n,k)).lookup x=some k->∃ y∈ns,y.1=x/\y.2= .free:=by
  intro ns
  induction ns with
  | nil=>intro _ h; simp at h
  | cons y ns ih=>
   intro hn h
   obtain ⟨n,k'⟩:=y
   by_cases hx:x=n
   ·subst hx
    refine ⟨(x,k'),List.mem_cons_self,rfl, ?_⟩
    rw [List.map_cons] at h
    by_cases hc:(k' == NameKind.free && env.scope.kind == .function && env.kindOf x == some .cell)=true
    ·rw [Bool.and_eq_true,Bool.and_eq_true] at hc
     exact eq_of_beq hc.1.1
    ·simp only [if_neg hc,List.lookup_cons,beq_self_eq_true] at h
     cases h
     rcases hk with rfl | rfl
     ·exact absurd rfl (hn _ List.mem_cons_self)
     ·rfl
   ·obtain ⟨z,hz,h1,h2⟩:=ih (fun z hz=>hn z (List.mem_cons_of_mem _ hz)) (by
     rw [List.map_cons] at h
     by_cases hc:(k' == NameKind.free && env.scope.kind == .function && env.kindOf n == some .cell)=true
     ·simp only [if_pos hc,List.lookup_cons,(beq_eq_false_iff_ne.mpr hx)] at h; exact h
     ·simp only [if_neg hc,List.lookup_cons,(beq_eq_false_iff_ne.mpr hx)] at h; exact h)
    exact ⟨z,List.mem_cons_of_mem _ hz,h1,h2⟩
 exact go scope.names hn h
section
variable {X:Cx} {pins:List (Addr×Obj)} {σ:Sg} {H:Hp} {s:Shared}
theorem vn {scope:Scope} {N' :List Str} {cl:List (Str×Addr)} {fp:List Addr} {h' :Heap} {tk:Nat} {σ' :Sg} (I:L2.Inv X pins σ H s) (S:CSc X scope) (hc:X.calm=true)
  (hcl:∀ x c,cl.lookup x=some c->X.env.cells.lookup x=some c) (hcf:∀ x∈scope.names,x.2=NameKind.free->∃ c,cl.lookup x.1=some c)
  (hfp:∀ b∈fp,Yt X pins H b) (hfo:∀ b∈fp,∃ o,s.heap.get? b=some o)
  (hns:h'.Ns s.heap.objs.size (fun _=>none)) (hk:∀ b o,s.heap.get? b=some o->h'.get? b=some o)
  (hl:σ'.length=N'.length) (hσ:∀ (i:Nat) (x:Str) (v:V),N'[i]? =some x->σ'[i]? =some (some v)->∃ j:Nat,X.N[j]? =some x/\σ[j]? =some (some v)/\Vis X.env.scope x/\(scope.names.lookup x=some .free)/\(X.env.kindOf x=some .cell\/X.env.kindOf x=some .free)):
  L2.Inv (cxC X scope N' cl s.heap.objs.size s H fp pins) [] σ' H { s with heap:=h',toks:=tk }:=by
 have stk:=I.stkSub
 have hlt:∀ b∈fp,b < s.heap.objs.size:=fun b hb=>let ⟨o,e⟩:=hfo b hb; Heap.lt_size e
 have fresh:H s.heap.objs.size=none:=I.hok.fresh (Nat.le_refl _)
 refine ⟨⟨I.ok.mod,S.kind,I.ok.glob,I.ok.blt,Nat.le_refl _,fun x y c h1 h2=>I.ok.inj x y c (hcl _ _ h1) (hcl _ _ h2),fun x hx=> ?_,fun x c h _=>(Bool.false_ne_true h).elim,fun _=>I.ok.hd hc,I.ok.frames, .inl rfl,fun b hb=> ?_,I.bs,
   Nat.le_trans I.ok.bsz I.sz,fun b o e hb=> ?_,fun b hb hb' => ?_,I.stack,I.stkFree⟩,rfl,I.bare,Un.kept hk,⟨_,hns,fun i x v h1 h2 h3=> ?_⟩,fun x c e=> ?_,fresh,fun x c e=>I.freeC x c (hcl _ _ e),fun p hp=> ?_,I.hok.kept hk,hl⟩
 ·have hx' :(relabel scope X.env).names.lookup x=some .cell\/(relabel scope X.env).names.lookup x=some .free:=hx
  obtain ⟨y,hy,rfl,hyf⟩:∃ y∈scope.names,y.1=x/\y.2= .free:=by
   rcases hx' with h | h
   ·exact Wl h (.inl rfl) S.nocell
   ·exact Wl h (.inr rfl) S.nocell
  exact hcf y hy hyf
 ·refine ⟨Nat.ne_of_lt (hlt b hb),fun x c e=>(hfp b hb).2.2.2.2.1 x c (hcl _ _ e)⟩
 ·rcases (hfp b hb).2.2.2.1 with h | h
  ·exact I.ok.noex b o e h
  ·exact absurd (Nat.lt_of_lt_of_le (Heap.lt_size e) (Nat.le_trans I.ok.bsz h)) (Nat.lt_irrefl _)
 ·have q:=hfp b hb
  rcases List.mem_cons.mp (stk b hb') with z | z
  ·exact q.2.1 z
  ·exact q.2.2.1 z
 ·obtain ⟨j,e1,e2,e3,e4,e5⟩:=hσ i x v h1 h2
  obtain ⟨m,hn,hloc⟩:=I.loc
  obtain ⟨u,ru,lk⟩:=hloc j x v e1 e2 e3
  refine ⟨u,ru, .inr ⟨?_, ?_⟩⟩
  ·have h3:Vis (relabel scope X.env) x:=h3
   rcases h3 with h | h | h
   ·exfalso
    have:∀ ns:List (Str×NameKind),ns.lookup x=some .free->(ns.map fun (n,k)=>if (k == NameKind.free && X.env.scope.kind == .function && X.env.kindOf n == some .cell) then (n,NameKind.cell) else (n,k)).lookup x ≠ some .local:=by
     intro ns
     induction ns with
     | nil=>intro z; simp at z
     | cons y ns ih=>
      obtain ⟨n,k⟩:=y
      intro z w
      rw [List.map_cons] at w
      by_cases hx:x=n
      ·subst hx
       have hkf:some k=some NameKind.free:=by simpa [List.lookup_cons] using z
       by_cases hcn:(k == NameKind.free && X.env.scope.kind == .function && X.env.kindOf x == some .cell)=true
       ·simp only [if_pos hcn,List.lookup_cons,beq_self_eq_true] at w; cases w
       ·simp only [if_neg hcn,List.lookup_cons,beq_self_eq_true] at w
        rw [hkf] at w; cases w
      ·have z' :ns.lookup x=some .free:=by rw [List.lookup_cons,(beq_eq_false_iff_ne.mpr hx)] at z; exact z
       refine ih z' ?_
       by_cases hcn:(k == NameKind.free && X.env.scope.kind == .function && X.env.kindOf n == some .cell)=true
       ·simp only [if_pos hcn,List.lookup_cons,(beq_eq_false_iff_ne.mpr hx)] at w; exact w
       ·simp only [if_neg hcn,List.lookup_cons,(beq_eq_false_iff_ne.mpr hx)] at w; exact w
    exact this _ e4 h
   ·exact .inl h
   ·exact .inr h
  ·rcases lk with ⟨hk',_⟩ | ⟨_,c,hc',hcell⟩
   ·rcases e5 with z | z <;> (rw [z] at hk'; cases hk')
   ·obtain ⟨c',hc2⟩:=hcf (x, .free) (PySem.mem_of_lookup e4) rfl
    have:=hcl x c' hc2
    rw [hc'] at this; cases this
    obtain ⟨o,eo,ed⟩:=hcell
    exact ⟨c,hc2,o,hk _ _ eo,ed⟩
 ·obtain ⟨v,o,eo,ed⟩:=I.cell x c (hcl _ _ e)
  exact ⟨v,o,hk _ _ eo,ed⟩
 ·have hp' :p∈X.pn++pins:=by
   have:p∈(X.pn++pins)++[]:=hp
   rwa [List.append_nil] at this
  obtain ⟨e,n,ne,nf,dc⟩:=I.pin p hp'
  refine ⟨hk _ _ e,n,Nat.ne_of_lt (Heap.lt_size e),fun hb=> ?_,dc⟩
  rcases List.mem_cons.mp (stk _ hb) with z | z
  ·exact ne z
  ·exact nf z
end
end PV
namespace PV
open PySem PySem.Spec PyProof.Rows L2
noncomputable def PIf (X:Cx) (ifs:List Expr) (t:TT):Prop:=
 ∀ (pins:List (Addr×Obj)) (s:Shared) (σ:Sg) (H:Hp) (Q:Bool->Hp->Prop),L2.Inv X pins σ H s->t σ H Q->
  wpAny (model X.prog X.w) X.A (forIn ifs true fun c r=>if r=true then do let ok ← isTrue c X.env (eval c X.env); pure (ForInStep.yield ok) else pure (ForInStep.yield r)) (TP X pins σ Q) X.xe s
theorem XM {X:Cx}:PIf X [] (fun _ H Q=>Q true H):=fun _ _ σ H _ I h=>wpAny_tests_nil ⟨H,I,h⟩
theorem XN {X:Cx} {c:Expr} {t:TT} (h:PT X c t):PIf X [c] t:=fun pins s σ H Q I q=>wpAny_tests_one (h pins s σ H Q I q)
theorem UL {α:Type} {M:Model} {A:Around} {m:Sem α} {Q:α->Shared->Prop} {E E' :Value->Shared->Prop} {s:Shared} (hE:E' =fun _ _=>False) (h:wpAny M A m Q E' s):wpAny M A m Q E s:=wpAny_mono h (fun _ _ q=>q) fun e s' z=>by
 rw [hE] at z; exact z.elim
noncomputable def XO (J:It) (D:Addr) (g:TG) (tt:TT) (te:TE) (fin:Sg->Hp->Prop) (W:Nat->Nat->List V->Sg->Hp->Prop):Prop:=
 ∀ i m ys σ H,W i m ys σ H->H D=some (.lst ys)/\((J.stop i H/\fin σ H)\/(J.go i H/\∀ x H2,J.yld i H x H2->g x σ H2 fun σ3 H3=>tt σ3 H3 fun k H4=>
  if k=true then te σ3 H4 fun v H5=>H5 D=some (.lst ys)/\ys.length < sizeLine/\∃ m',m' < m/\W (i+1) m' (ys++[v]) σ3 (upd H5 D (.lst (ys++[v]))) else ∃ m',m' < m/\W (i+1) m' ys σ3 H4))
theorem vo {X:Cx} (hx:X.xe=fun _ _=>False) (hc:X.calm=true) {tg iter elt:Expr} {ifs:List Expr} {scope:Scope} {pos:Pos} {J:It} {fp:List Addr} {it:Addr} {tn:Nat->Heap->Prop} (TJ:Vv X.prog X.w X.K tg J fp it tn)
  {g:TG} {tt:TT} {te:TE} (hg:PG X tg g) (ht:PIf X ifs tt) (he:PE X elt te) {D:Addr} {R:Result->Shared->Prop} {fin:Sg->Hp->Prop} (W:Nat->Nat->List V->Sg->Hp->Prop) (turn:XO J D g tt te fin W)
  (hR:∀ s σ H,L2.Inv X [] σ H s->fin σ H->R (.ok .next) s) {m0:Nat} {σ0:Sg} {H0:Hp} {s0:Shared} (w0:W 0 m0 [] σ0 H0) (I0:L2.Inv X [] σ0 H0 s0) (t0:tn 0 s0.heap) (f0:∀ b∈fp,Yt X [] H0 b):
  codeAny (model X.prog X.w) X.A (.compLoop (.ListComp elt [⟨tg,iter,ifs,0⟩] scope pos) 0 (.ref it) (.ref D) X.env) R s0:=by
 have stat:∀ {H' :Hp},(∀ b∈fp,H' b=none)->∀ b∈fp,Yt X [] H' b:=fun hn b hb=>⟨hn b hb,(f0 b hb).2⟩
 refine codeAny_loop rfl (fun n s' =>∃ i ys σ' H',L2.Inv X [] σ' H' s' /\tn i s'.heap/\(∀ b∈fp,H' b=none)/\W i n ys σ' H') (fun n s3 h3=> ?_) m0 ⟨0,[],σ0,H0,I0,t0,fun b hb=>(f0 b hb).1,w0⟩
 obtain ⟨i,ys,σ3,H3,I3,st3,fr3,w3⟩:=h3
 show wpAny _ X.A ((compTurn (.ListComp elt [⟨tg,iter,ifs,0⟩] scope pos) 0 (.ref it) (.ref D) X.env).onRaise (fun x=>do noteFrame x X.env; theTreesLotGoes x)) _ _ s3
 refine wpAny_noted ?_
 rw [compTurn_list]
 obtain ⟨hD,h⟩:=turn i n ys σ3 H3 w3
 rcases h with ⟨stop,qn⟩ | ⟨go,next⟩
 ·refine wpAny_bind (wpAny_standAt (wpAny_bind (thn (TJ.done X rfl rfl rfl hc i [] s3 σ3 H3 _ I3 (stat fr3) st3 stop) fun r s4 ⟨hr,I4⟩=> ?_)))
  subst hr
  exact wpAny_pure (hR s4 σ3 H3 I4 qn)
 ·refine wpAny_bind (wpAny_standAt (wpAny_bind (thn (TJ.item X rfl rfl rfl hc i [] s3 σ3 H3 _ I3 (stat fr3) st3 go) fun r s4 ⟨u,hr,h4⟩=> ?_)))
  subst hr
  refine wpAny_bind (thn h4 fun _ s5 ⟨x,H5,I5,r5,y5,st5,fr5⟩=> ?_)
  have I5' :=I5.pinned (stat fr5) (TJ.obj _ _ st5)
  refine wpAny_bind (UL hx (thn (hg _ s5 σ3 H5 x u _ I5' r5 (next x H5 y5)) fun _ s6 ⟨σ6,H6,I6,q6⟩=> ?_))
  have again:∀ {σ7:Sg} {H7:Hp} {s7:Shared} {ys' :List V},L2.Inv X ([]++ym fp s5.heap) σ7 H7 s7->(∃ m',m' < n/\W (i+1) m' ys' σ7 H7)->∃ m,m < n/\∃ i ys σ' H',L2.Inv X [] σ' H' s7/\tn i s7.heap/\(∀ b∈fp,H' b=none)/\W i m ys σ' H' :=fun {σ7 H7 s7 ys'} I7 ⟨m',hm,w7⟩=>by
   refine ⟨m',hm,i+1,ys',σ7,H7,I7.unpinned,TJ.keep _ _ _ st5 fun b hb o e=>(I7.pin (b,o) (List.mem_append_right _ (List.mem_append_right _ (wE hb e)))).1,fun b hb=> ?_,w7⟩
   obtain ⟨o,e,d⟩:=TJ.obj _ _ st5 b hb
   exact (I7.pin (b,o) (List.mem_append_right _ (List.mem_append_right _ (wE hb e)))).2.1
  refine wpAny_bind (UL hx (thn (ht _ s6 σ6 H6 _ I6 q6) fun k s7 ⟨H7,I7,q7⟩=> ?_))
  cases k with
  | false=>exact wpAny_pure ⟨rfl,again I7 q7⟩
  | true=>
   refine wpAny_bind (wpAny_bind (UL hx (thn (he _ s7 σ6 H7 _ I7 q7) fun v s8 ⟨y,H8,I8,r8,hD8,hlen,q8⟩=> ?_)))
   refine wpAny_bind (UL hx (thn (yw _ s8 σ6 H8 (.ref D) [y] (.ref D) [v] (fun _ H9=>∃ m',m' < n/\W (i+1) m' (ys++[y]) σ6 H9) I8 rfl (.cons r8 .nil) ⟨D,ys,y,rfl,rfl,hD8,hlen,q8⟩) fun w s9 ⟨_,H9,I9,_,q9⟩=> ?_))
   exact wpAny_pure (wpAny_pure ⟨rfl,again I9 q9⟩)
noncomputable def xU (k:Nat) (js:List Nat) (σ:Sg):Sg:=List.replicate k none++js.map fun j=>(σ[j]?).getD none
section
variable {X:Cx}
noncomputable abbrev VO (X:Cx) (scope:Scope) (N' :List Str) (P:Cx->Prop):Prop:=∀ cl C s3 H3 fp pins,P (cxC X scope N' cl C s3 H3 fp pins)
structure GK (X:Cx) (scope:Scope) (N' :List Str) (k:Nat) (js:List Nat):Prop where
 len:N'.length=k+js.length
 cap:∀ (i j:Nat),js[i]? =some j->∃ x,N'[k+i]? =some x/\X.N[j]? =some x/\Vis X.env.scope x/\scope.names.lookup x=some .free/\(X.env.kindOf x=some .cell\/X.env.kindOf x=some .free)
theorem qu {tg iter elt:Expr} {ifs:List Expr} {scope:Scope} {pos pos' :Pos} {N' :List Str} {k:Nat} {js:List Nat} {wi:TI} {g:TG} {tt:TT} {te:TE} {use:Option (Value->Sem Unit)} (S:CSc X scope) (CP:GK X scope N' k js) (hc:X.calm=true)
  (hi:PI X tg iter wi) (hg:VO X scope N' fun XC=>PG XC tg g) (ht:VO X scope N' fun XC=>PIf XC ifs tt) (he:VO X scope N' fun XC=>PE XC elt te) {pins:List (Addr×Obj)} {σ:Sg} {H:Hp} {s:Shared} {Q:Value->Shared->Prop} {F:Addr->Hp->Prop} (I:L2.Inv X pins σ H s)
  (h:wi σ H fun J H1=>∀ D,H1 D=none->∃ W,(∃ m,W 0 m [] (xU k js σ) (upd H1 D (.lst [])))/\XO J D g tt te (fun _ H' =>F D H') W)
  (hQ:∀ D C H' s',L2.Inv X pins σ H' s' ->F D H' ->H' C=none->(X.s₀.heap.objs.size<=C)->C ≠ X.env.locals->(∀ x c,X.env.cells.lookup x=some c->c ≠ C)->(∀ p∈X.pn++pins,p.1 ≠ C)->(∃ m,s'.heap.Ns C m)->compPost (model X.prog X.w) X.A X.xe use Q (.ref D) C (.ok .next) s')
  (hs:∀ x,foldedSetIterable iter X.env x=pure x:=by intro _; rfl):
  wpAny (model X.prog X.w) X.A (comprehension (.ListComp elt [⟨tg,iter,ifs,0⟩] scope pos) scope X.env pos' (newList []) false (eval iter X.env) use) Q X.xe s:=by
 obtain ⟨cl,ecl,hcl,hcf⟩:=XL (scope:=scope) (env:=X.env) fun x hx hf=>I.ok.has x.1 (S.fre x hx hf)
 refine wpAny_comprehension_free rfl hs ecl S.kind S.loc ?_
 refine thn (hi pins s σ H _ I h) fun v s1 h1=>thn h1 fun itv s2 h2=> ?_
 obtain ⟨it,fp,tn,J,H2,e,I2,TJ,st2,f2,q2⟩:=h2
 subst e
 refine wpAny_newObj_type ?_
 have hD:H2 s2.heap.objs.size=none:=I2.hok.fresh (Nat.le_refl _)
 have I3:L2.Inv X pins σ (upd H2 s2.heap.objs.size (.lst [])) { s2 with heap:=s2.heap.push { cls:= .type "list",data:= .seq ([]:List Value).toArray } }:=
  I2.laid (t' :=s2.toks) (fun b u e=>Heap.get?_push_of_some _ e) (Nat.le_refl _) ⟨Nat.zero_le _,[],_, .nil,Heap.get?_push_size _ rfl⟩
 obtain ⟨W,⟨m0,w0⟩,turn⟩:=q2 s2.heap.objs.size hD
 have f3:∀ b∈fp,Yt X pins (upd H2 s2.heap.objs.size (.lst [])) b:=fun b hb=>by
  obtain ⟨o,eo,_⟩:=TJ.obj _ _ st2 b hb
  exact ⟨by rw [zF (Nat.ne_of_lt (Heap.lt_size eo))]; exact (f2 b hb).1,(f2 b hb).2⟩
 have o3:∀ b∈fp,∃ o,(s2.heap.push { cls:= .type "list",data:= .seq ([]:List Value).toArray }).get? b=some o:=fun b hb=>by
  obtain ⟨o,eo,_⟩:=TJ.obj _ _ st2 b hb
  exact ⟨o,Heap.get?_push_of_some _ eo⟩
 refine wpAny_newFunctionEnv S.nocell (by intro y hy; simp at hy) (fun h4 hns4 hsb4=> ?_) S.kind
 generalize hG:s2.heap.push { cls:= .type "list",data:= .seq ([]:List Value).toArray }=G3 at I3 o3 hns4 hsb4 ⊢
 dsimp only at hns4 hsb4 ⊢
 have s3e:∃ s3:Shared,s3={ s2 with heap:=G3 }:=⟨_,rfl⟩
 obtain ⟨s3,es3⟩:=s3e
 have hh3:s3.heap=s2.heap.push { cls:= .type "list",data:= .seq ([]:List Value).toArray }:=by rw [es3,hG]
 have hg3:G3=s3.heap:=by rw [es3]
 rw [← es3] at I3
 have ht3:s2.toks=s3.toks:=by rw [es3]
 rw [hg3] at hns4 hsb4 o3
 have k4:∀ b o,s3.heap.get? b=some o->h4.get? b=some o:=fun b o e=>hsb4.extBut b o (Nat.ne_of_lt (Heap.lt_size e)) (Heap.get?_push_of_some _ e)
 have IC:=vn (N' :=N') (cl:=cl) (fp:=fp) (σ' :=xU k js σ) (tk:=s3.toks+([]:List (Str×Value)).length) I3 S hc hcl hcf f3 o3 hns4 k4 (by unfold xU; simp [CP.len]) (fun i x v h1 h2=>by
  unfold xU at h2
  by_cases hik:i < k
  ·rw [List.getElem?_append_left (by simpa using hik),List.getElem?_replicate,if_pos hik] at h2
   cases h2
  ·have hk' :k<=i:=by omega
   rw [List.getElem?_append_right (by simpa using hk'),List.length_replicate,List.getElem?_map] at h2
   cases ej:js[i - k]? with
   | none=>rw [ej] at h2; cases h2
   | some j=>
    rw [ej] at h2
    obtain ⟨y,e1,e2,e3,e4,e5⟩:=CP.cap (i - k) j ej
    have:k+(i - k)=i:=by omega
    rw [this,h1] at e1
    cases e1
    refine ⟨j,e2, ?_,e3,e4,e5⟩
    have h2' :some ((σ[j]?).getD none)=some (some v):=h2
    cases ez:σ[j]? with
    | none=>rw [ez] at h2'; cases h2'
    | some z=>rw [ez] at h2'; exact congrArg some (Option.some.inj h2'))
 have TC:Vv (cxC X scope N' cl s3.heap.objs.size s3 (upd H2 s2.heap.objs.size (.lst [])) fp pins).prog (cxC X scope N' cl s3.heap.objs.size s3 (upd H2 s2.heap.objs.size (.lst [])) fp pins).w (cxC X scope N' cl s3.heap.objs.size s3 (upd H2 s2.heap.objs.size (.lst [])) fp pins).K tg J fp it tn:=TJ
 have t4:tn 0 h4:=TJ.keep _ _ _ st2 fun b hb o e=>k4 b o (by rw [hh3]; exact Heap.get?_push_of_some _ e)
 have fC:∀ b∈fp,Yt (cxC X scope N' cl s3.heap.objs.size s3 (upd H2 s2.heap.objs.size (.lst [])) fp pins) [] (upd H2 s2.heap.objs.size (.lst [])) b:=fun b hb=>by
  obtain ⟨q0,q1,q2,q3,q4,q5⟩:=f3 b hb
  obtain ⟨o,eo⟩:=o3 b hb
  refine ⟨q0,Nat.ne_of_lt (Heap.lt_size eo),fun hb' => ?_, .inl hb,fun x c e=>q4 x c (hcl _ _ e),fun p hp=> ?_⟩
  ·rcases List.mem_cons.mp (I3.stkSub b hb') with z | z
   ·exact q1 z
   ·exact q2 z
  ·exact q5 p (by
    have:p∈(X.pn++pins)++[]:=hp
    rwa [List.append_nil] at this)
 have fin:∀ (s5:Shared) (σ5:Sg) (H5:Hp),L2.Inv (cxC X scope N' cl s3.heap.objs.size s3 (upd H2 s2.heap.objs.size (.lst [])) fp pins) [] σ5 H5 s5->F s2.heap.objs.size H5->compPost (model X.prog X.w) X.A X.xe use Q (.ref s2.heap.objs.size) s3.heap.objs.size (.ok .next) s5:=fun s5 σ5 H5 I5 q5=>by
  have J5:L2.Inv X pins σ H5 s5:=I3.call' (ch:=fp) I5.os I5.base I5.hok I5.bare fun b hb=>by
   obtain ⟨q0,q1,q2,q3,q4,q5⟩:=f3 b hb
   exact ⟨q3,q1,q4,q5⟩
  refine hQ _ _ H5 s5 J5 q5 I5.free I3.sz (Nat.ne_of_gt I3.lt) (fun x c e z=> ?_) (fun p hp z=> ?_) (let ⟨m,hm,_⟩:=I5.loc; ⟨m,hm⟩)
  ·obtain ⟨v',o,eo,_⟩:=I3.cell x c e
   exact absurd (Heap.lt_size eo) (by rw [z]; exact Nat.lt_irrefl _)
  ·exact absurd (Heap.lt_size (I3.pin p hp).1) (by rw [z]; exact Nat.lt_irrefl _)
 have loop:=vo (X:=cxC X scope N' cl s3.heap.objs.size s3 (upd H2 s2.heap.objs.size (.lst [])) fp pins) (iter:=iter) (scope:=scope) (pos:=pos) (R:=compPost (model X.prog X.w) X.A X.xe use Q (.ref s2.heap.objs.size) s3.heap.objs.size) rfl hc TC (hg _ _ _ _ _ _) (ht _ _ _ _ _ _) (he _ _ _ _ _ _) W turn fin w0 IC t4 fC
 rw [es3] at loop
 exact codeAny_compStart_list loop (TJ.self _ _ _ _ _ t4 loop)
end
end PV
namespace PV
open PySem PySem.Spec PyProof.Rows L2
noncomputable def zY (g:T->En->R En) (ft:En->R Bool) (fe:En->R T):List T->En->R (List T)
 | [],_=> .ok []
 | t :: ts,ρ=>(g t ρ).bind fun ρ1=>(ft ρ1).bind fun k=>if k=true then (fe ρ1).bind fun v=>(zY g ft fe ts ρ1).bind fun vs=> .ok (v :: vs) else zY g ft fe ts ρ1
noncomputable def VP:Option Sl->Sl
 | some (.vl t)=> .vl t
 | _=> .un
noncomputable def Uo (k:Nat) (js:List Nat) (ρ:En):En:=List.replicate k .un++js.map fun j=>VP ρ[j]?
noncomputable def quiet {α:Type}:R α->R α
 | .ok a=> .ok a
 | _=> .bad
noncomputable def zT (g:T->En->R En) (ft:En->R Bool) (fe:En->R T) (k:Nat) (js:List Nat) (ρ:En) (ts:List T):R (List T):=if ts.length<=bnd then quiet (zY g ft fe ts (Uo k js ρ)) else .bad
noncomputable def Zf (fi:En->R (List T)) (g:T->En->R En) (ft:En->R Bool) (fe:En->R T) (k:Nat) (js:List Nat):En->R T:=fun ρ=>(fi ρ).bind fun ts=>(zT g ft fe k js ρ ts).bind fun vs=> .ok (.lst vs)
noncomputable def GOk (tG:TG) (g:T->En->R En):Prop:=∀ Y B ρ σ H v x Q,SI Y B ρ σ H->Rep B v x->(match g x ρ with | .ok ρ' =>∀ σ',SI Y B ρ' σ' H->Q σ' H | _=>False)->tG v σ H Q
theorem Z0 (i:Nat):GOk (qP i) (zG i):=fun Y B ρ σ H v x Q I r q=>q _ (I.setV i r)
theorem ub (K:PySem.W.Frag) (i j:Nat):GOk (gTup K 2 (Xh (qP i) (Xh (qP j) gNil))) (jI i j):=fun Y B ρ σ H v t Q I r q=>by
 cases r with
 | @tup l xs ts h r=>
  cases r with
  | nil=>exact q.elim
  | cons r1 rr=>
   cases rr with
   | nil=>exact q.elim
   | cons r2 rr=>
    cases rr with
    | cons _ _=>exact q.elim
    | nil=>exact ⟨l,_,rfl,SqT.of (I.sB _ _ h),rfl,_,_,rfl,_,_,rfl,rfl,q _ ((I.setV i r1).setV j r2)⟩
 | _=>exact q.elim
theorem SI.block {Y:Fx} {B:Hp} {ρ:En} {σ:Sg} {H H3:Hp} {D:Addr} (I:SI Y B ρ σ H) (k:Nat) (js:List Nat) (E:XK) (hD:H D=none) (o:HO):SI ⟨B,H,E,Y.cl⟩ B (Uo k js ρ) (xU k js σ) (upd H D o) where
 s0:=I.sB
 sH:=zN.new hD _
 sB:=I.sB.trans (zN.new hD _)
 old:=fun _ _ _=>rfl
 len:=by unfold Uo xU; simp
 vl:=fun i t h=>by
  unfold Uo at h
  unfold xU
  by_cases hik:i < k
  ·rw [List.getElem?_append_left (by simpa using hik),List.getElem?_replicate,if_pos hik] at h; cases h
  ·have hk' :k<=i:=by omega
   rw [List.getElem?_append_right (by simpa using hk'),List.length_replicate,List.getElem?_map] at h ⊢
   cases ej:js[i - k]? with
   | none=>rw [ej] at h; cases h
   | some j=>
    rw [ej] at h
    have h' :VP ρ[j]? = .vl t:=Option.some.inj h
    unfold VP at h'
    split at h'
    ·rename_i u e
     cases h'
     obtain ⟨v,e1,r⟩:=I.vl j _ e
     exact ⟨v,by show some ((σ[j]?).getD none)=_; rw [e1]; rfl,r⟩
    ·cases h'
 ow:=fun i ts h=>by
  exfalso
  unfold Uo at h
  by_cases hik:i < k
  ·rw [List.getElem?_append_left (by simpa using hik),List.getElem?_replicate,if_pos hik] at h; cases h
  ·have hk' :k<=i:=by omega
   rw [List.getElem?_append_right (by simpa using hk'),List.length_replicate,List.getElem?_map] at h
   cases ej:js[i - k]? with
   | none=>rw [ej] at h; cases h
   | some j=>
    rw [ej] at h
    have h' :VP ρ[j]? = .ow ts:=Option.some.inj h
    unfold VP at h'
    split at h' <;> cases h'
 xc:=fun i c h=>by
  exfalso
  unfold Uo at h
  by_cases hik:i < k
  ·rw [List.getElem?_append_left (by simpa using hik),List.getElem?_replicate,if_pos hik] at h; cases h
  ·have hk' :k<=i:=by omega
   rw [List.getElem?_append_right (by simpa using hk'),List.length_replicate,List.getElem?_map] at h
   cases ej:js[i - k]? with
   | none=>rw [ej] at h; cases h
   | some j=>
    rw [ej] at h
    have h' :VP ρ[j]? = .xc c:=Option.some.inj h
    unfold VP at h'
    split at h' <;> cases h'
theorem SI.acc {Y:Fx} {B:Hp} {ρ:En} {σ:Sg} {H:Hp} {D:Addr} (I:SI Y B ρ σ H) (hb:B D=none) (h0:Y.H0 D=none) (ho:∀ (i:Nat) (ts:List T),ρ[i]? =some (Sl.ow ts)->σ[i]? ≠ some (some (V.ref D))) (o:HO):SI Y B ρ σ (upd H D o) where
 s0:=I.s0
 sH:=fun b u h=>by
  rw [zF (fun z=>by subst z; rw [h0] at h; cases h)]; exact I.sH b u h
 sB:=fun b u h=>by
  rw [zF (fun z=>by subst z; rw [hb] at h; cases h)]; exact I.sB b u h
 old:=I.old
 len:=I.len
 vl:=I.vl
 ow:=fun i ts h=>by
  obtain ⟨a,xs,e,b0,h0',hh,r,d⟩:=I.ow i ts h
  refine ⟨a,xs,e,b0,h0', ?_,r,d⟩
  rw [zF (fun z=>ho i ts h (by rw [e,z]))]; exact hh
 xc:=I.xc
noncomputable def XQ (ρ:En):Prop:=∀ (i:Nat) (ts:List T),ρ[i]? ≠ some (Sl.ow ts)
theorem VQ (k:Nat) (js:List Nat) (ρ:En):XQ (Uo k js ρ):=fun i ts h=>by
 unfold Uo at h
 by_cases hik:i < k
 ·rw [List.getElem?_append_left (by simpa using hik),List.getElem?_replicate,if_pos hik] at h; cases h
 ·have hk' :k<=i:=by omega
  rw [List.getElem?_append_right (by simpa using hk'),List.length_replicate,List.getElem?_map] at h
  cases ej:js[i - k]? with
  | none=>rw [ej] at h; cases h
  | some j=>
   rw [ej] at h
   have h' :VP ρ[j]? = .ow ts:=Option.some.inj h
   unfold VP at h'
   split at h' <;> cases h'
theorem UM {ρ:En} {i:Nat} {t:T} (h:XQ ρ):XQ (ρ.set i (.vl t)):=fun j ts e=>by
 rcases Z5 e with ⟨_,z⟩ | ⟨_,z⟩
 ·cases z
 ·exact h j ts z
noncomputable def GNo (g:T->En->R En):Prop:=∀ t ρ ρ',XQ ρ->g t ρ= .ok ρ' ->XQ ρ'
theorem Z1 (i:Nat):GNo (zG i):=fun t ρ ρ' h e=>by
 cases e; exact UM h
theorem uc (i j:Nat):GNo (jI i j):=fun t ρ ρ' h e=>by
 unfold jI at e
 split at e
 ·cases e; exact UM (UM h)
 ·cases e
section
variable {X:Cx} {Y:Fx} {tg iter elt:Expr} {ifs:List Expr} {scope:Scope} {pos pos' :Pos} {N' :List Str} {k:Nat} {js:List Nat} {fi:En->R (List T)} {tG:TG} {g:T->En->R En} {ft:En->R Bool} {fe:En->R T}
structure Q4 (X:Cx) (Y:Fx) (ifs:List Expr) (f:En->R Bool):Prop where
 mk ::
 go:∀ ρ,PIf X ifs (tS Y rE f ρ)
noncomputable instance {X:Cx} {Y:Fx} {ifs:List Expr} {f:En->R Bool}:CoeFun (Q4 X Y ifs f) fun _=>∀ ρ,PIf X ifs (tS Y rE f ρ):=⟨Q4.go⟩
theorem PIf.imp {X:Cx} {e:List Expr} {t t' :TT} (h:PIf X e t) (i:∀ σ H Q,t' σ H Q->t σ H Q):PIf X e t' :=fun pins s σ H Q I q=>h pins s σ H Q I (i σ H Q q)
noncomputable def j4:En->R Bool:=fun _=> .ok true
theorem J0 {X:Cx}:Q4 X Y [] j4:= .mk fun ρ=>PIf.imp XM fun σ H Q ⟨B,I,q⟩=>Jj I q rfl
theorem uq {X:Cx} {c:Expr} (h:Yp X Y c ft):Q4 X Y [c] ft:= .mk fun ρ=>XN (h ρ)
theorem yF {B1 H1:Hp} {σ:Sg} {ρ:En} {J:It} {ts vs:List T} {D:Addr} (hG:GOk tG g) (hN:GNo g) (I:SI Y B1 ρ σ H1) (rI' :rI B1 H1 J ts) (hl:ts.length<=bnd) (ev:zY g ft fe ts (Uo k js ρ)= .ok vs) (hD:H1 D=none) {F:Hp->Prop}
  (hF:∀ H' xs B',zN H1 H' ->H' D=some (.lst xs)->Z2 B' xs vs->zN B' (Zo B1 H1 H')->B' D=none->zN B1 B' ->F H'):
  ∃ W,(∃ m,W 0 m [] (xU k js σ) (upd H1 D (.lst [])))/\XO J D tG (fun σ H Q=>∃ Y' ρ',Y'.cl=Y.cl/\tS Y' rE ft ρ' σ H Q) (fun σ H Q=>∃ Y' ρ',Y'.cl=Y.cl/\tS Y' rC fe ρ' σ H Q) (fun _ H' =>F H') W:=by
 refine ⟨fun i m ys σ' H' =>m=ts.length - i/\i<=ts.length/\ys.length<=i/\H' D=some (.lst ys)/\∃ ρ' B' us ws,SI ⟨B1,H1,fun _ _ _=>False,Y.cl⟩ B' ρ' σ' H' /\XQ ρ' /\zN B1 B' /\B' D=none/\Z2 B' ys us/\zY g ft fe (ts.drop i) ρ' = .ok ws/\us++ws=vs,
  ⟨ts.length,by simp,Nat.zero_le _,Nat.zero_le _,Zj,_,B1,[],vs,I.block (H3:=H1) k js _ hD _,VQ k js ρ,zN.refl _,I.sB.free hD, .nil,ev,rfl⟩, ?_⟩
 rintro i m ys σ' H' ⟨rfl,hi,hyl,hDl,ρ',B',us,ws,I',no',s1',bD,r',ew,eall⟩
 refine ⟨hDl, ?_⟩
 obtain ⟨hgo,hyld,hstop⟩:=rI' B' H' s1' I'.sB
 have tD:∀ H2,zN H' H2->Zo B' H' H2 D=none:=fun H2 s=>by rw [ZU hDl]; exact bD
 by_cases hlt:i < ts.length
 ·refine .inr ⟨hgo i hlt,fun x H2 y=> ?_⟩
  obtain ⟨s2,r2⟩:=hyld i _ x H2 (List.getElem?_eq_getElem hlt) y
  rw [List.drop_eq_getElem_cons hlt] at ew
  unfold zY at ew
  have I2:=I'.grow s2
  refine hG _ _ ρ' σ' H2 x _ _ I2 r2 ?_
  cases eg:g ts[i] ρ' with
  | bad=>rw [eg] at ew; cases ew
  | ex c=>rw [eg] at ew; cases ew
  | ok ρ1=>
   rw [eg] at ew
   have no1:XQ ρ1:=hN _ _ _ no' eg
   intro σ1 J1
   refine ⟨⟨B1,H1,fun _ _ _=>False,Y.cl⟩,ρ1,rfl,_,J1, ?_⟩
   have ew1:(ft ρ1).bind (fun k=>if k=true then (fe ρ1).bind fun v=>(zY g ft fe (ts.drop (i+1)) ρ1).bind fun vs=> .ok (v :: vs) else zY g ft fe (ts.drop (i+1)) ρ1)= .ok ws:=ew
   cases ef:ft ρ1 with
   | bad=>rw [ef] at ew1; cases ew1
   | ex c=>rw [ef] at ew1; cases ew1
   | ok kk=>
    rw [ef] at ew1
    intro b H3 s3 eb
    have eb' :b=kk:=eb
    subst eb'
    have ew2:(if b=true then (fe ρ1).bind fun v=>(zY g ft fe (ts.drop (i+1)) ρ1).bind fun vs=> .ok (v :: vs) else zY g ft fe (ts.drop (i+1)) ρ1)= .ok ws:=ew1
    have J2:=J1.grow s3
    have hD3:H3 D=some (.lst ys):=s3 _ _ (s2 _ _ hDl)
    have bD3:Zo (Zo B' H' H2) H2 H3 D=none:=by rw [ZU (s2 _ _ hDl)]; exact tD H2 s2
    have sB3:zN B' (Zo (Zo B' H' H2) H2 H3):=(Zo.ge I'.sB s2).trans (Zo.ge I2.sB s3)
    cases b with
    | false=>
     have ew3:zY g ft fe (ts.drop (i+1)) ρ1= .ok ws:=ew2
     exact ⟨ts.length - (i+1),by omega,rfl,hlt,by omega,hD3,ρ1,_,us,ws,J2,no1,s1'.trans sB3,bD3,r'.mono sB3,ew3,eall⟩
    | true=>
     refine ⟨⟨B1,H1,fun _ _ _=>False,Y.cl⟩,ρ1,rfl,_,J2, ?_⟩
     have ew3:(fe ρ1).bind (fun v=>(zY g ft fe (ts.drop (i+1)) ρ1).bind fun vs=> .ok (v :: vs))= .ok ws:=ew2
     cases ee:fe ρ1 with
     | bad=>rw [ee] at ew3; cases ew3
     | ex c=>rw [ee] at ew3; cases ew3
     | ok v=>
      rw [ee] at ew3
      have ew4:(zY g ft fe (ts.drop (i+1)) ρ1).bind (fun vs=> .ok (v :: vs))= .ok ws:=ew3
      cases el:zY g ft fe (ts.drop (i+1)) ρ1 with
      | bad=>rw [el] at ew4; cases ew4
      | ex c=>rw [el] at ew4; cases ew4
      | ok ws' =>
       rw [el] at ew4
       cases ew4
       intro w H4 s4 rw4
       have hD4:H4 D=some (.lst ys):=s4 _ _ hD3
       have J3:=J2.grow s4
       have bD4:Zo (Zo (Zo B' H' H2) H2 H3) H3 H4 D=none:=by rw [ZU hD3]; exact bD3
       have sB4:=sB3.trans (Zo.ge J2.sB s4)
       refine ⟨hD4,Nat.lt_of_lt_of_le (Nat.lt_of_le_of_lt hyl hlt) (JM hl),ts.length - (i+1),by omega,rfl,hlt,by rw [List.length_append,List.length_singleton]; omega,Zj,ρ1,_,us++[v],ws', ?_,no1,s1'.trans sB4,bD4,(r'.mono sB4).append (.cons rw4 .nil),el,by rw [List.append_assoc]; exact eall⟩
       exact J3.acc bD4 hD (fun j ts' e=>(no1 j ts' e).elim) _
 ·have e:i=ts.length:=by omega
  subst e
  refine .inl ⟨hstop _ (Nat.le_refl _), ?_⟩
  rw [List.drop_length] at ew
  cases ew
  rw [List.append_nil] at eall
  subst eall
  refine hF H' ys B' I'.sH hDl r' (fun b o h=> ?_) bD s1'
  cases q:H1 b with
  | none=>rw [ZM q]; exact I'.sB b o h
  | some u=>
   rw [ZU q]
   have z:B' b=B1 b:=I'.old b u q
   rw [← z]; exact h
structure vp (X:Cx) (Y:Fx) (tg iter elt:Expr) (ifs:List Expr) (scope:Scope) (N' :List Str) (k:Nat) (js:List Nat) (fi:En->R (List T)) (tG:TG) (g:T->En->R En) (ft:En->R Bool) (fe:En->R T):Prop where
 sc:CSc X scope
 cp:GK X scope N' k js
 cm:X.calm=true
 it:Vn X Y tg iter fi
 gt:VO X scope N' fun XC=>PG XC tg tG
 gk:GOk tG g
 gn:GNo g
 tt:∀ Y',Y'.cl=Y.cl->VO X scope N' fun XC=>Q4 XC Y' ifs ft
 el:∀ Y',Y'.cl=Y.cl->VO X scope N' fun XC=>Snd XC Y' elt fe
 hs:∀ x,foldedSetIterable iter X.env x=pure x
theorem jk (C:vp X Y tg iter elt ifs scope N' k js fi tG g ft fe):Snd X Y (.ListComp elt [⟨tg,iter,ifs,0⟩] scope pos) (Zf fi g ft fe k js):= .mk fun ρ=>by
 intro pins s σ H Q I ⟨B,J,q⟩
 rw [eval_ListComp]
 refine qu (use:=none) (Q:=EP X pins σ Q) (F:=fun D H' =>Q (.ref D) H') (te:=fun σ H Q=>∃ Y' ρ',Y'.cl=Y.cl/\tS Y' rC fe ρ' σ H Q) (tt:=fun σ H Q=>∃ Y' ρ',Y'.cl=Y.cl/\tS Y' rE ft ρ' σ H Q) C.sc C.cp C.cm (C.it ρ) C.gt
  (fun cl Cx' s3 H3 fp pins pins' s σ H Q I ⟨Y',ρ',ey,q⟩=>C.tt Y' ey cl Cx' s3 H3 fp pins ρ' pins' s σ H Q I q) (fun cl Cx' s3 H3 fp pins pins' s σ H Q I ⟨Y',ρ',ey,q⟩=>C.el Y' ey cl Cx' s3 H3 fp pins ρ' pins' s σ H Q I q) I ?_ ?_ C.hs
 ·refine step J q fun ts it' H1 _ s1 r1 J1 q1=> ?_
  intro D hD
  unfold zT at q1
  split at q1
  ·rename_i hl
   cases ev:zY g ft fe ts (Uo k js ρ) with
   | bad=>rw [ev] at q1; exact q1.elim
   | ex c=>rw [ev] at q1; exact q1.elim
   | ok vs=>
    rw [ev] at q1
    refine yF C.gk C.gn J1 r1 hl ev hD fun H' xs B' s' e' r' l' b' sb' => ?_
    refine (show Po Y rC _ H1 (.ok (.lst vs)) Q from q1) (.ref D) H' s' ?_
    exact .lst (by rw [ZM hD]; exact e') (r'.mono l')
  ·exact q1.elim
 ·intro D Cc H' s' I' q' hC h0 hL hcell hpin hns
  obtain ⟨m,hm⟩:=hns
  refine ⟨m,hm,fun h' hsb=>⟨.ref D,H', ?_,rfl,q'⟩⟩
  exact I'.turned (t' :=s'.toks) (fun b o hb e=>hsb.extBut b o hb e) hC (Ne.symm hL).symm (.inr h0) hcell hpin
end
end PV
namespace PV
open PySem PySem.Spec PyProof.Rows L2
section
variable {X:Cx} {Y:Fx} {tg iter elt:Expr} {ifs:List Expr} {scope:Scope} {pos pos' :Pos} {N' :List Str} {k:Nat} {js:List Nat} {fi:En->R (List T)} {tG:TG} {g:T->En->R En} {ft:En->R Bool} {fe:En->R T}
theorem vq {i:Nat} {x:Str} {pc p' :Pos} (C:vp X Y tg iter elt ifs scope N' k js fi tG g ft fe) (hN:X.N.Nodup) (hi:X.N[i]? =some x) (hx:L2.Loc X.env.scope x)
  (hsw:swapsWith (.ListComp elt [⟨tg,iter,ifs,0⟩] scope pc) (some (.Name x p')) pos.line X.env=pure true) (hf:X.fn x=true\/X.env.scope.names.lookup x=some .local:=by first | exact .inl rfl | exact .inr rfl | assumption):
  yD X Y (.Assign [.Name x p'] (.ListComp elt [⟨tg,iter,ifs,0⟩] scope pc) pos) (Z3 i (Zf fi g ft fe k js)):= .mk fun ρ=>by
 intro pins s σ H D I ⟨B,J,q⟩
 rw [exec_Assign_Name_used _ _ _ _ hsw]
 refine wpAny_bind (wpAny_standAt (wpAny_bind ?_))
 show wpAny _ X.A (do let _ ← comprehension (.ListComp elt [⟨tg,iter,ifs,0⟩] scope pc) scope X.env _ (newList []) false (eval iter X.env) (some (assign (.Name x p') X.env))) _ _ s
 refine wpAny_bind (thn (qu (use:=some (assign (.Name x p') X.env)) (Q:=fun _ s' =>SP X pins D .next s') (F:=fun D' H' =>D.nx (σ.set i (some (.ref D'))) H') (te:=fun σ H Q=>∃ Y' ρ',Y'.cl=Y.cl/\tS Y' rC fe ρ' σ H Q) (tt:=fun σ H Q=>∃ Y' ρ',Y'.cl=Y.cl/\tS Y' rE ft ρ' σ H Q) C.sc C.cp C.cm (C.it ρ) C.gt
  (fun cl Cx' s3 H3 fp pins pins' s σ H Q I ⟨Y',ρ',ey,q⟩=>C.tt Y' ey cl Cx' s3 H3 fp pins ρ' pins' s σ H Q I q) (fun cl Cx' s3 H3 fp pins pins' s σ H Q I ⟨Y',ρ',ey,q⟩=>C.el Y' ey cl Cx' s3 H3 fp pins ρ' pins' s σ H Q I q) I ?_ ?_ C.hs) fun _ s' hq=>wpAny_pure (wpAny_pure hq))
 ·have q' :PoS Y B (((fi ρ).s fun ts=>(zT g ft fe k js ρ ts).s fun vs=> .nx (ρ.set i (.vl (.lst vs))))) D:=by
   unfold Z3 Zf at q
   revert q
   cases fi ρ with
   | bad=>exact fun q=>q
   | ex c=>exact fun q=>q
   | ok ts=>
    intro q
    have q2:PoS Y B (((zT g ft fe k js ρ ts).bind fun vs=>R.ok (T.lst vs)).s fun t=>RS.nx (List.set ρ i (Sl.vl t))) D:=q
    show PoS Y B ((zT g ft fe k js ρ ts).s fun vs=>RS.nx (List.set ρ i (Sl.vl (T.lst vs)))) D
    revert q2
    cases zT g ft fe k js ρ ts with
    | bad=>exact fun q=>q
    | ex c=>exact fun q=>q
    | ok vs=>exact fun q=>q
  refine UJ J q' fun ts it' H1 _ s1 r1 J1 q1=> ?_
  intro D' hD
  unfold zT at q1
  split at q1
  ·rename_i hl
   cases ev:zY g ft fe ts (Uo k js ρ) with
   | bad=>rw [ev] at q1; exact q1.elim
   | ex c=>rw [ev] at q1; exact q1.elim
   | ok vs=>
    rw [ev] at q1
    refine yF C.gk C.gn J1 r1 hl ev hD fun H' xs B' s' e' r' l' b' sb' => ?_
    have rr:Rep (Zo (Zo B H H1) H1 H') (.ref D') (.lst vs):= .lst (by rw [ZM hD]; exact e') (r'.mono l')
    exact q1 _ _ _ (Zo.ge J1.sB s') ((J1.grow s').setV i rr)
  ·exact q1.elim
 ·intro D' Cc H' s' I' q' hC h0 hL hcell hpin hns
  obtain ⟨m,hm⟩:=hns
  show wpAny _ X.A (assign (.Name x p') X.env (.ref D')) _ _ s'
  refine wpAny_assign_Name (yl (v:= .ref D') I' hN hi hx rfl (fun s'' I'' ⟨a,hsb,ha⟩=> ?_) hf)
  have hne:Cc ≠ a:=by
   rcases ha with rfl | ha
   ·exact hL
   ·exact (hcell x a ha).symm
  refine ⟨m,hm.sameBut hsb hne,fun h' hsb' =>⟨_,H', ?_,q'⟩⟩
  exact I''.turned (t' :=s''.toks) (fun b o hb e=>hsb'.extBut b o hb e) hC hL (.inr h0) hcell hpin
end
end PV
namespace PV
open PySem PySem.Spec PyProof.Rows L2
noncomputable def Itc (x:Str):It:=⟨fun i _=>i < x.cps.size,fun i H v H' =>H' =H/\∃ c,x.cps[i]? =some c/\v= .str ⟨#[c]⟩,fun i _=>x.cps.size<=i⟩
theorem Up {P:Program} {w:World} {K:PySem.W.Frag} {tg:Expr} {x:Str} {t:Tok} {ty:String} (it:Addr) (hty:ty="str_ascii_iterator"\/ty="str_iterator"):Vv P w K tg (Itc x) [it] it (fun i h=>h.IsStrIter it ty x t i):=by
 have W:∀ A:Around,A.handled=none->Walks P w A it [it] [it] x.cps.size (SignAt x) (fun i h=>h.IsStrIter it ty x t i):=fun A hA=>by
  rcases hty with rfl | rfl
  ·exact Walks.strAscii hA it x t
  ·exact Walks.strWide hA it x t
 have hn:["enumerate","zip","dict_itemiterator","dict_reverseitemiterator","odict_iterator","itertools.zip_longest","itertools.pairwise"].contains ty=false:=by rcases hty with rfl | rfl <;> decide
 refine ⟨by simp,fun i h st b hb=> ?_,fun i h h' st k=> ?_, ?_, ?_,fun A i s Q E st h=> ?_⟩
 ·have e:b=it:=by simpa using hb
  subst e
  obtain ⟨o,e,c,d⟩:=st
  exact ⟨o,e,fun v z=>by rw [d] at z; cases z⟩
 ·obtain ⟨o,e,r⟩:=st
  exact ⟨o,k it (by simp) o e,r⟩
 ·intro X hP hw hK hc i pins s σ H E I hf st hg
  subst hP hw hK
  obtain ⟨f0,f1,f2,f3,f4,f5⟩:=hf it (by simp)
  refine (W X.A (I.ok.hd hc)).item i s _ _ hg st fun v h' tk hv st' kk=> ?_
  obtain ⟨c,u,hc',rfl⟩:=hv
  have I1:L2.Inv X pins σ H { s with heap:=h',toks:=tk }:=I.turned (fun b o hb e=>kk b o (by simpa using hb) e) f0 f1 f3 f4 f5
  obtain ⟨o,e,cl,d⟩:=id st'
  exact ⟨_,rfl,Vw (s:={ s with heap:=h',toks:=tk }) e cl d hn ⟨.str ⟨#[c]⟩,H,I1,⟨u,rfl⟩,⟨rfl,c,hc',rfl⟩,st',fun b hb=>(hf b hb).1⟩⟩
 ·intro X hP hw hK hc i pins s σ H E I hf st hg
  subst hP hw hK
  obtain ⟨f0,f1,f2,f3,f4,f5⟩:=hf it (by simp)
  have hx:x.cps[i]? =none:=Array.getElem?_eq_none hg
  rcases hty with rfl | rfl
  ·exact wpAny_pyNext_ascii_end (I.ok.hd hc) st hx fun h' eb=>⟨rfl,I.turned (t' :=s.toks) (fun b o hb e=>eb b o hb e) f0 f1 f3 f4 f5⟩
  ·exact wpAny_pyNext_wide_end (I.ok.hd hc) st hx fun h' eb=>⟨rfl,I.turned (t' :=s.toks) (fun b o hb e=>eb b o hb e) f0 f1 f3 f4 f5⟩
 ·rcases hty with rfl | rfl
  ·exact wpAny_pyIter_striter_ascii st h
  ·exact wpAny_pyIter_striter_wide st h
noncomputable def J4 (x:Str):List T:=x.cps.toList.map fun c=>T.str ⟨#[c]⟩
theorem VR {B1 H1:Hp} {x:Str}:rI B1 H1 (Itc x) (J4 x):=fun B2 H2 s1 s2=>by
 have hl:(J4 x).length=x.cps.size:=by unfold J4; simp
 refine ⟨fun i hi=>by rw [hl] at hi; exact hi,fun i t v H3 e y=> ?_,fun i hi=>by rw [hl] at hi; exact hi⟩
 obtain ⟨rfl,c,hc,rfl⟩:=y
 refine ⟨zN.refl _, ?_⟩
 unfold J4 at e
 rw [List.getElem?_map] at e
 have hc' :x.cps.toList[i]? =some c:=by simpa using hc
 rw [hc'] at e
 cases e
 exact .str _
section
variable {X:Cx} {Y:Fx} {a b c d tg:Expr} {fa fb fc fd:En->R T} {pos p:Pos}
theorem KS {l:Expr} {tl:TE} (hl:PE X l tl):PI X tg l (fun σ H R=>tl σ H fun x H1=>(∃ a,x= .ref a/\(((∃ xs,SqL X.K H1 a xs)/\R (Itl X.K a) H1)\/((∃ xs,SqT X.K H1 a xs)/\R (Itt X.K a) H1)))\/(∃ z,x= .str z/\R (Itc z) H1)):=by
 intro pins s σ H R I h
 refine thn (hl pins s σ H _ I h) fun v s1 ⟨x,H1,I1,r1,q1⟩=> ?_
 have ok:∀ b∈[s1.heap.objs.size],Yt X pins H1 b:=fun b hb=>by
  have e:b=s1.heap.objs.size:=by simpa using hb
  subst e
  exact I1.fpOk (Nat.le_refl _) (I1.hok.fresh (Nat.le_refl _))
 rcases q1 with ⟨a,e,q⟩ | ⟨z,e,q⟩
 ·subst e
  obtain rfl:v=Value.ref a:=r1
  rcases q with ⟨⟨xs,hq⟩,q⟩ | ⟨⟨xs,hq⟩,q⟩
  ·obtain ⟨its,rv,p,hz⟩:=I1.list hq
   exact wpAny_pyIter_list p.isList ⟨s1.heap.objs.size,[s1.heap.objs.size],_,_,H1,rfl,I1.kept (t' :=s1.toks) fun b o e=>Heap.get?_push_of_some _ e,Qy a _,⟨_,Heap.get?_push_size _ rfl,rfl,rfl⟩,ok,q⟩
  ·obtain ⟨its,rv,p,hz⟩:=I1.tuple hq
   exact wpAny_pyIter_tuple (show s1.heap.IsTuple a its.toArray from p) ⟨s1.heap.objs.size,[s1.heap.objs.size],_,_,H1,rfl,I1.kept (t' :=s1.toks) fun b o e=>Heap.get?_push_of_some _ e,qQ a _,⟨_,Heap.get?_push_size _ rfl,rfl,rfl⟩,ok,q⟩
 ·subst e
  obtain ⟨t,rfl⟩:=r1
  cases ha:z.cps.all (· < 128)
  ·exact wpAny_pyIter_wide ha ⟨s1.heap.objs.size,[s1.heap.objs.size],_,_,H1,rfl,I1.kept (t' :=s1.toks) fun b o e=>Heap.get?_push_of_some _ e,Up _ (.inr rfl),⟨_,Heap.get?_push_size _ rfl,rfl,rfl⟩,ok,q⟩
  ·exact wpAny_pyIter_ascii ha ⟨s1.heap.objs.size,[s1.heap.objs.size],_,_,H1,rfl,I1.kept (t' :=s1.toks) fun b o e=>Heap.get?_push_of_some _ e,Up _ (.inl rfl),⟨_,Heap.get?_push_size _ rfl,rfl,rfl⟩,ok,q⟩
noncomputable def ur:T->R (List T)
 | .lst xs=> .ok xs
 | .tup xs=> .ok xs
 | .str x=> .ok (J4 x)
 | _=> .bad
noncomputable def JK (fa:En->R T):En->R (List T):=fun ρ=>(fa ρ).bind ur
theorem JO (ha:Snd X Y a fa):Vn X Y tg a (JK fa):= .mk fun ρ=>PI.imp (KS (ha ρ)) fun σ H R ⟨B,I,q⟩=>step I q fun t v H1 _ s1 r1 I1 q1=>by
 cases r1 with
 | @tup l xs ts h r=>
  exact .inl ⟨l,rfl, .inr ⟨⟨xs,SqT.of (I1.sB _ _ h)⟩,Jj I1 (show Po Y rI _ H1 (.ok ts) R from q1) (KP h r)⟩⟩
 | @lst l xs ts h r=>
  exact .inl ⟨l,rfl, .inl ⟨⟨xs,SqL.of (I1.sB _ _ h)⟩,Jj I1 (show Po Y rI _ H1 (.ok ts) R from q1) (KQ h r)⟩⟩
 | str z=>exact .inr ⟨z,rfl,Jj I1 (show Po Y rI _ H1 (.ok (J4 z)) R from q1) VR⟩
 | _=>exact q1.elim
end
theorem Inv.laidT {X:Cx} {pins:List (Addr×Obj)} {σ:Sg} {H:Hp} {s:Shared} {h' :Heap} {tk:Nat} {ch:List Addr} {a:Addr} {xs:List V} (I:L2.Inv X pins σ H s) (hf:∀ b∈ch,Yt X pins H b) (k:∀ b o,b ∉ ch->s.heap.get? b=some o->h'.get? b=some o)
  (th:∀ b o,b∈ch->s.heap.get? b=some o->∃ o',h'.get? b=some o') (ha:s.heap.objs.size<=a) (new:j7 X.prog X.w (upd H a (.tup xs)) h' a (.tup xs)):L2.Inv X pins σ (upd H a (.tup xs)) { s with heap:=h',toks:=tk }:=by
 have hn:H a=none:=I.hok.fresh ha
 have nch:∀ b u,H b=some u->b ∉ ch:=fun b u e hb=>by rw [(hf b hb).1] at e; cases e
 refine I.call' (s' :={ s with heap:=h',toks:=tk }) (ch:=ch) rfl ⟨fun b o e n _ hc=>k b o hc e,fun b o e n _ hc=>⟨o.slots,k b o hc e⟩,fun b o e n _=>by rw [zF (Nat.ne_of_lt (Nat.lt_of_lt_of_le (Heap.lt_size e) ha))]; exact n,fun b o e hc=>⟨o,k b o hc e⟩,
  fun b ys e=>by rw [zF (Z6 e hn)]; exact e,fun b o u e=>by rw [zF (Z6 e hn)]; exact e,fun b ps e=>⟨#[],by rw [zF (Z6 e hn),e]; simp⟩⟩ (fun b u e=> ?_) I.bare fun b hb=> ?_
 ·by_cases hb:b=a
  ·subst hb; rw [Zj] at e; cases e; exact new
  ·rw [zF hb] at e
   refine (I.hok b u e).stay (fun c v hc q=> ?_) (fun c q=>by rw [zF (Z6 q hn)]; exact q) fun c ys q=>by rw [zF (Z6 q hn)]; exact q
   rcases hc with rfl | hc
   ·exact k c v (nch c u e) q
   ·exact k c v (nch c _ hc) q
 ·obtain ⟨f0,f1,f2,f3,f4,f5⟩:=hf b hb
  exact ⟨f3,f1,f4,f5⟩
noncomputable def Ite (K:PySem.W.Frag) (l:Addr):It:=
 ⟨fun i H=>∃ xs x,SqL K H l xs/\xs[i]? =some x,fun i H v H' =>∃ p x,H p=none/\v= .ref p/\(∀ xs,SqL K H l xs->xs[i]? =some x)/\H' =upd H p (.tup [.int i,x]),fun i H=>∃ xs,SqL K H l xs/\xs.length<=i⟩
theorem vt {P:Program} {w:World} {K:PySem.W.Frag} {elts:List Expr} {kk:Nat} {pt:Pos} (e it l:Addr) (hei:e ≠ it) (hle:l ≠ e) (hli:l ≠ it):
  Vv P w K (.Tuple elts kk pt) (Ite K l) [e,it] e (fun i h=>(∃ old,IsEnum h e it i old)/\h.IsListIter it l i) where
 mem:=by simp
 obj:=fun i h st b hb=>by
  obtain ⟨⟨old,he⟩,o,e1,c,d⟩:=st
  rcases List.mem_cons.mp hb with rfl | hb
  ·exact ⟨_,he,fun v z=>nomatch z⟩
  ·have z:b=it:=by simpa using hb
   subst z
   exact ⟨o,e1,fun v z=>by rw [d] at z; cases z⟩
 keep:=fun i h h' st k=>by
  obtain ⟨⟨old,he⟩,hit⟩:=st
  exact ⟨⟨old,k e (by simp) _ he⟩,hit.at fun o x=>k it (by simp) o x⟩
 item:=by
  intro X hP hw hK hc i pins s σ H E I hf st hg
  subst hP hw hK
  obtain ⟨xs,x,hq,hx⟩:=hg
  obtain ⟨its,rv,p,hz⟩:=I.list hq
  obtain ⟨u,hu,ru⟩:=rv.get hx
  obtain ⟨⟨old,he⟩,hit⟩:=st
  have hi:i < its.toArray.size:=by
   have:=(List.getElem?_eq_some_iff.mp hu).1
   simpa using this
  refine (WalksT.enumerate (prog:=X.prog) (w:=X.w) (I.ok.hd hc) e it l hei hle hli its.toArray).item i s _ _ hi ⟨⟨old,he⟩,hit,p.isList⟩ fun T vals h' tk hP hT hTup hM hk=> ?_
  obtain ⟨t,y,hy,rfl⟩:=hP
  have hyu:y=u:=by
   have:its[i]? =some y:=by simpa using hy
   rw [hu] at this; exact (Option.some.inj this).symm
  subst hyu
  refine ⟨.ref T,rfl, ?_⟩
  refine (WalksT.enumerate (prog:=X.prog) (w:=X.w) (I.ok.hd hc) e it l hei hle hli its.toArray).go elts kk pt i T _ _ _ hM fun h2 hst2 hk2=> ?_
  have hTn:H T=none:=I.hok.fresh hT
  have hTne:∀ b∈[e,it],b ≠ T:=fun b hb z=>by
   obtain ⟨_,_,_,h3,h4⟩:=hM
   rcases List.mem_cons.mp hb with rfl | hb
   ·exact h3 z.symm
   ·have:b=it:=by simpa using hb
    subst this; exact h4 z.symm
  have kB:IsTup h2 T #[.int i t,y]:=by
   obtain ⟨o,eo,r⟩:=hTup
   exact ⟨o,hk2 T o (fun hb=>hTne T hb rfl) eo,r⟩
  refine ⟨.ref T,upd H T (.tup [.int i,x]),Inv.laidT (s:=s) (h' :=h2) (ch:=[e,it]) (tk:=tk) I hf (fun b o hb e=>hk2 b o hb (hk b o hb e)) (fun b o hb _=> ?_) hT ⟨by rw [sizeLine_eq]; show 2<=16777216; decide,[.int i t,y], .cons ⟨t,rfl⟩ (.cons ru .nil),kB⟩,rfl,⟨T,x,hTn,rfl,fun ys hy=>by rw [I.list_inj hy hq]; exact hx,rfl⟩,⟨hst2.1,hst2.2.1⟩,fun b hb=> ?_⟩
  ·obtain ⟨⟨old2,he2⟩,⟨o2,eo2,_⟩,_⟩:=hst2
   rcases List.mem_cons.mp hb with rfl | hb
   ·exact ⟨_,he2⟩
   ·have:b=it:=by simpa using hb
    subst this; exact ⟨o2,eo2⟩
  ·rw [zF (hTne b hb)]; exact (hf b hb).1
 done:=by
  intro X hP hw hK hc i pins s σ H E I hf st hg
  subst hP hw hK
  obtain ⟨xs,hq,hx⟩:=hg
  obtain ⟨its,rv,p,hz⟩:=I.list hq
  obtain ⟨⟨old,he⟩,hit⟩:=st
  have hl:=rv.length
  refine wpAny_pyNext_enum_end (I.ok.hd hc) he hit p.isList (Array.getElem?_eq_none (by simp; omega)) fun h' hk=>⟨rfl, ?_⟩
  obtain ⟨f0,f1,f2,f3,f4,f5⟩:=hf it (by simp)
  exact I.turned (t' :=s.toks) (fun b o hb e=>hk b o hb e) f0 f1 f3 f4 f5
 self:=fun _ _ _ _ _ st h=>let ⟨⟨_,he⟩,_⟩:=st; wpAny_pyIter_enum he h
noncomputable def U8 (xs:List T):List T:=(xs.zipIdx).map fun p=>T.tup [.int (p.2:Nat),p.1]
theorem vv {xs:List T} {i:Nat} {t:T} (h:(U8 xs)[i]? =some t):∃ x,xs[i]? =some x/\t= .tup [.int (i:Nat),x]:=by
 unfold U8 at h
 rw [List.getElem?_map,List.getElem?_zipIdx] at h
 cases e:xs[i]? with
 | none=>rw [e] at h; cases h
 | some x=>rw [e] at h; cases h; exact ⟨x,rfl,by simp⟩
theorem yG (xs:List T):(U8 xs).length=xs.length:=by unfold U8; simp
theorem XR {K:PySem.W.Frag} {B1 H1:Hp} {a:Addr} {xs:List V} {ts:List T} (h:B1 a=some (.lst xs)) (r:Z2 B1 xs ts):rI B1 H1 (Ite K a) (U8 ts):=fun B2 H2 s1 s2=>by
 have h2:=s2 _ _ (s1 _ _ h)
 rw [yG]
 refine ⟨fun i hi=> ?_,fun i t x H3 e y=> ?_,fun i hi=>⟨xs,SqL.of h2,by rw [r.length]; exact hi⟩⟩
 ·obtain ⟨v,e,_⟩:=r.get (List.getElem?_eq_getElem hi)
  exact ⟨xs,v,SqL.of h2,e⟩
 ·obtain ⟨p,v,hp,rfl,y,rfl⟩:=y
  obtain ⟨t',et,rfl⟩:=vv e
  obtain ⟨v',e1,r1⟩:=r.get et
  have:=y xs (SqL.of h2)
  rw [e1] at this; cases this
  refine ⟨zN.new hp _, .tup (Wy hp _) (.cons (.int _) (.cons ?_ .nil))⟩
  exact (r1.mono s1).mono (Zo.ge s2 (zN.new hp _))
section
variable {X:Cx} {Y:Fx} {a:Expr} {fa:En->R T} {pos p pt:Pos} {elts:List Expr} {kk:Nat}
theorem XS {ta:TA} (hg:Gl X "enumerate") (hm:X.mg "enumerate"=none) (ha:PA X [a] ta) (hs:St1 X a:=by exact st1 rfl):
  PI X (.Tuple elts kk pt) (.Call (.Name "enumerate" p) [a] [] pos) (fun σ H R=>ta σ H fun vs H1=>∃ l xs,vs=[.ref l]/\H1 l=some (.lst xs)/\R (Ite X.K l) H1):=by
 intro pins s σ H R I h
 refine Call_ (uj I hg hm PyProof.Rows.Boot.«enumerate» (PyProof.Rows.callWith_type1 (thn (ha pos pins s σ H _ I h) fun us s1 ⟨vs,H1,I1,r1,q1⟩=> ?_) hs rfl))
 obtain ⟨l,xs,e,hl,q⟩:=q1
 subst e
 obtain ⟨u,rfl,ru⟩:=Ww r1
 obtain rfl:u=Value.ref l:=ru
 obtain ⟨_,its,n,rv,eo⟩:=(show j7 X.prog X.w H1 s1.heap l (.lst xs) from I1.hok l _ hl)
 have hlt:l < s1.heap.objs.size:=Heap.lt_size eo
 refine call_enumerate_1 eo fun h' he hit hsz hk=>wpAny_pyIter_enum he ?_
 have f:∀ b∈[s1.heap.objs.size+1,s1.heap.objs.size],Yt X pins H1 b:=fun b hb=>by
  rcases List.mem_cons.mp hb with rfl | hb
  ·exact I1.fpOk (Nat.le_succ _) (I1.hok.fresh (Nat.le_succ _))
  ·have z:b=s1.heap.objs.size:=by simpa using hb
   subst z
   exact I1.fpOk (Nat.le_refl _) (I1.hok.fresh (Nat.le_refl _))
 exact ⟨s1.heap.objs.size+1,[s1.heap.objs.size+1,s1.heap.objs.size],_,_,H1,rfl,I1.kept (t' :=s1.toks) hk,vt _ _ l (Nat.succ_ne_self _) (Nat.ne_of_lt (Nat.lt_succ_of_lt hlt)) (Nat.ne_of_lt hlt),⟨⟨_,he⟩,hit⟩,f,q⟩
noncomputable def XT (fa:En->R T):En->R (List T):=fun ρ=>(fa ρ).bind fun t=>match t with
 | .lst xs=> .ok (U8 xs)
 | _=> .bad
theorem KT (hg:Gl X "enumerate") (hm:X.mg "enumerate"=none) (ha:Snd X Y a fa) (hs:St1 X a:=by exact st1 rfl):Vn X Y (.Tuple elts kk pt) (.Call (.Name "enumerate" p) [a] [] pos) (XT fa):= .mk fun ρ=>
 PI.imp (XS hg hm (zO (ha ρ) ZZ hs) hs) fun σ H R ⟨B,I,q⟩=>step I q fun t v H1 _ s1 r1 I1 q1=>by
  cases r1 with
  | @lst l xs ts h r=>exact ⟨l,xs,rfl,I1.sB _ _ h,Jj I1 (show Po Y rI _ H1 (.ok (U8 ts)) R from q1) (XR h r)⟩
  | _=>exact q1.elim
noncomputable def Qs:List T->Option (List Str)
 | []=>some []
 | .str x :: r=>match Qs r with | some ys=>some (x :: ys) | none=>none
 | _ :: _=>none
noncomputable def KU (sep:Str):T->R T
 | .lst ts=>match Qs ts with
  | some ys=>if (ys.map (·.length)).sum+ys.length*sep.length<=16777216 then .ok (.str (Txt.join sep ys)) else .bad
  | none=> .bad
 | _=> .bad
theorem UN {H:Hp}:∀ {xs:List V} {ts:List T} {its:List Value} {ys:List Str},Z2 H xs ts->ZY xs its->Qs ts=some ys->StrsAre its ys
 | _,_,_,ys, .nil, .nil,h=>by
  have h' :some []=some ys:=h
  cases h'; exact .nil
 | _,_,_,ys, .cons (t:=t) r rs, .cons (b:=u) rv vs,h=>by
  cases r with
  | str x=>
   unfold Qs at h
   split at h
   ·rename_i zs e
    cases h
    obtain ⟨tk,rfl⟩:=rv
    exact .cons x tk (UN rs vs e)
   ·cases h
  | _=>cases h
theorem XU:MtR X "str.join" (fun x xs H Q=>∃ z l zs ts ys,x= .str z/\xs=[.ref l]/\H l=some (.lst zs)/\Z2 H zs ts/\Qs ts=some ys/\(ys.map (·.length)).sum+ys.length*z.length<=16777216/\Q (.str (Txt.join z ys)) H):=by
 intro pins s σ H x xs v us Q I rx rv h
 obtain ⟨z,l,zs,ts,ys,rfl,rfl,hl,r,e,hb,q⟩:=h
 obtain ⟨t,rfl⟩:=rx
 obtain ⟨u,rfl,ru⟩:=Ww rv
 obtain rfl:u=Value.ref l:=ru
 obtain ⟨its,rv,p,_⟩:=ZC I (.inl hl) r
 exact join_list p (by simpa using UN r rv e) hb fun t' k=>⟨.str _,H,I.tok k,⟨t',rfl⟩,q⟩
theorem KW {z:Str} {kc:Nat} {pz pa:Pos} (ha:Wd X Y a fa) (hb:attributeBase (.Constant (.str z) kc pz) "join" X.env (eval (.Constant (.str z) kc pz) X.env)=eval (.Constant (.str z) kc pz) X.env:=by rfl) (hs:St1 X a:=by exact st1 rfl)
  (hz:(pa.endLine == p.line)=true:=by rfl):Snd X Y (.Call (.Attribute (.Constant (.str z) kc pz) "join" pa) [a] [] p) (ap1 (KU z) fa):= .mk fun ρ=>by
 have e1:(((((backTo p (starEach [a] X.env)).all fun x=> !x.fst) && (backToKw p (keywordEach [] X.env)).all fun x=>x.fst.isSome) && decide (([a].length+([]:List Keyword).length+if ([]:List Keyword).isEmpty=true then 0 else 1) < 30))=true):=by rw [hs]; rfl
 refine PE.imp (QN PySem.F.plainAttrs_str PySem.F.slot_str_join PySem.F.type_str_join XU xI (zO (ha ρ) ZZ hs) hb e1 hz hs rfl) fun σ H Q ⟨B,I,q⟩=> ?_
 refine ⟨rfl,step I q fun t v H1 _ s1 r1 I1 q1=> ?_⟩
 cases r1 with
 | @lst l xs ts h r=>
  have q1:Po Y rC _ H1 (match Qs ts with | some ys=>if (ys.map (·.length)).sum+ys.length*z.length<=16777216 then .ok (.str (Txt.join z ys)) else .bad | none=> .bad) Q:=q1
  split at q1
  ·rename_i ys e
   split at q1
   ·rename_i hl
    exact ⟨z,l,xs,ts,ys,rfl,rfl,h,r,e,hl,po0 I1.sB q1 rfl (.str _)⟩
   ·exact q1.elim
  ·exact q1.elim
 | _=>exact q1.elim
end
end PV
namespace PV
open PySem PySem.Spec PyProof.Rows L2
noncomputable def dd:List Str->List Str->List Str
 | acc,[]=>acc
 | acc,x :: r=>dd (if x∈acc then acc else acc++[x]) r
section
variable {prog:Program} {w:World} {A:Around} {R:Result->Shared->Prop} {I:Addr} {fp wr:List Addr} {n:Nat} {P:Nat->Value->Prop} {St:Nat->Heap->Prop}
theorem wH {h h' :Heap} {S:Addr} {f g:Str->Bool} {m k:Nat} (x:h.SetOf (strKind prog w) S f m) (e:∀ o,h.get? S=some o->h'.get? S=some o) (ef:f=g) (em:m=k):h'.SetOf (strKind prog w) S g k:=by
 subst ef em
 obtain ⟨o,es,ep,t,ho,r⟩:=x
 exact ⟨o,es,ep,t,e o ho,r⟩
theorem VS (W:Walks prog w A.in1 I fp wr n P St) (S:Addr) (hSf:S ∉ fp) (val:Nat->Str) (hval:∀ i v,P i v->∃ t,v=Value.str (val i) t) (hb:n+1 < scanBound):
  ∀ (k i:Nat) (acc:List Str) (s:Shared),n - i=k->i<=n->acc.length<=i->St i s.heap->s.heap.SetOf (strKind prog w) S (fun x=>decide (x∈acc)) acc.length->
   (∀ h' tk,(∀ b o,b ∉ S :: wr->s.heap.get? b=some o->h'.get? b=some o)->h'.SetOf (strKind prog w) S (fun x=>decide (x∈dd acc ((List.range' i k).map val))) (dd acc ((List.range' i k).map val)).length->
    R (.ok (.ret .none)) { s with heap:=h',toks:=tk })->codeAny (model prog w) A (.builtin "set.update.loop" ⟨[.ref S, .ref I],[]⟩) R s:=by
 intro k
 induction k with
 | zero=>
  intro i acc s hk hi hal hst hS hR
  obtain rfl:i=n:=by omega
  refine codeAny_builtin F.entry_set_update_loop ?_
  rw [Around.under_plainId F.plain_set_update_loop _]
  refine wpAny_bind (m:=pyNext (.ref I)) (W.done s _ _ hst fun h' tk hk' =>wpAny_pure ?_)
  exact hR h' tk (fun b o hb e=>hk' b o (fun z=>hb (List.mem_cons_of_mem _ z)) e) (wH hS (fun o e=>hk' S o (fun z=>hSf (W.sub _ z)) e) rfl rfl)
 | succ k ih=>
  intro i acc s hk hi hal hst hS hR
  refine codeAny_builtin F.entry_set_update_loop ?_
  rw [Around.under_plainId F.plain_set_update_loop _]
  refine wpAny_bind (m:=pyNext (.ref I)) (W.item i s _ _ (by omega) hst fun v h1 tk1 hP hst1 hk1=> ?_)
  obtain ⟨t,rfl⟩:=hval i v hP
  have hS1:=wH hS (fun o e=>hk1 S o (fun z=>hSf (W.sub _ z)) e) rfl rfl
  refine wpAny_bind (m:=holding [Value.str (val i) t] (setAdd S (.str (val i) t))) (wpAny_holding ?_)
  unfold setAdd
  have isk:(strKind prog w).is (val i) (.str (val i) t)=true:=strKind_is _ _ _ _
  refine wpAny_holding (wpAny_bind ((strKind prog w).pyHash isk ?_))
  refine wpAny_setAddHashed_of (knd:=strKind prog w) (s:={ s with heap:=h1,toks:=tk1+1 }) isk rfl hS1 (by omega) fun h2 hsb hS2=> ?_
  have e2:(if decide (val i∈acc)=true then acc.length else acc.length+1)=(if val i∈acc then acc else acc++[val i]).length:=by
   by_cases hm:val i∈acc
   ·simp [hm]
   ·simp [hm]
  have e1:(fun x=>decide (x∈acc) || decide (x=val i))=(fun x=>decide (x∈(if val i∈acc then acc else acc++[val i]))):=by
   funext x
   by_cases hm:val i∈acc
   ·simp only [if_pos hm]
    by_cases hx:x=val i
    ·subst hx; simp [hm]
    ·simp [hx]
   ·simp [hm,Bool.decide_or]
  have hS3:=wH (h' :=h2) hS2 (fun o e=>e) e1 e2
  refine wpAny_pure ⟨plainId_quiet F.plain_set_update_loop _,ih (i+1) _ _ (by omega) (by omega) ?_ (W.frame _ h1 _ hst1 fun b hb o e=> ?_) hS3 fun h3 tk3 hk3 hS4=> ?_⟩
  ·split
   ·omega
   ·rw [List.length_append,List.length_singleton]; omega
  ·exact (hsb.2 b (fun z:b=S=>hSf (z ▸ hb))).trans e
  ·rw [List.range'_succ,List.map_cons] at hR
   refine hR h3 tk3 (fun b o hb e=>hk3 b o hb ?_) hS4
   exact (hsb.2 b (fun z:b=S=>hb (z ▸ List.mem_cons_self))).trans (hk1 b o (fun z=>hb (List.mem_cons_of_mem _ z)) e)
end
section
variable {prog:Program} {w:World} {A:Around} {E:Value->Shared->Prop} {s:Shared}
set_option maxRecDepth 100000 in
set_option maxHeartbeats 3200000 in
theorem vw {l:Addr} {its:List Value} {ys:List Str} {Q:Value->Shared->Prop} (hh:A.handled=none) (hl:s.heap.IsList l its.toArray) (hi:StrsAre its ys) (hb:its.length+1 < scanBound)
  (h:∀ (h' :Heap) (tk:Nat),h'.SetOf (strKind prog w) s.heap.objs.size (fun x=>decide (x∈dd [] ys)) (dd [] ys).length->(∀ b o,b < s.heap.objs.size->s.heap.get? b=some o->h'.get? b=some o)->
   Q (.ref s.heap.objs.size) { s with heap:=h',toks:=tk }):wpAny (model prog w) A (call (.type "set") [.ref l]) Q E s:=by
 have getv:∀ {its:List Value} {ys:List Str},StrsAre its ys->its.length=ys.length/\∀ (i:Nat) (v:Value),its[i]? =some v->∃ t,v=Value.str (ys.getD i ⟨#[]⟩) t:=fun {its ys} hi=>by
  induction hi with
  | nil=>exact ⟨rfl,fun i v e=>by simp at e⟩
  | cons y t _ ih=>
   refine ⟨by simp [ih.1],fun i v e=> ?_⟩
   cases i with
   | zero=>exact ⟨t,by simpa using e.symm⟩
   | succ i=>exact ih.2 i v (by simpa using e)
 obtain ⟨hlen,hget⟩:=getv hi
 have hys:(List.range' 0 its.length).map (fun i=>ys.getD i ⟨#[]⟩)=ys:=by
  rw [hlen]
  refine List.ext_getElem? fun i=> ?_
  rw [List.getElem?_map]
  by_cases hi' :i < ys.length
  ·rw [List.getElem?_range' hi',List.getElem?_eq_getElem hi']
   simp [List.getElem?_eq_getElem hi']
  ·rw [List.getElem?_eq_none (by simp; omega),List.getElem?_eq_none (by omega)]
   rfl
 obtain ⟨c,tl,hmro⟩:=F.called_set.mro
 have hmade:=F.called_set.made
 have hsub:=F.called_set.sub
 have h1:=F.called_set.notType
 have h2:=F.called_set.canCreate
 have hct:=F.typeCall_set_1 (.ref l)
 refine wpAny_call (codeAny_of_tree (show wpAny _ _ (callAny (.type "set") _) _ _ _ from ?_))
 refine wpAny_pure ⟨Code.quiet_builtin _ (by decide+kernel),codeAny_builtin F.entry_type_call ?_⟩
 rw [Around.under_plain (weight_type_call_type "set" [.ref l] []) rfl]
 repeat any_goals (first | assumption | wp_step)
 refine codeAny_mono (code_set_new_1 (.ref l) (E:=E) (Q₁:=fun obj s₁=>∃ led:Bool,obj= .ref s.heap.objs.size/\s₁={ s with heap:=s.heap.push { cls:= .type "set",dict:=none,data:= .set #[] 0 (.fresh 0 0 led) } }) fun led=>⟨led,rfl,rfl⟩) fun r s₁ hr=> ?_
 cases r with
 | error e=>exact hr
 | ok fl=>
  cases fl with
  | ret obj=>
   obtain ⟨led,rfl,rfl⟩:=hr
   generalize hG:s.heap.push { cls:= .type "set",dict:=none,data:= .set #[] 0 (.fresh 0 0 led) }=G
   have hS:G.get? s.heap.objs.size=some { cls:= .type "set",dict:=none,data:= .set #[] 0 (.fresh 0 0 led) }:=by rw [← hG]; exact Heap.get?_push_size _ rfl
   have hGs:G.objs.size=s.heap.objs.size+1:=by rw [← hG,Heap.size_push]
   have hGk:∀ b o,s.heap.get? b=some o->G.get? b=some o:=fun b o e=>by rw [← hG]; exact Heap.get?_push_of_some _ e
   have hT:Shared.TypeIs { s with heap:=G } (.ref s.heap.objs.size) "set":=⟨_,hS,rfl⟩
   have hli:=F.called_set.init.lookup
   have hbi:=F.called_set.init.bind (.ref s.heap.objs.size)
   repeat any_goals (first | assumption | wp_step)
   refine codeAny_mono (codeAny_call_builtin (R:=wants (fun r s₂=>r= .none/\∃ h' tk,s₂={ s with heap:=h',toks:=tk }/\h'.SetOf (strKind prog w) s.heap.objs.size (fun x=>decide (x∈dd [] ys)) (dd [] ys).length/\
     (∀ b o,b < s.heap.objs.size->s.heap.get? b=some o->h'.get? b=some o)) E) F.called_set.init.plain F.entry_set_init (check_set_init_1 hT ?_)) fun r₂ s₂ hr₂=> ?_
   ·obtain ⟨⟨ocls,odict,odata,oslots⟩,hol,hcl,nl,hdl⟩:=hl
    simp only at hcl hdl
    subst hcl; subst hdl
    have hol' :=hGk _ _ hol
    have hsls:=F.sub_list_set
    have hslf:=F.sub_list_frozenset
    have hne:(Value.type "list" == Value.type "dict")=false:=by decide
    have hl1:G.IsList l its.toArray:=⟨_,hol',rfl,nl,rfl⟩
    have hlS:l < s.heap.objs.size:=Heap.lt_size hol
    unfold Builtin.«set.__init__» noKeywords Builtin.Frozenset.updateFrom
    generalize hPI:pyIter=PI
    wp_walk
    subst hPI
    refine wpAny_pyIter_list hl1 (wpAny_bind (wpAny_runValue ?_))
    have hSf:s.heap.objs.size ∉ [G.objs.size,l]:=by
     rw [hGs]
     intro z
     rcases List.mem_cons.mp z with z | z
     ·exact absurd z (Nat.ne_of_lt (Nat.lt_succ_self _))
     ·exact absurd (List.mem_singleton.mp z) (Nat.ne_of_gt hlS)
    refine VS (Walks.list (A:=A.in1.in1.in1) (by simp [hh]) G.objs.size l (by rw [hGs]; exact Nat.ne_of_lt (Nat.lt_succ_of_lt hlS)) its.toArray) s.heap.objs.size hSf (fun i=>ys.getD i ⟨#[]⟩) (fun i v e=>hget i v (by simpa using e)) (by simpa using hb) its.length 0 [] _ (by simp) (Nat.zero_le _) (Nat.le_refl _)
     ⟨⟨_,Heap.get?_push_size _ rfl,rfl,rfl⟩,hl1.push _⟩ ?_ ?_
    ·have hget' :(G.push { cls:= .type "list_iterator",data:= .fields #[.ref l, .int 0 0] }).get? s.heap.objs.size=some { cls:= .type "set",dict:=none,data:= .set #[] 0 (.fresh 0 0 led) }:=Heap.get?_push_of_some _ hS
     exact wH ((PyProof.Rows.setObjOf_fresh (knd:=strKind prog w) led).setOf hget' (by unfold scanBound; omega)) (fun o e=>e) (by funext x; simp) rfl
    ·intro h' tk' hm hS'
     rw [hys] at hS'
     refine wpAny_pure (show wpAny _ _ (ret Value.none) _ _ _ from wpAny_pure ⟨rfl,h',tk',rfl,hS',fun b o hb e=> ?_⟩)
     refine hm b o (fun z=> ?_) (Heap.get?_push_of_some _ (hGk b o e))
     rcases List.mem_cons.mp z with z | z
     ·exact absurd z (Nat.ne_of_lt hb)
     ·have z' :b=G.objs.size:=List.mem_singleton.mp z
      rw [hGs] at z'
      exact absurd z' (Nat.ne_of_lt (Nat.lt_succ_of_lt hb))
   ·cases r₂ with
    | error e=>exact hr₂
    | ok fl₂=>
     cases fl₂ with
     | ret r=>
      obtain ⟨rfl,h',tk,rfl,hS',hk'⟩:=hr₂
      repeat any_goals (first | assumption | wp_step)
      exact h _ _ hS' hk'
     | _=>exact hr₂.elim
  | _=>exact hr.elim
end
end PV
namespace PV
open PySem PySem.Spec PyProof.Rows L2
section
variable {X:Cx} {Y:Fx} {a b:Expr} {fa fb:En->R T} {pos pos' p p' :Pos}
theorem vx (hh:X.A.handled=none):JL X (.type "set") (fun vs H Q=>∃ l xs ts ys,vs=[.ref l]/\H l=some (.lst xs)/\Z2 H xs ts/\Qs ts=some ys/\ts.length+1 < 4096/\
  ∀ q,H q=none->Q (.ref q) (upd H q (.ext fun h=>h.SetOf (strKind X.prog X.w) q (fun x=>decide (x∈dd [] ys)) (dd [] ys).length))):=by
 intro pins s σ H vs us Q I rv h
 obtain ⟨l,xs,ts,ys,rfl,hl,r,ey,hb,q⟩:=h
 obtain ⟨u,rfl,ru⟩:=Ww rv
 obtain rfl:u=Value.ref l:=ru
 obtain ⟨its,rv,pl,hln,_⟩:=ZC I (.inl hl) r
 refine vw hh pl (UN r rv ey) (by unfold scanBound; omega) fun h' tk hS hk=> ?_
 refine ⟨.ref s.heap.objs.size,_,I.laid (t' :=tk) (fun b u e=>hk b u (Heap.lt_size e) e) (Nat.le_refl _) ?_,rfl,q _ (I.hok.fresh (Nat.le_refl _))⟩
 obtain ⟨o,es,ep,t,ho,rr⟩:=id hS
 exact ⟨hS,⟨o,ho⟩,fun h1 h2 ⟨o1,es1,ep1,t1,ho1,rr1⟩ e=>⟨o1,es1,ep1,t1,e _ ho1,rr1⟩⟩
theorem vy:JL X (.builtin "len") (fun vs H Q=>∃ q φ f n,vs=[.ref q]/\H q=some (.ext φ)/\(∀ h:Heap,φ h->h.SetOf (strKind X.prog X.w) q f n)/\Q (.int n) H):=by
 intro pins s σ H vs us Q I rv h
 obtain ⟨l,φ,f,n,rfl,hl,hφ,q⟩:=h
 obtain ⟨u,rfl,ru⟩:=Ww rv
 obtain rfl:u=Value.ref l:=ru
 obtain ⟨h1,_,_⟩:=(show j7 X.prog X.w H s.heap l (.ext φ) from I.hok l _ hl)
 obtain ⟨o,es,ep,t,ho,hex,hd,_,_,hb,hf,hn⟩:=hφ _ h1
 refine call_len_set ho hex hd hf ?_ ⟨.int es.size,H,I.tok _,⟨_,rfl⟩,by rw [hn]; exact q⟩
 have:es.size < 4096:=hb
 omega
noncomputable def VT:T->R T
 | .lst ts=>match Qs ts with
  | some ys=>if ts.length+1 < 4096 then .ok (.int (dd [] ys).length) else .bad
  | none=> .bad
 | _=> .bad
theorem KY (hh:X.A.handled=none) (gl:Gl X "len") (mg:X.mg "len"=none) (gl' :Gl X "set") (mg' :X.mg "set"=none) (ha:Wd X Y a fa) (hs:St1 X a:=by exact st1 rfl) (hs' :St1 X (.Call (.Name "set" p') [a] [] pos'):=by exact st1 rfl):
  Snd X Y (.Call (.Name "len" p) [.Call (.Name "set" p') [a] [] pos'] [] pos) (ap1 VT fa):= .mk fun ρ=>
 PE.imp (wF vy gl mg PySem.boot_len (zO (Wb (vx hh) gl' mg' PyProof.Rows.Boot.«set» (zO (ha ρ) ZZ hs) (by decide) (by decide) hs rfl) ZZ hs') (by decide) (by decide) hs' rfl) fun σ H Q ⟨B,I,q⟩=>
  step I q fun t v H1 _ s1 r1 I1 q1=>by
   cases r1 with
   | @lst l xs ts h r=>
    have q1:Po Y rC _ H1 (match Qs ts with | some ys=>if ts.length+1 < 4096 then .ok (.int (dd [] ys).length) else .bad | none=> .bad) Q:=q1
    split at q1
    ·rename_i ys e
     split at q1
     ·rename_i hl
      refine ⟨l,xs,ts,ys,rfl,h,r,e,hl,fun z hz=>⟨z,_,_,_,rfl,Zj,fun h hh=>hh, ?_⟩⟩
      exact q1 _ _ (zN.new hz _) (.int _)
     ·exact q1.elim
    ·exact q1.elim
   | _=>exact q1.elim
noncomputable def G6 (i j:Nat) (ga:En->R (List T)):En->RS:=fun ρ=>(ga ρ).s fun ts=>match ts with
 | [x,y]=> .nx ((ρ.set i (.vl x)).set j (.vl y))
 | _=> .bad
theorem GL {i j:Nat} {x y:Str} {ga:En->R (List T)} {px py pt pt2:Pos} {kt k2:Nat} (hc:X.calm=true) (hN:X.N.Nodup) (hi:X.N[i]? =some x) (hj:X.N[j]? =some y) (hij:i ≠ j) (hx:X.env.scope.names.lookup x=some .local) (hy:X.env.scope.names.lookup y=some .local)
  (ha:Yz X Y [a,b] ga) (hs:swappedStores [.Tuple [.Name x px, .Name y py] kt pt] (.Tuple [a,b] k2 pt2) X.env=pure (some [x,y])) (hw:swapsWithSole [.Tuple [.Name x px, .Name y py] kt pt] (.Tuple [a,b] k2 pt2) pos.line X.env=pure false:=by rfl):
  yD X Y (.Assign [.Tuple [.Name x px, .Name y py] kt pt] (.Tuple [a,b] k2 pt2) pos) (G6 i j ga):= .mk fun ρ=>
 PS.imp (Ki hc hN hi hj hij hx hy (ha ρ) hs hw) fun D σ H ⟨B,I,q⟩=>UJ I q fun ts vs H1 _ s1 r1 I1 q1=>by
  cases r1 with
  | nil=>exact q1.elim
  | cons r rr=>
   cases rr with
   | nil=>exact q1.elim
   | cons r' rr=>
    cases rr with
    | cons _ _=>exact q1.elim
    | nil=>exact ⟨_,_,rfl,q1 _ _ _ (zN.refl _) ((I1.setV i r).setV j r')⟩
end
end PV
namespace PV
open PySem PySem.Spec PyProof.Rows L2
theorem KZ {X:Cx} {E:XK}:wP CX0 X E:=fun _ _ _ _ _ _ _ h=>h.elim
section
variable {X:Cx} {Y:Fx} {a b:Expr} {fa fb:En->R T} {pos pos' p p' :Pos}
theorem XV {cl:Nat->Value} {k j n:Nat} {f:Addr} {fd:FuncData} {ps:List Str} {g:List T->R T} {x:Str} {es:List Expr} {ga:En->R (List T)} (hy:Y.cl=cl) (F:jF X.prog X.w X.K X.mg X.base CX0 j f fd ps (spP cl n g)) (hr:Wx k X.A) (hj:j<=k) (gl:Gl X x)
  (mg:X.mg x=some (.ref f)) (kp:PySem.W.keepIn X.K (.ref f)=true) (bd:L2.Binds X.K fd ps []) (ha:Yz X Y (a :: es) ga) (hd:(x == ("__debug__":Str))=false:=by decide)
  (hs:starEach (a :: es) X.env=(false,eval a X.env) :: starEach es X.env:=by exact ZL rfl) (hz:((backTo pos (starEach es X.env)).any fun x=>x.fst)=false:=by exact jP rfl):Snd X Y (.Call (.Name x p) (a :: es) [] pos) (zd n g ga):=by
 subst hy
 exact xQ F (hr.mono hj) gl mg kp bd KZ ha hd hs hz
theorem XW {x:Str} {i:Int} {u:Value} (gl:Gl X x) (mg:X.mg x=some u) (hu:∃ t,u=Value.int i t) (hd:(x == ("__debug__":Str))=false:=by decide):Snd X Y (.Name x pos) (cE (.int i)):= .mk fun ρ=>
 PE.imp (Qv (v:= .int i) gl mg hu hd) fun σ H Q ⟨B,I,q⟩=>Jj I q (.int i)
end
noncomputable def GM (scope sc0:Scope):Bool:=(scope.kind == .function) && scope.names.all (fun x=>x.2 != .cell) && scope.names.all (fun x=>x.2 != .local || scope.names.lookup x.1 == some .local) &&
 scope.names.all (fun x=>x.2 != .free || sc0.names.lookup x.1 == some .cell || sc0.names.lookup x.1 == some .free)
theorem g6 {X:Cx} {scope:Scope} (sc0:Scope) (h0:X.env.scope=sc0) (h:GM scope sc0=true):CSc X scope:=by
 unfold GM at h
 simp only [Bool.and_eq_true,List.all_eq_true] at h
 obtain ⟨⟨⟨h1,h2⟩,h3⟩,h4⟩:=h
 refine ⟨eq_of_beq h1,fun x hx=>by simpa using h2 x hx,fun x hx hl=> ?_,fun x hx hf=> ?_⟩
 ·have:=h3 x hx
  rw [hl] at this
  simpa using this
 ·have:=h4 x hx
  rw [hf] at this
  show X.env.scope.names.lookup x.1=_\/X.env.scope.names.lookup x.1=_
  rw [h0]
  simpa using this
noncomputable def GN (N N' :List Str) (scope sc0:Scope) (k:Nat) (js:List Nat):Bool:=(N'.length == k+js.length) && (List.range js.length).all fun i=>match js[i]? with
 | none=>true
 | some j=>match N'[k+i]?,N[j]? with
  | some x,some y=>(x == y) && (sc0.names.lookup x == some .cell || sc0.names.lookup x == some .free) && (scope.names.lookup x == some .free)
  | _,_=>false
theorem XX {X:Cx} {scope:Scope} {N' :List Str} {k:Nat} {js:List Nat} (N:List Str) (sc0:Scope) (hN:X.N=N) (h0:X.env.scope=sc0) (h:GN N N' scope sc0 k js=true):GK X scope N' k js:=by
 unfold GN at h
 simp only [Bool.and_eq_true,List.all_eq_true] at h
 obtain ⟨h1,h2⟩:=h
 refine ⟨eq_of_beq h1,fun i j e=> ?_⟩
 have hi:i < js.length:=(List.getElem?_eq_some_iff.mp e).1
 have q:=h2 i (List.mem_range.mpr hi)
 rw [e] at q
 dsimp only at q
 split at q
 ·rename_i x y e1 e2
  simp only [Bool.and_eq_true,Bool.or_eq_true,beq_iff_eq] at q
  obtain ⟨⟨rfl,q2⟩,q3⟩:=q
  refine ⟨x,e1,by rw [hN]; exact e2, ?_,q3, ?_⟩
  ·unfold Vis
   rw [h0]
   exact .inr q2
  ·show X.env.scope.names.lookup x=_\/X.env.scope.names.lookup x=_
   rw [h0]
   exact q2
 ·cases q
theorem ZV {X:Cx} {Y:Fx} {tg iter elt:Expr} {ifs:List Expr} {scope:Scope} {k:Nat} {js:List Nat} {fi:En->R (List T)} {tG:TG} {g:T->En->R En} {ft:En->R Bool} {fe:En->R T} (N' :List Str) (N:List Str) (sc0:Scope) (hN:X.N=N) (h0:X.env.scope=sc0)
  (h:(GM scope sc0 && GN N N' scope sc0 k js)=true) (cm:X.calm=true) (it:Vn X Y tg iter fi) (gt:VO X scope N' fun XC=>PG XC tg tG) (gk:GOk tG g) (gn:GNo g) (tt:∀ Y',Y'.cl=Y.cl->VO X scope N' fun XC=>Q4 XC Y' ifs ft)
  (el:∀ Y',Y'.cl=Y.cl->VO X scope N' fun XC=>Snd XC Y' elt fe) (hs:∀ x,foldedSetIterable iter X.env x=pure x:=by intro _; rfl):vp X Y tg iter elt ifs scope N' k js fi tG g ft fe:=by
 rw [Bool.and_eq_true] at h
 exact ⟨g6 sc0 h0 h.1,XX N sc0 hN h0 h.2,cm,it,gt,gk,gn,tt,el,hs⟩
end PV
namespace PV
open PySem PySem.Spec PyProof.Rows L2 PySem.W
section
variable {X:Cx} {Y:Fx} {a b:Expr} {fa fb:En->R T} {pos pos' p p' :Pos}
theorem XY {cl:Nat->Value} {k j n:Nat} {f:Addr} {fd:FuncData} {ps:List Str} {g:List T->R T} {x:Str} {es:List Expr} {ga:En->R (List T)} (hy:Y.cl=cl) (hp:wP (CX1 X.prog X.w) X Y.E) (F:jF X.prog X.w X.K X.mg X.base (CX1 X.prog X.w) j f fd ps (spP cl n g)) (hr:Wx k X.A) (hj:j<=k) (gl:Gl X x)
  (mg:X.mg x=some (.ref f)) (kp:PySem.W.keepIn X.K (.ref f)=true) (bd:L2.Binds X.K fd ps []) (ha:Yz X Y (a :: es) ga) (hd:(x == ("__debug__":Str))=false:=by decide)
  (hs:starEach (a :: es) X.env=(false,eval a X.env) :: starEach es X.env:=by exact ZL rfl) (hz:((backTo pos (starEach es X.env)).any fun x=>x.fst)=false:=by exact jP rfl):Snd X Y (.Call (.Name x p) (a :: es) [] pos) (zd n g ga):=by
 subst hy
 exact xQ F (hr.mono hj) gl mg kp bd hp ha hd hs hz
end
noncomputable def xV (c:Nat):En->RS:=fun _=> .ex c
section
variable {P:Program} {w:World} {K:PySem.W.Frag} {mg:Str->Option Value} {base:Heap} {N:List Str} {qual:Str} {scope:Scope} {f:Addr} {cd:Value} {A:Around} {outer:List Env} {s:Shared} {H:Hp} {E:XK} {Y:Fx}
theorem XZ {x m:Str} {C:Addr} {bm bmN:List Value} {Bn Bb newId nid initId inN:String} {np cpos pos ap:Pos} {j c:Nat} (O:OwnCls x C bm newId mg base) (Fn:ExcBaseFacts Bn newId inN bmN) (hBn:bm.contains (.type Bn)=true) (FB:ExcBaseFacts Bb nid initId bm)
  (hY:Y.E=E) (hc:Y.cl c= .ref C) (hg:Gl (U2 (CX1 P w) P w K mg base N qual scope f cd A outer s H E) x) (hd:(x == ("__debug__":Str))=false:=by decide):
  yD (U2 (CX1 P w) P w K mg base N qual scope f cd A outer s H E) Y (.Raise (some (.Call (.Name x np) [.Constant (.str m) j ap] [] cpos)) none pos) (xV c):= .mk fun ρ=>by
 subst hY
 refine PS.imp (QR O Fn hBn FB hg ((za zU zk:Yz (U2 (CX1 P w) P w K mg base N qual scope f cd A outer s H Y.E) Y [.Constant (.str m) j ap] _) ρ) (ZL rfl) hd) fun D σ H1 ⟨B,I,q⟩=>⟨B,I,fun vs H2 s2 r2=> ?_⟩
 have q:XP Y B c:=q
 refine ⟨?_, ?_⟩
 ·rw [r2.length]; exact (by decide:1<=sizeLine)
 ·have:=q none H2 (I.sH.trans s2) (I.sB.trans s2)
  rw [hc] at this
  exact this
theorem Fun.okX {x qual:Str} {st:Stmt} {f:Addr} {fd:FuncData} {N ps:List Str} {k:Nat} {sp:Sp} (F:Fun K x qual st f fd) (S:zv N ps (ze st)) (len:∀ vs H Q E,sp vs H Q E->vs.length=ps.length)
  (hbody:∀ (cdv:Value) (A:Around) (outer:List Env) (s:Shared) (H:Hp) (vs:List V) (Q:VK) (E:XK),Wx k (A.deeper (envOfC qual (ze st) s.heap.objs.size f cdv))->sp vs H Q E->
   ∃ t,PSs (U2 (CX1 P w) P w K mg base N qual (ze st) f cdv A outer s H E) (jy st) t/\t { nx:=fun _ H' =>Q .non H',rt:=Q } (start N vs) H):jF P w K mg base (CX1 P w) (k+1) f fd ps sp:=by
 obtain ⟨oc,od,kV,doc,pm,an,cdv,ct,osl,rfl,lk,hcd⟩:=F.ex
 exact Kt lk hcd S len fun A outer s H vs Q E hr hsp=>hbody cdv A outer s H vs Q E hr hsp
theorem xW {cl:Nat->Value} {x qual:Str} {st:Stmt} {f:Addr} {fd:FuncData} {N ps:List Str} {k n:Nat} {fb:En->RS} {g:List T->R T} (F:Fun K x qual st f fd) (S:zv N ps (ze st)) (hn:n=ps.length)
  (hb:∀ (cdv:Value) (A:Around) (outer:List Env) (s:Shared) (H:Hp) (E:XK) (Y:Fx),Y.cl=cl->Y.E=E->Wx k (A.deeper (envOfC qual (ze st) s.heap.objs.size f cdv))->
   Q3 (U2 (CX1 P w) P w K mg base N qual (ze st) f cdv A outer s H E) Y (jy st) fb)
  (hg:∀ ts,ts.length=n->g ts=zp (fb (en0 N.length ts))):jF P w K mg base (CX1 P w) (k+1) f fd ps (spP cl n g):=by
 subst hn
 refine Fun.okX F S spP.len fun cdv A outer s H vs Q E hr ⟨B,ts,hl,sB,r,q⟩=> ?_
 refine ⟨_,hb cdv A outer s H E ⟨B,H,E,cl⟩ rfl rfl hr (en0 N.length ts),B,SI.start (Y:=⟨B,H,E,cl⟩) sB r, ?_⟩
 rw [hg ts hl] at q
 revert q
 cases fb (en0 N.length ts) with
 | rt t=>exact fun q v H' s r=>q v H' s r
 | rf t=>exact fun q a xs H' B' s0 n e r _ l=>q (.ref a) H' s0 (.lst (by rw [ZM n]; exact e) (r.mono l))
 | nx ρ=>exact fun q σ' H' B' s' I' =>q _ H' I'.sH .non
 | bk ρ=>exact fun q=>q.elim
 | ct ρ=>exact fun q=>q.elim
 | ex c=>exact fun q=>q
 | bad=>exact fun q=>q
end
noncomputable def k6 (k:Nat) (ok:Nat->Bool) (fb:En->RS):En->RS:=fun ρ=>match fb ρ with
 | .ex c=>if ok c=true then .nx ((List.replicate ρ.length Sl.un).set k (.xc c)) else .bad
 | r=>r
theorem SI.wish {Y:Fx} {B:Hp} {ρ:En} {σ:Sg} {H:Hp} (I:SI Y B ρ σ H) (E:XK):SI { Y with E:=E } B ρ σ H:=⟨I.s0,I.sH,I.sB,I.old,I.len,I.vl,I.ow,I.xc⟩
theorem SI.unwish {Y:Fx} {B:Hp} {ρ:En} {σ:Sg} {H:Hp} {E:XK} (I:SI { Y with E:=E } B ρ σ H):SI Y B ρ σ H:=⟨I.s0,I.sH,I.sB,I.old,I.len,I.vl,I.ow,I.xc⟩
theorem SI.caught {Y:Fx} {B:Hp} {σ:Sg} {H' :Hp} {ea:Addr} {c k m:Nat} (s0:zN Y.B0 Y.H0) (old:∀ b o,Y.H0 b=some o->B b=Y.B0 b) (hH:zN Y.H0 H') (hB:zN B H') (he:H' ea=none) (hl:m=σ.length) (hk:σ[k]? =some (some (V.ref ea))):
  ∃ B',zN B B' /\SI Y B' ((List.replicate m Sl.un).set k (.xc c)) σ (upd H' ea (.ext (Yy (Y.cl c) ea))):=by
 have up:zN H' (upd H' ea (.ext (Yy (Y.cl c) ea))):=zN.new he _
 have h0:Y.H0 ea=none:=hH.free he
 refine ⟨Zo Y.B0 Y.H0 (upd H' ea (.ext (Yy (Y.cl c) ea))),fun b o e=> ?_,⟨s0,hH.trans up,fun b o e=> ?_,fun b o e=>by rw [ZU e],by rw [List.length_set,List.length_replicate,hl],fun i t e=> ?_,fun i ts e=> ?_,fun i d e=> ?_⟩⟩
 ·cases q:Y.H0 b with
  | none=>rw [ZM q]; exact up b o (hB b o e)
  | some u=>rw [ZU q,← old b u q]; exact e
 ·cases q:Y.H0 b with
  | none=>rw [ZM q] at e; exact e
  | some u=>rw [ZU q] at e; exact up b o (hH b o (s0 b o e))
 ·rcases Z5 e with ⟨_,z⟩ | ⟨_,z⟩
  ·cases z
  ·rw [List.getElem?_replicate] at z; split at z <;> cases z
 ·rcases Z5 e with ⟨_,z⟩ | ⟨_,z⟩
  ·cases z
  ·rw [List.getElem?_replicate] at z; split at z <;> cases z
 ·rcases Z5 e with ⟨rfl,z⟩ | ⟨_,z⟩
  ·cases z
   exact ⟨ea,hk,by rw [ZM h0,Zj]⟩
  ·rw [List.getElem?_replicate] at z; split at z <;> cases z
theorem GO {X:Cx} {Y:Fx} {fb:En->RS} {body:List Stmt} {c n y:Str} {C:Addr} {cp np yp hp apos pos:Pos} {i k:Nat} {ok:Nat->Bool}
  (hX:X.stack=X.env :: X.outer) (hf:X.env.frame=some X.env.locals) (hN:X.N.Nodup)
  (hi:X.N[i]? =some n) (hl:X.env.scope.names.lookup n=some .local) (hk:X.N[k]? =some y) (hy:X.env.scope.names.lookup y=some .local) (hik:i ≠ k)
  (hg:Gl X c) (hm:X.mg c=some (.ref C)) (hok:∀ c,ok c=true->exmOne X.K (Y.cl c) (.ref C)=some true)
  (hb:∀ (E' :XK) (pn:List (Addr×Obj)) (xe:Value->Shared->Prop),wP (CX1 X.prog X.w) (X.try' pn xe) E' ->Q3 (X.try' pn xe) { Y with E:=E' } body fb)
  (hs:swapsWith (.Name n np) (some (.Name y yp)) apos.line X.env=pure false:=by rfl)
  (hdc:(c == ("__debug__":Str))=false:=by decide) (hdn:(n == ("__debug__":Str))=false:=by decide) (hcd:(n == ("__classdict__":Str))=false:=by decide):
  yD X Y (.Try body [.ExceptHandler (some (.Name c cp)) (some n) [.Assign [.Name y yp] (.Name n np) apos] hp] [] [] pos) (k6 k ok fb):= .mk fun ρ=>by
 refine PS.imp (Xv (tb:=fun E' =>tSS { Y with E:=E' } fb ρ) hX hf hN hi hl hk hy hg hm (fun E' pn xe p=>hb E' pn xe p ρ) hs hdc hdn hcd) fun D σ H ⟨B,I,q⟩=> ?_
 refine ⟨fun cls _ H' =>zN Y.H0 H' /\zN B H' /\∃ c,cls=Y.cl c/\ok c=true/\PoS Y B (.nx ((List.replicate ρ.length Sl.un).set k (.xc c))) D,fun cls d H' ea σ' ⟨s1,s2,c,e1,e2,q1⟩=> ?_,B,I.wish _, ?_⟩
 ·subst e1
  refine ⟨hok c e2,fun he hl' hX' => ?_⟩
  have hkl:k < σ'.length:=by rw [hl',hX']; exact (List.getElem?_eq_some_iff.mp hk).1
  have hlen:ρ.length=((((σ'.set i (some (V.ref ea))).set k (some (V.ref ea))).set i none):Sg).length:=by
   rw [List.length_set,List.length_set,List.length_set,hl',I.len]
  obtain ⟨B',b1,b2⟩:=SI.caught (c:=c) (σ:=((σ'.set i (some (V.ref ea))).set k (some (V.ref ea))).set i none) (k:=k) I.s0 I.old s1 s2 he hlen (by
   rw [List.getElem?_set_ne hik,List.getElem?_set_self (by rw [List.length_set]; exact hkl)])
  exact q1 _ _ B' b1 b2
 ·unfold k6 at q
  cases e:fb ρ with
  | nx ρ' =>rw [e] at q; exact fun σ' H' B' s' I' =>q σ' H' B' s' I'.unwish
  | rt t=>rw [e] at q; exact q
  | rf t=>rw [e] at q; exact q
  | bk ρ' =>rw [e] at q; exact fun σ' H' B' s' I' =>q σ' H' B' s' I'.unwish
  | ct ρ' =>rw [e] at q; exact fun σ' H' B' s' I' =>q σ' H' B' s' I'.unwish
  | bad=>rw [e] at q; exact q
  | ex c=>
   rw [e] at q
   dsimp only at q
   split at q
   ·rename_i hc
    exact fun d H' s1 s2=>⟨s1,s2,c,rfl,hc,q⟩
   ·exact q.elim
end PV
namespace PySem.W
open PySem PySem.Calls PyProof.Rows PySem.Spec Builtin Builtin.ObjectAttr Builtin.Getset_descriptor
section
variable {prog:Program} {w:World} {A:Around} {E:Value->Shared->Prop} {s:Shared} {K:Frag} {x C:Addr}
theorem yH {tp:Value} {R:Result->Shared->Prop} (X:K.In s.heap) (L0:Looks (model prog w) s.heap (typeOf (.ref x)) (.ref C)) (hm:mroIn K C (.type "object")=some true)
  (h:R (.ok (.ret (.ref C))) s):codeAny (model prog w) A (.call (.builtin "getset_descriptor.__get__") ⟨[.builtin "object.__class__", .ref x,tp],[]⟩) R s:=by
 obtain ⟨hh,g,dr,t,os⟩:=s
 have L1:=looks_mroIn (M:=model prog w) X hm
 refine codeAny_call_builtin KF.slot_gs.plain KF.entry_gs (KF.slot_gs.check _ _ _ _ _ _ _ _ KF.type_class (KF.args_gs _ _ _) ?_)
 unfold Builtin.«getset_descriptor.__get__» descrGet
 rw [dga_obj]
 refine wpAny_bind (wpAny_pure ?_)
 unfold descrGetter descrCheckInstance descrNameAndClass isInstance
 simp only [KF.owner_class]
 repeat lk
 refine ⟨Code.quiet_builtin _ (by decide+kernel),codeAny_builtin KF.entry_class ?_⟩
 unfold Builtin.«object.__class__» shownTypeOf
 repeat lk
 exact h
theorem k7 {M:Model} {h:Heap} (X:K.In h) (ha:findIn K (.ref C) "__class__"=some (some (.builtin "object.__class__"))) (hn:specialIn K (.builtin "object.__class__") "__get__"=some (some (.builtin "getset_descriptor.__get__")))
  (htk:takesIn K (.builtin "object.__class__")=some true):Looks M h (find (.ref x) (.ref C) "__class__") (.bind (.builtin "getset_descriptor.__get__") (.builtin "object.__class__")):=by
 have L1:=looks_findIn (M:=M) X ha
 have L2:Looks M h (getOf (some (.builtin "object.__class__"))) (some (.builtin "getset_descriptor.__get__")):=looks_specialIn X hn
 have L3:=looks_takesIn (M:=M) X htk
 refine L1.andThen (L2.andThen ?_)
 exact (show Looks M h (dataDescriptor? (some (.builtin "object.__class__")) (some (.builtin "getset_descriptor.__get__"))) (some (.builtin "getset_descriptor.__get__", .builtin "object.__class__")) from L3.andThen .now).andThen (Looks.tag .now)
theorem VU {M:Model} {nameV:Value} {Q:Unit->Shared->Prop} (L0:Looks M s.heap (typeOf (.ref x)) (.ref C)) (L1:Looks M s.heap (isSubtype (.ref C) (.type "BaseException")) true) (hq:Q () s):wpAny M A (checkBuiltinCall "BaseException.__getattribute__" ⟨[.ref x,nameV],[]⟩) Q E s:=by
 have hk:builtinKind "BaseException.__getattribute__"=some .slot:=by decide+kernel
 have hsplit:splitId "BaseException.__getattribute__"=some ("BaseException","__getattribute__"):=by decide+kernel
 have ha:=PySem.F.args_bexc_ga (.ref x) nameV
 obtain ⟨hh,g,d,t,os⟩:=s
 simp only [checkBuiltinCall,hk,hsplit]
 refine wpAny_bind ?_
 unfold isInstance
 repeat (first | lk | wp_step)
 exact hq
end
end PySem.W
namespace PySem.W
open PySem PySem.Calls PyProof.Rows PySem.Spec Builtin Builtin.ObjectAttr Builtin.Getset_descriptor
section
variable {prog:Program} {w:World} {A:Around} {E:Value->Shared->Prop} {s:Shared} {K:Frag} {x C:Addr}
structure XCls (K:Frag) (C:Addr):Prop where
 ga:findIn K (.ref C) "__getattribute__"=some (some (.builtin "BaseException.__getattribute__"))
 gt:findIn K (.ref C) "__getattr__"=some none
 ca:findIn K (.ref C) "__class__"=some (some (.builtin "object.__class__"))
 sp:specialIn K (.builtin "object.__class__") "__get__"=some (some (.builtin "getset_descriptor.__get__"))
 tk:takesIn K (.builtin "object.__class__")=some true
 ob:mroIn K C (.type "object")=some true
 be:mroIn K C (.type "BaseException")=some true
 cl:(clsIn K C).isSome=true
theorem VV {tk:Tok} {Q:Fin->Shared->Prop} (X:K.In s.heap) (c:XCls K C) (L0:Looks (model prog w) s.heap (typeOf (.ref x)) (.ref C)) (hq:Q (.done (.ret (.ref C))) s):
  wpAny (model prog w) A (Builtin.«object.__getattribute__» ⟨[.ref x, .str "__class__" tk],[]⟩) Q E s:=by
 obtain ⟨hh,g,d,t,os⟩:=s
 have L1:=k7 (M:=model prog w) (x:=x) X c.ca c.sp c.tk
 refine wpAny_bind (wpAny_pure (wpAny_bind (wpAny_pure (wpAny_bind (L0.at (wpAny_bind (L1.at ?_)))))))
 show wpAny _ _ (bindTo _ _ _ _) _ _ _
 unfold bindTo
 refine wpAny_bind (wpAny_call (yH X L0 c.ob ?_))
 exact wpAny_pure hq
end
end PySem.W
namespace PySem.W
open PySem PySem.Calls PyProof.Rows PySem.Spec Builtin Builtin.ObjectAttr Builtin.Getset_descriptor
section
variable {prog:Program} {w:World} {A:Around} {E:Value->Shared->Prop} {s:Shared} {K:Frag} {x C:Addr}
theorem VW {Q:Option Value->Shared->Prop} (X:K.In s.heap) (c:XCls K C) (L0:Looks (model prog w) s.heap (typeOf (.ref x)) (.ref C)) (h:Q (some (.ref C)) { s with toks:=s.toks+1 }):wpAny (model prog w) A (getAttr? (.ref x) "__class__") Q E s:=by
 obtain ⟨hh,g,d,t,os⟩:=s
 have L1:=looks_findIn (M:=model prog w) X c.ga
 have L2:=looks_findIn (M:=model prog w) X c.gt
 have L3:=looks_mroIn (M:=model prog w) X c.be
 have fb:=PySem.F.attr_ValueError.ga.bind (.ref x)
 unfold getAttr? getAttrBy? getAttrBy
 refine wpAny_bind (wpAny_mkText (wpAny_bind (wpAny_attempt (wpAny_holding (wpAny_bind (L0.at (wpAny_bind (L1.at ?_))))))))
 dsimp only
 have hx2:(Value.builtin "BaseException.__getattribute__" == Value.builtin "object.__getattribute__")=false:=by decide+kernel
 rw [if_neg (by rw [hx2]; simp)]
 unfold getAttrByItsOwn hookBefore
 refine wpAny_bind ?_
 rw [if_pos (by rfl)]
 refine L2.at ?_
 refine wpAny_bind (wpAny_attempt (wpAny_holding ?_))
 unfold callGetattribute
 rw [if_neg (by simp)]
 unfold boundAndCalled
 rw [fb]
 refine wpAny_bind (wpAny_pure ?_)
 refine wpAny_call (codeAny_call_builtin PySem.F.attr_ValueError.ga.plain PySem.F.entry_bexc_ga (VU (s:=⟨hh,g,d,t+1,os⟩) L0 L3 (VV (s:=⟨hh,g,d,t+1,os⟩) X c L0 ?_)))
 exact handed_on rfl (wpAny_pure h)
theorem k8 (c:XCls K C):KitX K (.ref x) (.ref C) (fun h=>∃ o,h.get? x=some o/\o.cls= .ref C) where
 ty:=fun M h _ ⟨o,h1,h2⟩=>h2 ▸ (Looks.ld h1).andThen .now
 it:=fun _ _ X _=>by
  obtain ⟨cdD,hcD⟩:=Option.isSome_iff_exists.mp c.cl
  unfold clsIn at hcD
  split at hcD
  ·rename_i c' d' cd' sl' ho
   intro A' Q' E' s' k q
   unfold isType loadHead
   exact wpAny_bind (wpAny_loadPart (k _ _ (X _ _ ho)) (wpAny_pure q))
  ·cases hcD
 ne:=fun h tp dd its n sl X htp=>by
  obtain ⟨cdD,hcD⟩:=Option.isSome_iff_exists.mp c.cl
  refine Bool.eq_false_iff.mpr fun q=> ?_
  have e:C=tp:=Value.ref.inj (beq_iff_eq.mp q)
  subst e
  unfold clsIn at hcD
  split at hcD
  ·rename_i c' d' cd' sl' ho
   have z:=(X _ _ ho).symm.trans htp
   cases z
  ·cases hcD
 ca:=fun {prog w A E Q s} X ⟨o,h1,h2⟩ k=>VW X c (h2 ▸ (Looks.ld h1).andThen .now) k
end
end PySem.W
namespace PV
open PySem PySem.Spec PyProof.Rows L2 PySem.W
section
variable {X:Cx} {Y:Fx} {a b:Expr} {fa fb:En->R T} {pos pos' p p' :Pos}
noncomputable def ut (i:Nat) (ok tab:Nat->Bool):En->R T:=fun ρ=>match ρ[i]? with
 | some (.xc c)=>if ok c=true then .ok (.bl (tab c)) else .bad
 | _=> .bad
theorem yI:JL X (.builtin "isinstance") (fun xs H Q=>∃ a C v b,xs=[.ref a,v]/\H a=some (.ext (Yy (.ref C) a))/\XCls X.K C/\(∀ u,jf v u->kitOne X.K (.ref C) u=some b)/\Q (.bl b) H):=by
 intro pins s σ H xs us Q I rv h
 obtain ⟨a,C,v,b,rfl,e,c,hk,q⟩:=h
 obtain ⟨u,w,rfl,ru,rw'⟩:=QE rv
 obtain rfl:u=Value.ref a:=ru
 obtain ⟨hx,_,_⟩:=(show j7 X.prog X.w H s.heap a (.ext (Yy (.ref C) a)) from I.hok a _ e)
 exact kia_one (k8 c) I.kIn hx (hk w rw') (fun z=>nomatch z) fun tk=>⟨.bl _,H,I.tok tk,rfl,q⟩
structure XK1 (K:Frag) (cl:Nat->Value) (ok:Nat->Bool):Prop where
 at_:∀ c,ok c=true->∃ C,cl c= .ref C/\XCls K C
theorem WA {i:Nat} {ok tab:Nat->Bool} {y cn:Str} {C:Addr} {yp cp:Pos} (hK:XK1 X.K Y.cl ok) (ht:∀ c,ok c=true->kitOne X.K (Y.cl c) (.ref C)=some (tab c)) (gl:Gl X "isinstance") (mg:X.mg "isinstance"=none) (hv:PE X (.Name y yp) (Qu i)) (gl' :Gl X cn) (mg' :X.mg cn=some (.ref C))
  (hd:(cn == ("__debug__":Str))=false:=by decide):Snd X Y (.Call (.Name "isinstance" p) [.Name y yp, .Name cn cp] [] pos) (ut i ok tab):= .mk fun ρ=>
 PE.imp (wF yI gl mg PyProof.Rows.Boot.«isinstance» (zO hv (zO (Qv (v:= .ref C) gl' mg' rfl hd) ZZ (st1 rfl)) (st2 rfl rfl)) (by decide) (by decide) (by rw [st2 rfl rfl,st1 rfl]) (jP rfl)) fun σ H Q ⟨B,I,q⟩=>by
  unfold ut at q
  split at q
  ·rename_i c e
   split at q
   ·rename_i hc
    obtain ⟨a,e1,r⟩:=I.xc i c e
    obtain ⟨Cc,e2,xc⟩:=hK.at_ c hc
    have ht' :=ht c hc
    rw [e2] at r ht'
    exact ⟨_,e1,a,Cc,_,_,rfl,I.sB a _ r,xc,fun u ru=>by obtain rfl:u=Value.ref C:=ru; exact ht',Jj I q (.bl _)⟩
   ·exact q.elim
  ·exact q.elim
theorem k9 {i:Nat} {ok tab:Nat->Bool} {y:Str} {n:String} {yp cp:Pos} (hK:XK1 X.K Y.cl ok) (ht:∀ c,ok c=true->kitOne X.K (Y.cl c) (.type n)=some (tab c)) (gl:Gl X "isinstance") (mg:X.mg "isinstance"=none) (hv:PE X (.Name y yp) (Qu i)) (gl' :Gl X (Str.ofString n)) (mg' :X.mg (Str.ofString n)=none)
  (bt:bootBuiltins (Str.ofString n)=some (.type n)) (hn:Str.ofString n ≠ "__name__":=by decide) (hd:(Str.ofString n == ("__debug__":Str))=false:=by decide):Snd X Y (.Call (.Name "isinstance" p) [.Name y yp, .Name (Str.ofString n) cp] [] pos) (ut i ok tab):= .mk fun ρ=>
 PE.imp (wF yI gl mg PyProof.Rows.Boot.«isinstance» (zO hv (zO (Qw (v:= .ty n) gl' mg' bt rfl hn hd) ZZ (st1 rfl)) (st2 rfl rfl)) (by decide) (by decide) (by rw [st2 rfl rfl,st1 rfl]) (jP rfl)) fun σ H Q ⟨B,I,q⟩=>by
  unfold ut at q
  split at q
  ·rename_i c e
   split at q
   ·rename_i hc
    obtain ⟨a,e1,r⟩:=I.xc i c e
    obtain ⟨Cc,e2,xc⟩:=hK.at_ c hc
    have ht' :=ht c hc
    rw [e2] at r ht'
    exact ⟨_,e1,a,Cc,_,_,rfl,I.sB a _ r,xc,fun u ru=>by obtain rfl:u=Value.type n:=ru; exact ht',Jj I q (.bl _)⟩
   ·exact q.elim
  ·exact q.elim
noncomputable def g9 (i:Nat):En->R Bool:=fun ρ=>match ρ[i]? with
 | some (.xc _)=> .ok false
 | some (.vl t)=>v9 t .non
 | _=> .bad
theorem gc:OpR X (compareOp .Is) (fun x y H Q=>y= .non/\((∃ a,x= .ref a/\Q (.bl false) H)\/∃ t b,Rep H x t/\v9 t .non= .ok b/\Q (.bl b) H)):=by
 intro pins s σ H x y v u Q I rx ry h
 obtain ⟨rfl,h⟩:=h
 rcases h with ⟨a,rfl,q⟩ | ⟨t,b,r,e,q⟩
 ·obtain rfl:u=Value.none:=ry
  obtain rfl:v=Value.ref a:=rx
  exact wpAny_is_plain rfl ⟨.bl false,H,I,rfl,q⟩
 ·exact KK pins s σ H x .non v u Q I rx ry ⟨t, .non,b,r, .non,e,q⟩
theorem gd {i:Nat} {y:Str} {yp:Pos} {j:Nat} (hv:PE X (.Name y yp) (Qu i)):Yp X Y (.Compare (.Name y yp) [.Is] [.Constant .none j p'] pos) (g9 i):= .mk fun ρ=>
 PT.imp (QD gc hv xH (by rfl)) fun σ H Q ⟨B,I,q⟩=>by
  unfold g9 at q
  split at q
  ·rename_i c e
   obtain ⟨a,e1,r⟩:=I.xc i c e
   exact ⟨_,e1,rfl, .inl ⟨a,rfl,false,rfl,Jj I q rfl⟩⟩
  ·rename_i t e
   obtain ⟨v,e1,r⟩:=I.vl i t e
   refine ⟨v,e1,rfl, .inr ?_⟩
   cases ek:v9 t .non with
   | bad=>rw [ek] at q; exact q.elim
   | ex c=>exact absurd ek (XG _ _ _)
   | ok b=>rw [ek] at q; exact ⟨t,b,r.mono I.sB,ek,b,rfl,Jj I q rfl⟩
  ·exact q.elim
noncomputable def spC (cl:Nat->Value) (gx:Nat->R T):Sp:=fun vs H Q E=>∃ B a c,vs=[V.ref a]/\zN B H/\B a=some (.ext (Yy (cl c) a))/\Po ⟨B,H,E,cl⟩ rC B H (gx c) Q
noncomputable def ka (i:Nat) (gx:Nat->R T):En->R T:=fun ρ=>match ρ[i]? with
 | some (.xc c)=>gx c
 | _=> .bad
theorem kb {cl:Nat->Value} {k j i:Nat} {f:Addr} {fd:FuncData} {q:Str} {gx:Nat->R T} {x y:Str} {yp:Pos} (hy:Y.cl=cl) (F:jF X.prog X.w X.K X.mg X.base CX0 j f fd [q] (spC cl gx)) (hr:Wx k X.A) (hj:j<=k) (gl:Gl X x)
  (mg:X.mg x=some (.ref f)) (kp:PySem.W.keepIn X.K (.ref f)=true) (bd:L2.Binds X.K fd [q] []) (hv:PE X (.Name y yp) (Qu i)) (hd:(x == ("__debug__":Str))=false:=by decide):Snd X Y (.Call (.Name x p) [.Name y yp] [] pos) (ka i gx):= .mk fun ρ=>
 PE.imp (QJ F (hr.mono hj) gl mg kp bd .nil (KZ (E:=Y.E)) (zO hv ZZ (st1 rfl)) hd (st1 rfl) rfl) fun σ H Q ⟨B,I,q⟩=>by
  subst hy
  unfold ka at q
  split at q
  ·rename_i c e
   obtain ⟨a,e1,r⟩:=I.xc i c e
   refine ⟨_,e1,B,a,c,rfl,I.sB,r, ?_⟩
   revert q
   cases gx c with
   | bad=>exact fun q=>q
   | ex c=>exact fun q d H' s sB=>q d H' (I.sH.trans s) sB
   | ok t=>exact fun q=>q
  ·exact q.elim
end
section
variable {P:Program} {w:World} {K:PySem.W.Frag} {mg:Str->Option Value} {base:Heap}
noncomputable def enC (n c:Nat):En:= .xc c :: List.replicate (n - 1) .un
theorem SI.startC {Y:Fx} {N:List Str} {a:Addr} {c:Nat} (s:zN Y.B0 Y.H0) (hN:1<=N.length) (r:Y.B0 a=some (.ext (Yy (Y.cl c) a))):SI Y Y.B0 (enC N.length c) (L2.start N [V.ref a]) Y.H0 where
 s0:=s
 sH:=zN.refl _
 sB:=s
 old:=fun _ _ _=>rfl
 len:=by unfold enC L2.start; simp
 vl:=fun i t h=>by
  unfold enC at h
  cases i with
  | zero=>cases h
  | succ i=>rw [List.getElem?_cons_succ,List.getElem?_replicate] at h; split at h <;> cases h
 ow:=fun i t h=>by
  unfold enC at h
  cases i with
  | zero=>cases h
  | succ i=>rw [List.getElem?_cons_succ,List.getElem?_replicate] at h; split at h <;> cases h
 xc:=fun i d h=>by
  unfold enC at h
  cases i with
  | zero=>
   cases h
   exact ⟨a,by unfold L2.start; rfl,r⟩
  | succ i=>rw [List.getElem?_cons_succ,List.getElem?_replicate] at h; split at h <;> cases h
theorem gf {cl:Nat->Value} {x qual q:Str} {st:Stmt} {f:Addr} {fd:FuncData} {N:List Str} {k:Nat} {fb:En->RS} {gx:Nat->R T} (F:Fun K x qual st f fd) (S:zv N [q] (ze st)) (hN:1<=N.length)
  (hb:∀ (cdv:Value) (A:Around) (outer:List Env) (s:Shared) (H:Hp) (E:XK) (Y:Fx),Y.cl=cl->Wx k (A.deeper (envOfC qual (ze st) s.heap.objs.size f cdv))->
   Q3 (U2 CX0 P w K mg base N qual (ze st) f cdv A outer s H E).nox Y (jy st) fb)
  (hg:∀ c,gx c=zp (fb (enC N.length c))):jF P w K mg base CX0 (k+1) f fd [q] (spC cl gx):=by
 refine F.ok S (fun vs H Q E ⟨_,_,_,e,_⟩=>by rw [e]; rfl) fun cdv A outer s H vs Q E hr ⟨B,a,c,e,sB,r,q⟩=> ?_
 subst e
 refine ⟨_,hb cdv A outer s H E ⟨B,H,E,cl⟩ rfl hr (enC N.length c),B,SI.startC (Y:=⟨B,H,E,cl⟩) sB hN r, ?_⟩
 rw [hg c] at q
 revert q
 cases fb (enC N.length c) with
 | rt t=>exact fun q v H' s r=>q v H' s r
 | rf t=>exact fun q a xs H' B' s0 n e r _ l=>q (.ref a) H' s0 (.lst (by rw [ZM n]; exact e) (r.mono l))
 | nx ρ=>exact fun q σ' H' B' _ I=>q .non H' I.sH .non
 | ex c=>exact fun q=>q
 | bk ρ=>exact fun q=>q.elim
 | ct ρ=>exact fun q=>q.elim
 | bad=>exact fun q=>q
end
end PV
namespace PySem.ZG
open PySem PySem.Spec PySem.Builtin.SmallTypes
structure YD (i:Addr) (fp:List Addr) (v:Nat->Option Value) (St:Nat->Heap->Prop):Prop where
 mem:i∈fp
 item:∀ {prog:Program} {w:World} {A:Around} {E:Value->Shared->Prop} {s:Shared} {Q:Value->Shared->Prop} {k:Nat} {x:Value},St k s.heap->v k=some x->(∀ h',St (k+1) h' ->Heap.SameBut i s.heap h' ->Q x { s with heap:=h' })->wpAny (model prog w) A (nextOf (.ref i)) Q E s
 stop:∀ {prog:Program} {w:World} {A:Around} {E:Value->Shared->Prop} {s:Shared} {Q:Value->Shared->Prop} {k:Nat},A.handled=none->St k s.heap->v k=none->(∀ h' e,Heap.ExtBut i s.heap h' ->(∃ o,h'.get? e=some o/\o.cls= .type "StopIteration")->E (.ref e) { s with heap:=h' })->wpAny (model prog w) A (nextOf (.ref i)) Q E s
 keep:∀ {k:Nat} {h h' :Heap},St k h->(∀ b∈fp,∀ o,h.get? b=some o->h'.get? b=some o)->St k h'
 there:∀ {k:Nat} {h:Heap},St k h->∀ b∈fp,∃ o,h.get? b=some o
theorem YD.but {i:Addr} {fp:List Addr} {v:Nat->Option Value} {St:Nat->Heap->Prop} (N:YD i fp v St) {k:Nat} {h h' :Heap} {b:Addr} (x:St k h) (e:Heap.ExtBut b h h') (n:b ∉ fp):St k h' :=
 N.keep x fun c hc o q=>e c o (fun z=>n (z ▸ hc)) q
theorem kd {i l:Addr} (hil:l ≠ i) (xs:Array Value):YD i [i,l] (fun k=>xs[k]?) (fun k h=>h.IsListIter i l k/\h.IsList l xs) where
 mem:= .head _
 item:=fun st hx h=>wpAny_nextOf_list_item st.1 st.2 hx fun h' a b=>h h' ⟨a,st.2.extBut b.extBut hil⟩ b
 stop:=fun hh st hx h=>wpAny_nextOf_list_end hh st.1 st.2 hx h
 keep:=fun st k=>⟨st.1.at fun o e=>k i (.head _) o e,st.2.at fun o e=>k l (.tail _ (.head _)) o e⟩
 there:=fun st b hb=>by
  obtain ⟨⟨o,e,_⟩,o2,e2,_⟩:=st
  rcases List.mem_cons.mp hb with z | hb
  ·exact ⟨o,z ▸ e⟩
  ·exact ⟨o2,(List.mem_singleton.mp hb) ▸ e2⟩
end PySem.ZG
namespace PySem.ZG
open PySem PySem.Spec PySem.Builtin.SmallTypes
section
variable {prog:Program} {w:World} {A:Around} {E:Value->Shared->Prop} {s:Shared} {it l:Addr} {k:Nat} {xs:Array Value} {Q:Value->Shared->Prop}
theorem qv (hit:s.heap.IsTupleIter it l k) (h:wpAny (model prog w) A.in1 (Builtin.«tuple_iterator.__next__» ⟨[.ref it],[]⟩) (fun fin s' =>∃ v,fin= .done (.ret v)/\Q v s') E s):wpAny (model prog w) A (nextOf (.ref it)) Q E s:=by
 unfold nextOf
 exact wpAny_bind (wpAny_callSpecial?_slot (name:=Str.ofString "__next__") hit.typeIs PySem.F.slot_tuple_iterator_next (wpAny_call_entry PySem.F.slot_tuple_iterator_next hit.typeIs PySem.F.entry_tuple_iterator_next
  (wpAny_mono h (fun fin s' ⟨v,e,q⟩=>⟨v,e,wpAny_pure q⟩) fun _ _ z=>z) (PySem.F.args_tuple_iterator_next_1 _)))
theorem VX (hit:s.heap.IsTupleIter it l k) (ht:s.heap.IsTuple l xs) {x:Value} (hx:xs[k]? =some x) (h:∀ h',h'.IsTupleIter it l (k+1)->Heap.SameBut it s.heap h' ->Q x { s with heap:=h' }):wpAny (model prog w) A (nextOf (.ref it)) Q E s:=by
 refine qv hit ?_
 obtain ⟨o,ho,hc,hd⟩:=id hit
 obtain ⟨ol,hol,_,nl,hdl⟩:=ht
 refine wpAny_bind (m:=field (.ref it) 0) (wpAny_field ho hd (x:= .ref l) rfl ?_)
 rw [if_neg (show ¬((Value.ref l == Value.none)=true) by exact Bool.false_ne_true)]
 refine wpAny_bind (m:=field (.ref it) 1) (wpAny_field ho hd (x:= .int k 0) rfl (wpAny_bind (m:=seqItems? (.ref l)) (wpAny_seqItems hol hdl ?_)))
 simp only [Int.toNat_natCast,hx]
 have g:=Heap.get?_update_self (Obj.mapFields (·.setIfInBounds 1 (rawInt (k+1:Nat)))) ho (Obj.isFreed_of_fields (Obj.data_mapFields hd _))
 refine wpAny_bind (wpAny_setField ho hd (by simp) (wpAny_pure ⟨x,rfl,h _ ⟨_,g,(Obj.cls_mapFields ..).trans hc, ?_⟩ (Heap.SameBut.update ..)⟩))
 rw [Obj.data_mapFields hd]; simp [rawInt]
theorem VY (hh:A.handled=none) (hit:s.heap.IsTupleIter it l k) (ht:s.heap.IsTuple l xs) (hx:xs[k]? =none)
  (h:∀ h' e,Heap.ExtBut it s.heap h' ->(∃ o,h'.get? e=some o/\o.cls= .type "StopIteration")->E (.ref e) { s with heap:=h' }):wpAny (model prog w) A (nextOf (.ref it)) Q E s:=by
 refine qv hit ?_
 obtain ⟨o,ho,hc,hd⟩:=id hit
 obtain ⟨ol,hol,_,nl,hdl⟩:=ht
 refine wpAny_bind (m:=field (.ref it) 0) (wpAny_field ho hd (x:= .ref l) rfl ?_)
 rw [if_neg (show ¬((Value.ref l == Value.none)=true) by exact Bool.false_ne_true)]
 refine wpAny_bind (m:=field (.ref it) 1) (wpAny_field ho hd (x:= .int k 0) rfl (wpAny_bind (m:=seqItems? (.ref l)) (wpAny_seqItems hol hdl ?_)))
 simp only [Int.toNat_natCast,hx]
 refine wpAny_bind (wpAny_rule (wpAny_bind (wpAny_setField ho hd (by simp) (wpAny_bind (m:=newExc (.type "StopIteration") []) ?_))))
 simp only [newExc,newTuple]
 refine wpAny_bind (wpAny_newObj_type (wpAny_bind (m:=firstArgMember _ _) (wpAny_of_eq (a:=Value.none) (by first | rfl | (simp only [firstArgMember]; rfl)) (wpAny_newObj_type ?_ (by size_fits)))) (by size_fits))
 simp only [raiseNew]
 refine wpAny_bind (wpAny_handled ?_)
 rw [show A.in1.handled=none from hh]
 exact wpAny_bind (wpAny_pure (wpAny_throw (h _ _ (((Heap.SameBut.update ..).extBut.push _).push _) ⟨_,Heap.get?_push_size _ rfl,rfl⟩)))
end
theorem gh {i l:Addr} (hil:l ≠ i) (xs:Array Value):YD i [i,l] (fun k=>xs[k]?) (fun k h=>h.IsTupleIter i l k/\h.IsTuple l xs) where
 mem:= .head _
 item:=fun st hx h=>VX st.1 st.2 hx fun h' a b=>h h' ⟨a,st.2.extBut b.extBut hil⟩ b
 stop:=fun hh st hx h=>VY hh st.1 st.2 hx h
 keep:=fun st k=>by
  obtain ⟨⟨o,e,r⟩,o2,e2,r2⟩:=st
  exact ⟨⟨o,k i (.head _) o e,r⟩,o2,k l (.tail _ (.head _)) o2 e2,r2⟩
 there:=fun st b hb=>by
  obtain ⟨⟨o,e,_⟩,o2,e2,_⟩:=st
  rcases List.mem_cons.mp hb with z | hb
  ·exact ⟨o,z ▸ e⟩
  ·exact ⟨o2,(List.mem_singleton.mp hb) ▸ e2⟩
end PySem.ZG
namespace PySem.ZG
open PySem PySem.Spec PySem.Builtin.SmallTypes
structure Ap (z TI TO i1 i2:Addr) (fp1 fp2:List Addr):Prop where
 Iz:TI ≠ z
 Oz:TO ≠ z
 IO:TI ≠ TO
 I1:TI ≠ i1
 I2:TI ≠ i2
 z1:z ∉ fp1
 z2:z ∉ fp2
 O1:TO ∉ fp1
 O2:TO ∉ fp2
 a:i1 ∉ fp2
 b:i2 ∉ fp1
section
variable {prog:Program} {w:World} {A:Around} {E:Value->Shared->Prop} {s:Shared} {z TI TO i1 i2:Addr} {fp1 fp2:List Addr} {v1 v2:Nat->Option Value} {S1 S2:Nat->Heap->Prop} {k:Nat} {x y a b:Value}
theorem Ap.ne1 (D:Ap z TI TO i1 i2 fp1 fp2) (N1:YD i1 fp1 v1 S1):i1 ≠ z/\i1 ≠ TO:=⟨fun e=>D.z1 (e ▸ N1.mem),fun e=>D.O1 (e ▸ N1.mem)⟩
theorem Ap.ne2 (D:Ap z TI TO i1 i2 fp1 fp2) (N2:YD i2 fp2 v2 S2):i2 ≠ z/\i2 ≠ TO:=⟨fun e=>D.z2 (e ▸ N2.mem),fun e=>D.O2 (e ▸ N2.mem)⟩
theorem ke {Q:Value->Shared->Prop} (N1:YD i1 fp1 v1 S1) (N2:YD i2 fp2 v2 S2) (D:Ap z TI TO i1 i2 fp1 fp2) (hz:IsZip s.heap z TI TO .none) (hTI:IsPair s.heap TI (.ref i1) (.ref i2)) (hTO:IsPair s.heap TO a b) (p1:S1 k s.heap) (p2:S2 k s.heap) (hx:v1 k=some x) (hy:v2 k=some y)
  (hQ:∀ h',IsZip h' z TI TO (rawInt s.heap.objs.size)->IsPair h' TO x y->S1 (k+1) h' ->S2 (k+1) h' ->IsPair h' s.heap.objs.size x y->
   (∀ c o,c ≠ z->c ≠ TO->c ≠ i1->c ≠ i2->s.heap.get? c=some o->h'.get? c=some o)->Q (.ref s.heap.objs.size) { s with heap:=h' }):
  wpAny (model prog w) A (Builtin.«zip.__next__» ⟨[.ref z],[]⟩) (fun fin s' =>∃ v,fin= .done (.ret v)/\Q v s') E s:=by
 refine wpAny_bind (m:=field (.ref z) 2) (wpAny_field hz rfl (x:= .bool false) rfl (wpAny_bind (m:=field (.ref z) 3) (wpAny_field hz rfl (x:= .ref TI) rfl (wpAny_bind (wpAny_seqItems hTI rfl ?_)))))
 refine wpAny_bind (m:=ownedTupleIsFree (.ref z)) ?_
 unfold ownedTupleIsFree
 refine wpAny_bind (wpAny_field hz rfl (x:= .none) rfl (wpAny_pure ?_))
 simp only [if_true]
 refine wpAny_bind (wpAny_rule (wpAny_bind (wpAny_field hz rfl (x:= .ref TO) rfl (wpAny_bind (wpAny_setField_rec hz (by simp) fun g1 z1 e1=> ?_)))))
 replace z1:IsZip g1 z TI TO .ellipsis:=z1
 refine wpAny_bind ?_
 simp only [List.zipIdx_cons,List.zipIdx_nil,List.forIn_cons,List.forIn_nil]
 refine wpAny_bind (wpAny_bind (wpAny_onRaise (wpAny_bind (m:=nextOf (.ref i1)) (N1.item (N1.but p1 e1.extBut D.z1) hx fun g2 q1 e2=>wpAny_pure ?_))))
 have t2:IsPair g2 TO a b:=e2.extBut _ _ (D.ne1 N1).2.symm (e1.extBut _ _ D.Oz hTO)
 refine wpAny_bind (wpAny_seqItems t2 rfl (wpAny_bind (wpAny_updateSeq_pair t2 fun g3 t3 e3=> ?_)))
 replace t3:IsPair g3 TO x b:=t3
 refine wpAny_bind (wpAny_letGo (wpAny_pure ?_))
 refine wpAny_bind (wpAny_bind (wpAny_onRaise (wpAny_bind (m:=nextOf (.ref i2)) (N2.item (N2.but (N2.but (N2.but p2 e1.extBut D.z2) e2.extBut D.a) e3.extBut D.O2) hy fun g4 q2 e4=>wpAny_pure ?_))))
 have t4:IsPair g4 TO x b:=e4.extBut _ _ (D.ne2 N2).2.symm t3
 refine wpAny_bind (wpAny_seqItems t4 rfl (wpAny_bind (wpAny_updateSeq_pair t4 fun g5 t5 e5=> ?_)))
 replace t5:IsPair g5 TO x y:=t5
 refine wpAny_bind (wpAny_letGo (wpAny_pure (wpAny_pure ?_)))
 refine wpAny_bind (wpAny_seqItems t5 rfl (wpAny_bind (wpAny_newTuple ?_)))
 have sz:g5.objs.size=s.heap.objs.size:=by rw [e5.1,e4.1,e3.1,e2.1,e1.1]
 have z5:IsZip g5 z TI TO .ellipsis:=e5.extBut _ _ D.Oz.symm (e4.extBut _ _ (D.ne2 N2).1.symm (e3.extBut _ _ D.Oz.symm (e2.extBut _ _ (D.ne1 N1).1.symm z1)))
 have k5:∀ c o,c ≠ z->c ≠ TO->c ≠ i1->c ≠ i2->s.heap.get? c=some o->g5.get? c=some o:=fun c o c1 c2 c3 c4 e=>
  e5.extBut _ _ c2 (e4.extBut _ _ c4 (e3.extBut _ _ c2 (e2.extBut _ _ c3 (e1.extBut _ _ c1 e))))
 have r1:S1 (k+1) g5:=N1.but (N1.but (N1.but q1 e3.extBut D.O1) e4.extBut D.b) e5.extBut D.O1
 have r2:S2 (k+1) g5:=N2.but q2 e5.extBut D.O2
 refine wpAny_bind (m:=ownedTupleHandOut (.ref z) (.ref g5.objs.size)) ?_
 unfold ownedTupleHandOut
 have z6:IsZip (g5.push { cls:= .type "tuple",data:= .seq #[x,y] }) z TI TO .ellipsis:=Heap.get?_push_of_some _ z5
 refine wpAny_bind (wpAny_setField_rec z6 (by simp) fun g7 z7 e7=> ?_)
 replace z7:IsZip g7 z TI TO (rawInt g5.objs.size):=z7
 refine wpAny_setField_rec z7 (by simp) fun g8 z8 e8=> ?_
 replace z8:IsZip g8 z TI TO (rawInt g5.objs.size):=z8
 have up:∀ c o,c ≠ z->g5.get? c=some o->g8.get? c=some o:=fun c o c1 e=>e8.extBut _ _ c1 (e7.extBut _ _ c1 (Heap.get?_push_of_some _ e))
 have hn:g5.objs.size ≠ z:=Nat.ne_of_gt (Heap.lt_size z5)
 have t8:IsPair g8 g5.objs.size x y:=e8.extBut _ _ hn (e7.extBut _ _ hn (Heap.get?_push_size _ rfl))
 rw [sz] at z8 t8
 refine wpAny_pure ⟨_,rfl, ?_⟩
 show Q (.ref g5.objs.size) _
 rw [sz]
 exact hQ g8 z8 (up _ _ D.Oz t5) (N1.keep r1 fun c hc o e=>up c o (fun q=>D.z1 (q ▸ hc)) e) (N2.keep r2 fun c hc o e=>up c o (fun q=>D.z2 (q ▸ hc)) e) t8 fun c o c1 c2 c3 c4 e=>up c o c1 (k5 c o c1 c2 c3 c4 e)
theorem kf {Q:Fin->Shared->Prop} (hh:A.handled=none) (N1:YD i1 fp1 v1 S1) (N2:YD i2 fp2 v2 S2) (D:Ap z TI TO i1 i2 fp1 fp2) (hz:IsZip s.heap z TI TO .none) (hTI:IsPair s.heap TI (.ref i1) (.ref i2)) (hTO:IsPair s.heap TO a b) (p1:S1 k s.heap) (p2:S2 k s.heap) (hend:v1 k=none\/v2 k=none)
  (hE:∀ h' e,(∀ c o,c ≠ z->c ≠ TO->c ≠ i1->c ≠ i2->s.heap.get? c=some o->h'.get? c=some o)->(∃ o,h'.get? e=some o/\o.cls= .type "StopIteration")->E (.ref e) { s with heap:=h' }):
  wpAny (model prog w) A (Builtin.«zip.__next__» ⟨[.ref z],[]⟩) Q E s:=by
 refine wpAny_bind (m:=field (.ref z) 2) (wpAny_field hz rfl (x:= .bool false) rfl (wpAny_bind (m:=field (.ref z) 3) (wpAny_field hz rfl (x:= .ref TI) rfl (wpAny_bind (wpAny_seqItems hTI rfl ?_)))))
 refine wpAny_bind (m:=ownedTupleIsFree (.ref z)) ?_
 unfold ownedTupleIsFree
 refine wpAny_bind (wpAny_field hz rfl (x:= .none) rfl (wpAny_pure ?_))
 simp only [if_true]
 refine wpAny_bind (wpAny_rule (wpAny_bind (wpAny_field hz rfl (x:= .ref TO) rfl (wpAny_bind (wpAny_setField_rec hz (by simp) fun g1 z1 e1=> ?_)))))
 replace z1:IsZip g1 z TI TO .ellipsis:=z1
 refine wpAny_bind ?_
 simp only [List.zipIdx_cons,List.zipIdx_nil,List.forIn_cons,List.forIn_nil]
 have off:∀ {g:Heap} {e:Addr} {oe:Obj},IsZip g z TI TO .ellipsis->g.get? e=some oe->oe.cls= .type "StopIteration"->e ≠ z:=fun hg he hc q=>by
  subst q; rw [hg] at he; cases he; simp at hc
 cases hx:v1 k with
 | none=>
  refine wpAny_bind (wpAny_bind (wpAny_onRaise (wpAny_bind (m:=nextOf (.ref i1)) (N1.stop hh (N1.but p1 e1.extBut D.z1) hx fun g2 e e2 he=> ?_))))
  obtain ⟨oe,ho,hc⟩:=he
  have z2:IsZip g2 z TI TO .ellipsis:=e2 _ _ (D.ne1 N1).1.symm z1
  exact wpAny_setField_rec z2 (by simp) fun g3 _ e3=>hE g3 e (fun c o c1 _ c3 _ q=>e3.extBut _ _ c1 (e2 _ _ c3 (e1.extBut _ _ c1 q))) ⟨oe,e3.extBut _ _ (off z2 ho hc) ho,hc⟩
 | some x=>
  have hy:v2 k=none:=by
   rcases hend with q | q
   ·rw [hx] at q; cases q
   ·exact q
  refine wpAny_bind (wpAny_bind (wpAny_onRaise (wpAny_bind (m:=nextOf (.ref i1)) (N1.item (N1.but p1 e1.extBut D.z1) hx fun g2 q1 e2=>wpAny_pure ?_))))
  have t2:IsPair g2 TO a b:=e2.extBut _ _ (D.ne1 N1).2.symm (e1.extBut _ _ D.Oz hTO)
  refine wpAny_bind (wpAny_seqItems t2 rfl (wpAny_bind (wpAny_updateSeq_pair t2 fun g3 t3 e3=>wpAny_bind (wpAny_letGo (wpAny_pure ?_)))))
  refine wpAny_bind (wpAny_bind (wpAny_onRaise (wpAny_bind (m:=nextOf (.ref i2)) (N2.stop hh (N2.but (N2.but (N2.but p2 e1.extBut D.z2) e2.extBut D.a) e3.extBut D.O2) hy fun g4 e e4 he=> ?_))))
  obtain ⟨oe,ho,hc⟩:=he
  have z4:IsZip g4 z TI TO .ellipsis:=e4 _ _ (D.ne2 N2).1.symm (e3.extBut _ _ D.Oz.symm (e2.extBut _ _ (D.ne1 N1).1.symm z1))
  exact wpAny_setField_rec z4 (by simp) fun g5 _ e5=>hE g5 e (fun c o c1 c2 c3 c4 q=>e5.extBut _ _ c1 (e4 _ _ c4 (e3.extBut _ _ c2 (e2.extBut _ _ c3 (e1.extBut _ _ c1 q))))) ⟨oe,e5.extBut _ _ (off z4 ho hc) ho,hc⟩
theorem kg {Q:Option Value->Shared->Prop} (N1:YD i1 fp1 v1 S1) (N2:YD i2 fp2 v2 S2) (D:Ap z TI TO i1 i2 fp1 fp2) (hz:IsZip s.heap z TI TO .none) (hTI:IsPair s.heap TI (.ref i1) (.ref i2)) (hTO:IsPair s.heap TO a b) (p1:S1 k s.heap) (p2:S2 k s.heap) (hx:v1 k=some x) (hy:v2 k=some y)
  (hQ:∀ h',IsZip h' z TI TO (rawInt s.heap.objs.size)->IsPair h' TO x y->S1 (k+1) h' ->S2 (k+1) h' ->IsPair h' s.heap.objs.size x y->
   (∀ c o,c ≠ z->c ≠ TO->c ≠ i1->c ≠ i2->s.heap.get? c=some o->h'.get? c=some o)->Q (some (.ref s.heap.objs.size)) { s with heap:=h' }):wpAny (model prog w) A (pyNext (.ref z)) Q E s:=by
 have ty:s.TypeIs (.ref z) "zip":=⟨_,hz,rfl⟩
 unfold pyNext
 exact wpAny_bind (wpAny_attempt (wpAny_callSpecial?_slot (name:=Str.ofString "__next__") ty PySem.F.slot_zip_next (wpAny_call_entry PySem.F.slot_zip_next ty PySem.F.entry_zip_next
  (ke N1 N2 D hz hTI hTO p1 p2 hx hy fun h' a1 a2 a3 a4 a5 a6=>wpAny_pure (hQ h' a1 a2 a3 a4 a5 a6)) (PySem.F.args_zip_next_1 _))))
theorem kh {Q:Option Value->Shared->Prop} (hh:A.handled=none) (N1:YD i1 fp1 v1 S1) (N2:YD i2 fp2 v2 S2) (D:Ap z TI TO i1 i2 fp1 fp2) (hz:IsZip s.heap z TI TO .none) (hTI:IsPair s.heap TI (.ref i1) (.ref i2)) (hTO:IsPair s.heap TO a b) (p1:S1 k s.heap) (p2:S2 k s.heap) (hend:v1 k=none\/v2 k=none)
  (hQ:∀ h',(∀ c o,c ≠ z->c ≠ TO->c ≠ i1->c ≠ i2->s.heap.get? c=some o->h'.get? c=some o)->Q none { s with heap:=h' }):wpAny (model prog w) A (pyNext (.ref z)) Q E s:=by
 have ty:s.TypeIs (.ref z) "zip":=⟨_,hz,rfl⟩
 unfold pyNext
 refine wpAny_bind (wpAny_attempt (wpAny_callSpecial?_slot (name:=Str.ofString "__next__") ty PySem.F.slot_zip_next (wpAny_call_entry PySem.F.slot_zip_next ty PySem.F.entry_zip_next
  (kf hh N1 N2 D hz hTI hTO p1 p2 hend fun h' e kp he=> ?_) (PySem.F.args_zip_next_1 _))))
 obtain ⟨o,ho,hc⟩:=he
 exact wpAny_bind (wpAny_isInstance (T:="StopIteration") (b:=true) ⟨o,ho,hc⟩ isSubtype_stop (wpAny_pure (hQ _ kp)))
end
end PySem.ZG
namespace PySem.ZG
open PySem PySem.Spec PySem.Builtin.SmallTypes
structure ki (l:Addr) (o:Obj) (P:Heap->Prop):Prop where
 go:∀ {prog:Program} {w:World} {A:Around} {E:Value->Shared->Prop} {s:Shared} {Q:Value->Shared->Prop},P s.heap->Q (.ref s.heap.objs.size) { s with heap:=s.heap.push o }->wpAny (model prog w) A (pyIter (.ref l)) Q E s
 push:∀ {h:Heap} (o' :Obj),P h->P (h.push o')
 fresh:o.isFreed=false
noncomputable abbrev oL (l:Addr):Obj:={ cls:= .type "list_iterator",data:= .fields #[.ref l, .int 0 0] }
noncomputable abbrev oT (l:Addr):Obj:={ cls:= .type "tuple_iterator",data:= .fields #[.ref l, .int 0 0] }
theorem kj (l:Addr) (xs:Array Value):ki l (oL l) (fun h=>h.IsList l xs):=⟨fun p q=>wpAny_pyIter_list p q,fun o p=>Heap.IsList.push p o,rfl⟩
theorem gi (l:Addr) (xs:Array Value):ki l (oT l) (fun h=>h.IsTuple l xs):=⟨fun p q=>wpAny_pyIter_tuple p q,fun o p=>Heap.IsTuple.push p o,rfl⟩
noncomputable abbrev zh2 (h:Heap) (o1 o2:Obj):Heap:=(h.push o1).push o2
noncomputable abbrev zh3 (h:Heap) (o1 o2:Obj):Heap:=(zh2 h o1 o2).push { cls:= .type "tuple",data:= .seq #[.ref h.objs.size, .ref (h.push o1).objs.size] }
noncomputable abbrev zh4 (h:Heap) (o1 o2:Obj):Heap:=(zh3 h o1 o2).push { cls:= .type "tuple",data:= .seq #[.none, .none] }
noncomputable abbrev zh5 (h:Heap) (o1 o2:Obj):Heap:=(zh4 h o1 o2).push { cls:= .type "zip",data:= .fields #[.none, .bool false, .bool false, .ref (zh2 h o1 o2).objs.size, .ref (zh3 h o1 o2).objs.size] }
theorem gj {l1 l2:Addr} {o1 o2:Obj} {P1 P2:Heap->Prop} (J1:ki l1 o1 P1) (J2:ki l2 o2 P2):
  Meets (Builtin.«zip.__new__» ⟨[.type "zip", .ref l1, .ref l2],[]⟩) (fun _ R s=>P1 s.heap/\P2 s.heap/\R (.ok (.ret (.ref (zh4 s.heap o1 o2).objs.size))) { s with heap:=zh5 s.heap o1 o2 }):=
 .of_wp fun prog w A R s h=>by
  obtain ⟨hp,g,d,tk,os⟩:=s
  obtain ⟨q1,q2,h⟩:=h
  have hsub:=sub_zip
  have c1:P1 (Shared.heap ⟨hp,g,d,tk,os⟩):=q1
  have c2:P2 (Shared.heap ⟨hp.push o1,g,d,tk,os⟩):=J2.push o1 q2
  wp_walk using J1.go c1,J2.go c2
  exact ⟨_,rfl,h⟩
end PySem.ZG
namespace PySem.ZG
open PySem PySem.Spec PySem.Builtin.SmallTypes
theorem kl {prog:Program} {w:World} {A:Around} {E:Value->Shared->Prop} {s:Shared} {l1 l2:Addr} {o1 o2:Obj} {P1 P2:Heap->Prop} {Q:Value->Shared->Prop} (J1:ki l1 o1 P1) (J2:ki l2 o2 P2) (q1:P1 s.heap) (q2:P2 s.heap)
  (h:∀ h' n,n=s.heap.objs.size->IsZip h' (n+4) (n+2) (n+3) .none->IsPair h' (n+2) (.ref n) (.ref (n+1))->IsPair h' (n+3) .none .none->h'.get? n=some o1->h'.get? (n+1)=some o2->
   (∀ c o,s.heap.get? c=some o->h'.get? c=some o)->Q (.ref (n+4)) { s with heap:=h' }):wpAny (model prog w) A (call (.type "zip") [.ref l1, .ref l2]) Q E s:=by
 refine callType_new PySem.F.called_zip (by decide) (PySem.F.typeCall_zip_2 _ _) (PySem.F.newCall_zip_2 _ _) (fun obj=>PySem.F.args_object_init_3 obj _ _) PySem.F.entry_zip_new (gj J1 J2) ⟨q1,q2, ?_⟩
 have n1:(s.heap.push o1).objs.size=s.heap.objs.size+1:=Heap.size_push ..
 have n2:(zh2 s.heap o1 o2).objs.size=s.heap.objs.size+2:=by rw [Heap.size_push,n1]
 have n3:(zh3 s.heap o1 o2).objs.size=s.heap.objs.size+3:=by rw [Heap.size_push,n2]
 have n4:(zh4 s.heap o1 o2).objs.size=s.heap.objs.size+4:=by rw [Heap.size_push,n3]
 have up:∀ {h:Heap} {c:Addr} {o:Obj} (o' :Obj),h.get? c=some o->(h.push o').get? c=some o:=fun o' e=>Heap.get?_push_of_some o' e
 have e5:(zh5 s.heap o1 o2).get? (zh4 s.heap o1 o2).objs.size=some _:=Heap.get?_push_size _ rfl
 have e4:(zh5 s.heap o1 o2).get? (zh3 s.heap o1 o2).objs.size=some _:=up _ (Heap.get?_push_size _ rfl)
 have e3:(zh5 s.heap o1 o2).get? (zh2 s.heap o1 o2).objs.size=some _:=up _ (up _ (Heap.get?_push_size _ rfl))
 have e2:(zh5 s.heap o1 o2).get? (s.heap.push o1).objs.size=some _:=up _ (up _ (up _ (Heap.get?_push_size _ J2.fresh)))
 have e1:(zh5 s.heap o1 o2).get? s.heap.objs.size=some _:=up _ (up _ (up _ (up _ (Heap.get?_push_size _ J1.fresh))))
 show _/\_
 rw [n2,n3,n4] at e5
 rw [n1,n2] at e3
 rw [n3] at e4
 rw [n1] at e2
 rw [n4]
 exact ⟨⟨_,e5,rfl⟩,h _ _ rfl e5 e3 e4 e1 e2 fun c o q=>up _ (up _ (up _ (up _ (up _ q))))⟩
end PySem.ZG
namespace PV
open PySem PySem.Spec PyProof.Rows L2 PySem.ZG
inductive SK where
 | l | t
noncomputable def SK.it:SK->Heap->Addr->Addr->Nat->Prop
 | .l=>fun h i l k=>h.IsListIter i l k
 | .t=>fun h i l k=>h.IsTupleIter i l k
noncomputable def SK.has:SK->Heap->Addr->Array Value->Prop
 | .l=>fun h l xs=>h.IsList l xs
 | .t=>fun h l xs=>h.IsTuple l xs
noncomputable def SK.sq (K:PySem.W.Frag):SK->Hp->Addr->List V->Prop
 | .l=>fun H a xs=>SqL K H a xs
 | .t=>fun H a xs=>SqT K H a xs
noncomputable def SK.tr:SK->List V->HO
 | .l=> .lst
 | .t=> .tup
noncomputable def SK.ob:SK->Addr->Obj
 | .l=>oL
 | .t=>oT
theorem SK.nx (k:SK) {i l:Addr} (h:l ≠ i) (xs:Array Value):YD i [i,l] (fun n=>xs[n]?) (fun n hp=>k.it hp i l n/\k.has hp l xs):=by
 cases k with
 | l=>exact kd h xs
 | t=>exact gh h xs
theorem SK.of (k:SK) (l:Addr) (xs:Array Value):ki l (k.ob l) (fun h=>k.has h l xs):=by
 cases k with
 | l=>exact kj l xs
 | t=>exact gi l xs
theorem SK.start (k:SK) {h:Heap} {i l:Addr} (e:h.get? i=some (k.ob l)):k.it h i l 0:=by
 cases k with
 | l=>exact ⟨_,e,rfl,rfl⟩
 | t=>exact ⟨_,e,rfl,rfl⟩
theorem SK.obj {k:SK} {h:Heap} {i l:Addr} {n:Nat} (x:k.it h i l n):∃ o,h.get? i=some o/\∀ v,o.data ≠ .cell v:=by
 cases k with
 | l=>obtain ⟨o,e,_,d⟩:=x; exact ⟨o,e,fun v z=>by rw [d] at z; cases z⟩
 | t=>obtain ⟨o,e,_,d⟩:=x; exact ⟨o,e,fun v z=>by rw [d] at z; cases z⟩
theorem SK.at_ {k:SK} {h h' :Heap} {i l:Addr} {n:Nat} (x:k.it h i l n) (q:∀ o,h.get? i=some o->h'.get? i=some o):k.it h' i l n:=by
 cases k with
 | l=>obtain ⟨o,e,r⟩:=x; exact ⟨o,q o e,r⟩
 | t=>obtain ⟨o,e,r⟩:=x; exact ⟨o,q o e,r⟩
theorem SK.sqOf {K:PySem.W.Frag} (k:SK) {H:Hp} {a:Addr} {xs:List V} (e:H a=some (k.tr xs)):k.sq K H a xs:=by
 cases k with
 | l=>exact SqL.of e
 | t=>exact SqT.of e
theorem Inv.seq {X:Cx} {pins:List (Addr×Obj)} {σ:Sg} {H:Hp} {s:Shared} (I:L2.Inv X pins σ H s) (k:SK) {a:Addr} {xs:List V} (h:k.sq X.K H a xs):∃ its:List Value,ZY xs its/\k.has s.heap a its.toArray/\∃ o,s.heap.get? a=some o:=by
 cases k with
 | l=>
  obtain ⟨its,r,p,_⟩:=I.list h
  obtain ⟨o,_,e,_⟩:=id p
  exact ⟨its,r,p.isList,o,e⟩
 | t=>
  obtain ⟨its,r,p,_⟩:=I.tuple h
  obtain ⟨o,e,_⟩:=id p
  exact ⟨its,r,p,o,e⟩
noncomputable def Itz (K:PySem.W.Frag) (k1 k2:SK) (l1 l2:Addr):It:=
 ⟨fun i H=>∃ xs ys x y,k1.sq K H l1 xs/\k2.sq K H l2 ys/\xs[i]? =some x/\ys[i]? =some y,fun i H v H' =>∃ p x y,H p=none/\v= .ref p/\(∀ xs,k1.sq K H l1 xs->xs[i]? =some x)/\(∀ ys,k2.sq K H l2 ys->ys[i]? =some y)/\H' =upd H p (.tup [x,y]),
  fun i H=>∃ xs ys,k1.sq K H l1 xs/\k2.sq K H l2 ys/\(xs.length<=i\/ys.length<=i)⟩
theorem Inv.seq_inj {X:Cx} {pins:List (Addr×Obj)} {σ:Sg} {H:Hp} {s:Shared} (I:L2.Inv X pins σ H s) (k:SK) {a:Addr} {xs ys:List V} (h:k.sq X.K H a xs) (h' :k.sq X.K H a ys):xs=ys:=by
 cases k with
 | l=>exact I.list_inj h h'
 | t=>exact I.tuple_inj h h'
end PV
namespace PV
open PySem PySem.Spec PyProof.Rows L2 PySem.ZG
theorem nN {a b:Nat} (h:a ≠ b): @Ne Addr a b:=h
theorem nM {a b c:Nat} (h:a ≠ b) (h' :a ≠ c):¬ @Membership.mem Addr (List Addr) _ [b,c] a:=fun q=>by
 rcases List.mem_cons.mp q with z | z
 ·exact h z
 ·exact h' (List.mem_singleton.mp z)
theorem VZ {P:Program} {w:World} {K:PySem.W.Frag} {elts:List Expr} {kk:Nat} {pt:Pos} (k1 k2:SK) {n l1 l2:Nat} (h1:l1 < n) (h2:l2 < n):
  Vv P w K (.Tuple elts kk pt) (Itz K k1 k2 l1 l2) [n+4,n+2,n+3,n,n+1] (n+4)
   (fun i h=>IsZip h (n+4) (n+2) (n+3) .none/\IsPair h (n+2) (.ref n) (.ref (n+1))/\(∃ a b,IsPair h (n+3) a b)/\k1.it h n l1 i/\k2.it h (n+1) l2 i):=by
 have D:Ap (n+4) (n+2) (n+3) n (n+1) [n,l1] [n+1,l2]:=by
  refine ⟨nN (by omega),nN (by omega),nN (by omega),nN (by omega),nN (by omega),nM (by omega) (by omega),nM (by omega) (by omega),nM (by omega) (by omega),nM (by omega) (by omega),nM (by omega) (by omega),nM (by omega) (by omega)⟩
 refine ⟨by simp,fun i h st b hb=> ?_,fun i h h' st k=> ?_, ?_, ?_, ?_⟩
 ·obtain ⟨hz,hI,⟨a,c,hO⟩,p1,p2⟩:=st
  simp only [List.mem_cons,List.not_mem_nil,or_false] at hb
  rcases hb with rfl | rfl | rfl | rfl | rfl
  ·exact ⟨_,hz,fun v z=>nomatch z⟩
  ·exact ⟨_,hI,fun v z=>nomatch z⟩
  ·exact ⟨_,hO,fun v z=>nomatch z⟩
  ·exact SK.obj p1
  ·exact SK.obj p2
 ·obtain ⟨hz,hI,⟨a,c,hO⟩,p1,p2⟩:=st
  exact ⟨k _ (by simp) _ hz,k _ (by simp) _ hI,⟨a,c,k _ (by simp) _ hO⟩,SK.at_ p1 fun o e=>k n (by simp) o e,SK.at_ p2 fun o e=>k (n+1) (by simp) o e⟩
 ·intro X hP hw hK hc i pins s σ H E I hf st hg
  subst hP hw hK
  obtain ⟨xs,ys,x,y,s1,s2,hx,hy⟩:=hg
  obtain ⟨hz,hI,⟨a,c,hO⟩,p1,p2⟩:=st
  obtain ⟨its1,r1,b1,_⟩:=Inv.seq I k1 s1
  obtain ⟨its2,r2,b2,_⟩:=Inv.seq I k2 s2
  obtain ⟨u,hu,ru⟩:=r1.get hx
  obtain ⟨v,hv,rv⟩:=r2.get hy
  refine kg (k1.nx (Nat.ne_of_lt h1) its1.toArray) (k2.nx (i:=n+1) (nN (by omega)) its2.toArray) D hz hI hO ⟨p1,b1⟩ ⟨p2,b2⟩ (x:=u) (y:=v) (by simpa using hu) (by simpa using hv) fun g a1 a2 a3 a4 a5 kp=>⟨_,rfl, ?_⟩
  refine wpAny_letOwnedTupleGo_zip a1 fun g2 z2 e2=> ?_
  have hlt:n+4 < s.heap.objs.size:=Heap.lt_size hz
  have ne:∀ b:Nat,b<=n+4->s.heap.objs.size ≠ b:=fun b hb=>by
   have hlt:n+4 < s.heap.objs.size:=hlt
   omega
  have kp2:∀ b o,b ∉ [n+4,n+2,n+3,n,n+1]->s.heap.get? b=some o->g2.get? b=some o:=fun b o hb e=>by
   simp only [List.mem_cons,List.not_mem_nil,or_false,not_or] at hb
   exact e2.extBut _ _ hb.1 (kp b o hb.1 hb.2.2.1 hb.2.2.2.1 hb.2.2.2.2 e)
  have g2P:IsPair g2 s.heap.objs.size u v:=e2.extBut _ _ (ne _ (Nat.le_refl _)) a5
  have g2I:IsPair g2 (n+2) (.ref n) (.ref (n+1)):=e2.extBut _ _ D.Iz (kp _ _ D.Iz D.IO D.I1 D.I2 hI)
  have g2O:IsPair g2 (n+3) u v:=e2.extBut _ _ D.Oz a2
  have q1:k1.it g2 n l1 (i+1):=SK.at_ a3.1 fun o e=>e2.extBut _ _ (nN (by omega)) e
  have q2:k2.it g2 (n+1) l2 (i+1):=SK.at_ a4.1 fun o e=>e2.extBut _ _ (nN (by omega)) e
  have hfr:H s.heap.objs.size=none:=I.hok.fresh (Nat.le_refl _)
  refine ⟨.ref s.heap.objs.size,upd H s.heap.objs.size (.tup [x,y]),Inv.laidT (s:=s) (h' :=g2) (ch:=[n+4,n+2,n+3,n,n+1]) (tk:=s.toks) I hf kp2 (fun b o hb _=> ?_) (Nat.le_refl _)
   ⟨by rw [sizeLine_eq]; show 2<=16777216; decide,[u,v], .cons ru (.cons rv .nil),⟨_,g2P,rfl,_,rfl⟩⟩,rfl,⟨_,x,y,hfr,rfl,fun zs hq=>by rw [← Inv.seq_inj I k1 s1 hq]; exact hx,fun zs hq=>by rw [← Inv.seq_inj I k2 s2 hq]; exact hy,rfl⟩,⟨z2,g2I,⟨u,v,g2O⟩,q1,q2⟩,fun b hb=> ?_⟩
  ·simp only [List.mem_cons,List.not_mem_nil,or_false] at hb
   rcases hb with rfl | rfl | rfl | rfl | rfl
   ·exact ⟨_,z2⟩
   ·exact ⟨_,g2I⟩
   ·exact ⟨_,g2O⟩
   ·obtain ⟨o',e',_⟩:=SK.obj q1; exact ⟨o',e'⟩
   ·obtain ⟨o',e',_⟩:=SK.obj q2; exact ⟨o',e'⟩
  ·have hb2:(b:Nat)<=n+4:=by
    have hb:b=n+4\/b=n+2\/b=n+3\/b=n\/b=n+1:=by simpa using hb
    rcases hb with rfl | rfl | rfl | rfl | rfl
    ·exact Nat.le_refl _
    ·exact Nat.add_le_add_left (by decide) n
    ·exact Nat.add_le_add_left (by decide) n
    ·exact Nat.le_add_right _ _
    ·exact Nat.add_le_add_left (by decide) n
   rw [zF fun z=>ne b hb2 z.symm]
   exact (hf b hb).1
 ·intro X hP hw hK hc i pins s σ H E I hf st hg
  subst hP hw hK
  obtain ⟨xs,ys,s1,s2,hend⟩:=hg
  obtain ⟨hz,hI,⟨a,c,hO⟩,p1,p2⟩:=st
  obtain ⟨its1,r1,b1,_⟩:=Inv.seq I k1 s1
  obtain ⟨its2,r2,b2,_⟩:=Inv.seq I k2 s2
  have l1' :=r1.length
  have l2' :=r2.length
  refine kh (I.ok.hd hc) (k1.nx (Nat.ne_of_lt h1) its1.toArray) (k2.nx (i:=n+1) (nN (by omega)) its2.toArray) D hz hI hO ⟨p1,b1⟩ ⟨p2,b2⟩ (k:=i) ?_ fun g kp=>⟨rfl, ?_⟩
  ·rcases hend with q | q
   ·exact .inl (Array.getElem?_eq_none (by rw [List.size_toArray,← l1']; exact q))
   ·exact .inr (Array.getElem?_eq_none (by rw [List.size_toArray,← l2']; exact q))
  ·have kp2:∀ b o,b ∉ [n+4,n+3,n,n+1]->s.heap.get? b=some o->g.get? b=some o:=fun b o hb e=>by
    simp only [List.mem_cons,List.not_mem_nil,or_false,not_or] at hb
    exact kp b o hb.1 hb.2.1 hb.2.2.1 hb.2.2.2 e
   have nch:∀ b u,H b=some u->b ∉ [n+4,n+3,n,n+1]:=fun b u e hb=>by
    have hb' :b∈[n+4,n+2,n+3,n,n+1]:=by
     simp only [List.mem_cons,List.not_mem_nil,or_false] at hb ⊢
     rcases hb with q | q | q | q
     ·exact .inl q
     ·exact .inr (.inr (.inl q))
     ·exact .inr (.inr (.inr (.inl q)))
     ·exact .inr (.inr (.inr (.inr q)))
    rw [(hf b hb').1] at e; cases e
   refine I.call' (s' :={ s with heap:=g }) (ch:=[n+4,n+3,n,n+1]) rfl ⟨fun b o e _ _ hc=>kp2 b o hc e,fun b o e _ _ hc=>⟨o.slots,kp2 b o hc e⟩,fun b o e q _=>q,fun b o e hc=>⟨o,kp2 b o hc e⟩,fun b ys e=>e,fun b o u e=>e,fun b ps e=>⟨#[],by rw [e]; simp⟩⟩ (fun b u e=> ?_) I.bare fun b hb=> ?_
   ·refine (I.hok b u e).stay (fun c v hc q=>kp2 c v ?_ q) (fun _ q=>q) fun _ _ q=>q
    rcases hc with rfl | hc
    ·exact nch c u e
    ·exact nch c _ hc
   ·have hb' :b∈[n+4,n+2,n+3,n,n+1]:=by
     simp only [List.mem_cons,List.not_mem_nil,or_false] at hb ⊢
     rcases hb with q | q | q | q
     ·exact .inl q
     ·exact .inr (.inr (.inl q))
     ·exact .inr (.inr (.inr (.inl q)))
     ·exact .inr (.inr (.inr (.inr q)))
    obtain ⟨f0,f1,f2,f3,f4,f5⟩:=hf b hb'
    exact ⟨f3,f1,f4,f5⟩
 ·intro A i s Q E st h
  exact wpAny_pyIter_zip st.1 h
noncomputable def x3 (xs ys:List T):List T:=(xs.zip ys).map fun p=>T.tup [p.1,p.2]
theorem x6 {xs ys:List T} {i:Nat} {t:T} (h:(x3 xs ys)[i]? =some t):∃ x y,xs[i]? =some x/\ys[i]? =some y/\t= .tup [x,y]:=by
 unfold x3 at h
 rw [List.getElem?_map] at h
 cases e:(xs.zip ys)[i]? with
 | none=>rw [e] at h; cases h
 | some p=>
  rw [e] at h
  cases h
  have:=List.getElem?_zip_eq_some.mp e
  exact ⟨p.1,p.2,this.1,this.2,rfl⟩
theorem YE (xs ys:List T):(x3 xs ys).length=min xs.length ys.length:=by unfold x3; simp
theorem gm {K:PySem.W.Frag} {B1 H1:Hp} {k1 k2:SK} {a b:Addr} {xs ys:List V} {ts us:List T} (ha:B1 a=some (k1.tr xs)) (hb:B1 b=some (k2.tr ys)) (ra:Z2 B1 xs ts) (rb:Z2 B1 ys us):rI B1 H1 (Itz K k1 k2 a b) (x3 ts us):=fun B2 H2 s1 s2=>by
 have a2:=k1.sqOf (K:=K) (s2 _ _ (s1 _ _ ha))
 have b2:=k2.sqOf (K:=K) (s2 _ _ (s1 _ _ hb))
 rw [YE]
 refine ⟨fun i hi=> ?_,fun i t x H3 e y=> ?_,fun i hi=>⟨xs,ys,a2,b2, ?_⟩⟩
 ·obtain ⟨v,e1,_⟩:=ra.get (List.getElem?_eq_getElem (show i < ts.length by omega))
  obtain ⟨u,e2,_⟩:=rb.get (List.getElem?_eq_getElem (show i < us.length by omega))
  exact ⟨xs,ys,v,u,a2,b2,e1,e2⟩
 ·obtain ⟨p,v,u,hp,rfl,y1,y2,rfl⟩:=y
  obtain ⟨t1,t2,et,eu,rfl⟩:=x6 e
  obtain ⟨v',e1,r1⟩:=ra.get et
  obtain ⟨u',e2,r2⟩:=rb.get eu
  have q1:=y1 xs a2
  have q2:=y2 ys b2
  rw [e1] at q1; cases q1
  rw [e2] at q2; cases q2
  have up:=Zo.ge s2 (zN.new hp (.tup [v,u]))
  exact ⟨zN.new hp _, .tup (Wy hp _) (.cons ((r1.mono s1).mono up) (.cons ((r2.mono s1).mono up) .nil))⟩
 ·rw [ra.length,rb.length]; omega
section
variable {X:Cx} {Y:Fx} {a b:Expr} {fa fb:En->R T} {pos p pt:Pos} {elts:List Expr} {kk:Nat}
theorem gp {ta:TA} (hg:Gl X "zip") (hm:X.mg "zip"=none) (ha:PA X [a,b] ta) (hs:starEach [a,b] X.env=[(false,eval a X.env),(false,eval b X.env)]) (hs2:starEach [b] X.env=[(false,eval b X.env)]):
  PI X (.Tuple elts kk pt) (.Call (.Name "zip" p) [a,b] [] pos) (fun σ H R=>ta σ H fun vs H1=>∃ k1 k2 l1 l2 xs ys,vs=[.ref l1, .ref l2]/\H1 l1=some (SK.tr k1 xs)/\H1 l2=some (SK.tr k2 ys)/\R (Itz X.K k1 k2 l1 l2) H1):=by
 intro pins s σ H R I h
 refine Call_ (uj I hg hm PyProof.Rows.Boot.«zip» (PyProof.Rows.callWith_type1 (thn (ha pos pins s σ H _ I h) fun us s1 ⟨vs,H1,I1,r1,q1⟩=> ?_) (by rw [hs,hs2]) (by rw [hs2]; rfl)))
 obtain ⟨k1,k2,l1,l2,xs,ys,e,h1,h2,q⟩:=q1
 subst e
 obtain ⟨u,v,rfl,ru,rv⟩:=QE r1
 obtain rfl:u=Value.ref l1:=ru
 obtain rfl:v=Value.ref l2:=rv
 obtain ⟨its1,_,b1,o1,e1⟩:=Inv.seq I1 k1 (k1.sqOf h1)
 obtain ⟨its2,_,b2,o2,e2⟩:=Inv.seq I1 k2 (k2.sqOf h2)
 refine kl (k1.of l1 its1.toArray) (k2.of l2 its2.toArray) b1 b2 fun g n hn z1 z2 z3 z4 z5 kp=>wpAny_pyIter_zip z1 ?_
 subst hn
 have f:∀ b∈[s1.heap.objs.size+4,s1.heap.objs.size+2,s1.heap.objs.size+3,s1.heap.objs.size,s1.heap.objs.size+1],Yt X pins H1 b:=fun b hb=>by
  have hb' :s1.heap.objs.size<=b:=by
   simp only [List.mem_cons,List.not_mem_nil,or_false] at hb
   rcases hb with rfl | rfl | rfl | rfl | rfl
   ·exact Nat.le_add_right _ _
   ·exact Nat.le_add_right _ _
   ·exact Nat.le_add_right _ _
   ·exact Nat.le_refl _
   ·exact Nat.le_add_right _ _
  exact I1.fpOk hb' (I1.hok.fresh hb')
 exact ⟨s1.heap.objs.size+4,_,_,_,H1,rfl,I1.kept (t' :=s1.toks) kp,VZ k1 k2 (Heap.lt_size e1) (Heap.lt_size e2),⟨z1,z2,⟨_,_,z3⟩,SK.start k1 z4,SK.start k2 z5⟩,f,q⟩
noncomputable def yJ:T->R (List T)
 | .lst xs=> .ok xs
 | .tup xs=> .ok xs
 | _=> .bad
noncomputable def km (fa fb:En->R T):En->R (List T):=fun ρ=>(fa ρ).bind fun t=>(fb ρ).bind fun u=>(yJ t).bind fun xs=>(yJ u).bind fun ys=> .ok (x3 xs ys)
theorem vz {B:Hp} {v:V} {t:T} {xs:List T} (r:Rep B v t) (e:yJ t= .ok xs):∃ (k:SK) (a:Addr) (vs:List V),v= .ref a/\B a=some (k.tr vs)/\Z2 B vs xs:=by
 cases r with
 | lst h r=>cases e; exact ⟨.l,_,_,rfl,h,r⟩
 | tup h r=>cases e; exact ⟨.t,_,_,rfl,h,r⟩
 | _=>cases e
theorem qw (t:T) (c:Nat):yJ t ≠ .ex c:=by cases t <;> exact fun z=>nomatch z
theorem gq (hg:Gl X "zip") (hm:X.mg "zip"=none) (ha:Snd X Y a fa) (hb:Snd X Y b fb) (hs:starEach [a,b] X.env=[(false,eval a X.env),(false,eval b X.env)]:=by exact st2 rfl rfl) (hs2:starEach [b] X.env=[(false,eval b X.env)]:=by exact st1 rfl):
  Vn X Y (.Tuple elts kk pt) (.Call (.Name "zip" p) [a,b] [] pos) (km fa fb):= .mk fun ρ=>
 PI.imp (gp hg hm (zO (ha ρ) (zO (hb ρ) ZZ hs2) (by rw [hs,hs2])) hs hs2) fun σ H R ⟨B,I,q⟩=>step I q fun t v H1 _ s1 r1 I1 q1=>step I1 q1 fun u v' H2 _ s2 r2 I2 q2=>by
  cases e1:yJ t with
  | bad=>rw [e1] at q2; exact q2.elim
  | ex c=>exact absurd e1 (qw _ _)
  | ok xs=>
   rw [e1] at q2
   cases e2:yJ u with
   | bad=>rw [e2] at q2; exact q2.elim
   | ex c=>exact absurd e2 (qw _ _)
   | ok ys=>
    rw [e2] at q2
    obtain ⟨k1,a1,vs1,rfl,h1,w1⟩:=vz (r1.mono (Zo.ge I1.sB s2)) e1
    obtain ⟨k2,a2,vs2,rfl,h2,w2⟩:=vz r2 e2
    exact ⟨k1,k2,a1,a2,vs1,vs2,rfl,I2.sB _ _ h1,I2.sB _ _ h2,Jj I2 (show Po Y rI _ H2 (.ok (x3 xs ys)) R from q2) (gm h1 h2 w1 w2)⟩
end
end PV
namespace PV
open PySem PySem.Spec PyProof.Rows L2
section
variable {X:Cx} {Y:Fx} {a b:Expr} {fa fb:En->R T} {pos p p' pos' :Pos}
noncomputable def yj:T->R T
 | .bl b=> .ok (.int (b2 b))
 | .int i=> .ok (.int i)
 | _=> .bad
theorem GP (v:V) (t:T) (B H:Hp) (Q:VK) (r:Rep B v t) (sB:zN B H) (q:Po Y rC B H (yj t) Q):
  (∃ i,[v]=[V.int i]/\Q (.int i) H)\/∃ k,[v]=[V.bl k]/\Q (.int (if k then 1 else 0)) H:=by
 cases r with
 | int i=>exact .inl ⟨i,rfl,po0 sB q rfl (.int i)⟩
 | bl k=>exact .inr ⟨k,rfl,po0 sB q rfl (by cases k <;> exact .int _)⟩
 | _=>exact q.elim
theorem qx (gl:Gl X "int") (mg:X.mg "int"=none) (ha:Snd X Y a fa) (hs:St1 X a:=by exact st1 rfl):Snd X Y (.Call (.Name "int" p) [a] [] pos) (ap1 yj fa):=
 xO QG GP gl mg (PyProof.Rows.Boot.«int») ha hs
theorem vA:JL X (.type "range") (fun xs H Q=>∃ i j,xs=[.int i, .int j]/\∀ r,H r=none->Q (.ref r) (upd H r (.rng i j))):=by
 intro pins s σ H xs us Q I r h
 obtain ⟨i,j,rfl,q⟩:=h
 obtain ⟨u,v,rfl,ru,rv⟩:=QE r
 obtain ⟨t,rfl⟩:=ru
 obtain ⟨t',rfl⟩:=rv
 exact call_range_2 ⟨.ref s.heap.objs.size,_,I.laid (t' :=s.toks+1) (fun b o e=>Heap.get?_push_of_some _ e) (Nat.le_refl _) (show j7 X.prog X.w _ _ _ (.rng i j) from ⟨_,_,_,Heap.get?_push_size _ rfl⟩),rfl,q _ (I.hok.fresh (Nat.le_refl _))⟩
noncomputable def Vo (lo:Int) (n:Nat):List V:=(List.range n).map fun (i:Nat)=>V.int (lo+(i:Int))
theorem UO (hh:X.A.handled=none):JL X (.type "list") (fun xs H Q=>∃ r lo hi,xs=[.ref r]/\H r=some (.rng lo hi)/\(-1000000 < lo/\lo < 1000000/\ -1000000 < hi/\hi < 1000000)/\∀ l,H l=none->Q (.ref l) (upd H l (.lst (Vo lo (hi - lo).toNat)))):=by
 intro pins s σ H xs us Q I rv h
 obtain ⟨r,lo,hi,rfl,e,⟨c1,c2,c3,c4⟩,q⟩:=h
 obtain ⟨u,rfl,ru⟩:=Ww rv
 obtain rfl:u=Value.ref r:=ru
 obtain ⟨t,v,v',eo⟩:=(show j7 X.prog X.w H s.heap r (.rng lo hi) from I.hok r _ e)
 have hn:Builtin.Range.rangeSize lo hi 1=((hi - lo).toNat:Int):=by rw [rangeSize_one]; split <;> omega
 refine call_list_range (n:=(hi - lo).toNat) hh eo (small_one (by omega) (by omega) (by omega) (by omega)) hn (by omega) fun h' tk acc c kp eo' hacc=> ?_
 have hv:ZY (Vo lo (hi - lo).toNat) acc.toList:=by
  have key:∀ (n:Nat) (lo:Int) (vs:List Value),vs.length=n->(∀ (j:Nat) (v:Value),vs[j]? =some v->∃ t,v=Value.int (lo+(j:Int)) t)->ZY (Vo lo n) vs:=by
   intro n
   induction n with
   | zero=>
    intro lo vs hl _
    rw [List.eq_nil_of_length_eq_zero hl]
    exact .nil
   | succ n ih=>
    intro lo vs hl hv
    cases vs with
    | nil=>cases hl
    | cons v vs=>
     have e:Vo lo (n+1)=V.int (lo+0) :: Vo (lo+1) n:=by
      unfold Vo
      rw [List.range_succ_eq_map,List.map_cons,List.map_map]
      refine congrArg _ (List.map_congr_left fun j _=> ?_)
      show V.int (lo+((j+1:Nat):Int))=V.int (lo+1+(j:Int))
      congr 1; omega
     rw [e]
     refine .cons (hv 0 v rfl) (ih (lo+1) vs (by simpa using hl) fun j x hx=> ?_)
     obtain ⟨t,z⟩:=hv (j+1) x (by simpa using hx)
     exact ⟨t,by rw [z]; congr 1; omega⟩
  refine key _ lo acc.toList (by simpa using hacc.1) fun j v hj=> ?_
  obtain ⟨t,z⟩:=hacc.2 j v (by simpa using hj)
  exact ⟨t,by rw [z]; congr 1; omega⟩
 have hz:(Vo lo (hi - lo).toNat).length<=sizeLine:=by
  rw [sizeLine_eq]; unfold Vo; rw [List.length_map,List.length_range]; omega
 exact ⟨.ref s.heap.objs.size,_,I.laid (t' :=tk) kp (Nat.le_refl _) (show j7 X.prog X.w _ h' _ (.lst _) from ⟨hz,acc.toList,c,hv,by simpa using eo'⟩),rfl,q _ (I.hok.fresh (Nat.le_refl _))⟩
noncomputable def G7 (fi:En->R (List T)):En->R T:=fun ρ=>(fi ρ).bind fun ts=> .ok (.lst ts)
theorem vC {B:Hp} (lo:Int) (n:Nat):Z2 B (Vo lo n) (rng lo n):=by
 unfold Vo rng
 induction List.range n with
 | nil=>exact .nil
 | cons i is ih=>exact .cons (.int _) ih
theorem kn (hh:X.A.handled=none) (gl:Gl X "list") (mg:X.mg "list"=none) (gl' :Gl X "range") (mg' :X.mg "range"=none) (ha:Snd X Y a fa) (hb:Snd X Y b fb)
  (hs:starEach [a,b] X.env=[(false,eval a X.env),(false,eval b X.env)]:=by exact st2 rfl rfl) (hs2:St1 X b:=by exact st1 rfl):Snd X Y (.Call (.Name "list" p) [.Call (.Name "range" p') [a,b] [] pos'] [] pos) (G7 (U7 fa fb)):= .mk fun ρ=>
 PE.imp (Wb (UO hh) gl mg PyProof.Rows.Boot.«list» (zO (Wb vA gl' mg' boot_range (zO (ha ρ) (zO (hb ρ) ZZ hs2) (by rw [hs,hs2])) (by decide) (by decide) (by rw [hs,hs2]) (by rw [hs2]; rfl)) ZZ (st1 rfl)) (by decide) (by decide) (st1 rfl) rfl) fun σ H Q ⟨B,I,q⟩=>by
  have q:Po Y rC B H ((fa ρ).bind fun t=>(fb ρ).bind fun t' =>(match t,t' with | .int i, .int j=>if -1000000 < i/\i < 1000000/\ -1000000 < j/\j < 1000000 then R.ok (rng i (j - i).toNat) else .bad | _,_=> .bad).bind fun ts=> .ok (.lst ts)) Q:=by
   revert q
   unfold G7 U7
   cases fa ρ with
   | ok t=>cases fb ρ <;> exact fun q=>q
   | ex c=>exact fun q=>q
   | bad=>exact fun q=>q
  refine step I q fun t v H1 _ s1 r1 I1 q1=>step I1 q1 fun t' v' H2 _ s2 r2 I2 q2=> ?_
  cases r1 with
  | int i=>
   cases r2 with
   | int j=>
    by_cases c: -1000000 < i/\i < 1000000/\ -1000000 < j/\j < 1000000
    ·dsimp only at q2
     rw [if_pos c] at q2
     refine ⟨i,j,rfl,fun r hr=>⟨r,i,j,rfl,Zj,c,fun l hl=> ?_⟩⟩
     have hlr:l ≠ r:=fun z=>by rw [z,Zj] at hl; cases hl
     have hl2:H2 l=none:=by rw [zF hlr] at hl; exact hl
     refine q2 _ _ (zN.new hr _ |>.trans (zN.new hl _)) (.lst ?_ (vC _ _))
     rw [ZM hl2,Zj]
    ·dsimp only at q2
     rw [if_neg c] at q2
     exact q2.elim
   | _=>exact q2.elim
  | _=>cases r2 <;> exact q2.elim
noncomputable def mvS (i j:Nat):En->RS:=fun ρ=>match ρ[j]? with
 | some (.ow ts)=> .nx ((ρ.set j (.vl (.lst ts))).set i (.vl (.lst ts)))
 | _=> .bad
theorem SI.give {Y:Fx} {B:Hp} {ρ:En} {σ:Sg} {H:Hp} (I:SI Y B ρ σ H) {j:Nat} {ts:List T} (hj:ρ[j]? =some (.ow ts)):∃ (a:Addr) (B' :Hp),σ[j]? =some (some (V.ref a))/\zN B B' /\Rep B' (.ref a) (.lst ts)/\SI Y B' (ρ.set j (.vl (.lst ts))) σ H:=by
 obtain ⟨a,xs,e,b0,h0,hh,rr,d⟩:=I.ow j ts hj
 have s1:zN B (upd B a (.lst xs)):=zN.new b0 _
 have rp:Rep (upd B a (.lst xs)) (.ref a) (.lst ts):= .lst Zj (rr.mono s1)
 refine ⟨a,_,e,s1,rp,⟨I.s0,I.sH,fun b o q=> ?_,fun b o q=> ?_,by rw [List.length_set]; exact I.len,fun k t q=> ?_,fun k us q=> ?_,fun k c q=> ?_⟩⟩
 ·by_cases hb:b=a
  ·subst hb; rw [Zj] at q; cases q; exact hh
  ·rw [zF hb] at q; exact I.sB b o q
 ·rw [zF fun z=>by rw [z,h0] at q; cases q]; exact I.old b o q
 ·rcases Z5 q with ⟨rfl,z⟩ | ⟨_,z⟩
  ·cases z; exact ⟨_,e,rp⟩
  ·obtain ⟨v,e1,r⟩:=I.vl k t z; exact ⟨v,e1,r.mono s1⟩
 ·rcases Z5 q with ⟨rfl,z⟩ | ⟨hk,z⟩
  ·cases z
  ·obtain ⟨a',xs',e',b0',h0',hh',rr',d'⟩:=I.ow k us z
   have hne:a' ≠ a:=fun w=>by subst w; exact d k us hk z e'
   refine ⟨a',xs',e',by rw [zF hne]; exact b0',h0',hh',rr'.mono s1,fun m ws hm hw=> ?_⟩
   rcases Z5 hw with ⟨rfl,w⟩ | ⟨_,w⟩
   ·cases w
   ·exact d' m ws hm w
 ·rcases Z5 q with ⟨rfl,z⟩ | ⟨_,z⟩
  ·cases z
  ·obtain ⟨a',e',r⟩:=I.xc k c z; exact ⟨a',e',s1 _ _ r⟩
theorem s_mv {i j:Nat} {x y:Str} {yp:Pos} (hv:PE X (.Name y yp) (Qu j)) (hN:X.N.Nodup) (hi:X.N[i]? =some x) (hx:L2.Loc X.env.scope x) (hs:swapsWith (.Name y yp) (some (.Name x p')) pos.line X.env=pure false:=by rfl)
  (hf:X.fn x=true\/X.env.scope.names.lookup x=some .local:=by first | exact .inl rfl | exact .inr rfl | assumption):yD X Y (.Assign [.Name x p'] (.Name y yp) pos) (mvS i j):= .mk fun ρ=>
 PS.imp (qk hN hi hx hv hs hf) fun D σ H ⟨B,I,q⟩=>by
  unfold mvS at q
  split at q
  ·rename_i ts e
   obtain ⟨a,B',e1,s1,r,J⟩:=I.give e
   exact ⟨_,e1,q _ _ B' s1 (J.setV i r)⟩
  ·exact q.elim
end
end PV
namespace PV
open PySem PySem.Spec PyProof.Rows L2
noncomputable def eqs (y:T):List T->Option (List Bool)
 | []=>some []
 | t :: ts=>match eqF 30 t y with
  | none=>none
  | some b=>match eqs y ts with
   | none=>none
   | some bs=>some (b :: bs)
noncomputable def GQ (y:T) (ts:List T):R T:=match eqs y ts with
 | some bs=> .ok (.int (bs.count true))
 | none=> .bad
noncomputable def GR (y:T) (ts:List T):R T:=match eqs y ts with
 | some bs=>if true∈bs then .ok (.int (bs.idxOf true)) else .bad
 | none=> .bad
noncomputable def G8 (g:T->List T->R T) (fa fb:En->R T):En->R T:=fun ρ=>(fa ρ).bind fun t=>match t with
 | .lst ts=>(fb ρ).bind fun u=>g u ts
 | _=> .bad
theorem vD {H:Hp} {y:T} {e:Value->Bool} (he:∀ (v:V) (t:T) (u:Value) (b:Bool),jf v u->Rep H v t->eqF 30 t y=some b->e u=b):∀ {xs:List V} {ts:List T} {its:List Value} {bs:List Bool},
  ZY xs its->Z2 H xs ts->eqs y ts=some bs->its.map e=bs/\∀ u∈its,∃ v t k,jf v u/\Rep H v t/\eqF 30 t y=some k
 | _,_,_,_, .nil, .nil,h=>by
  cases h
  exact ⟨rfl,fun u hu=>by simp at hu⟩
 | _,_,_,_, .cons rv vs, .cons r rs,h=>by
  rename_i v u vals us t ts
  unfold eqs at h
  cases q:eqF 30 t y with
  | none=>rw [q] at h; cases h
  | some k=>
   rw [q] at h
   cases q' :eqs y ts with
   | none=>rw [q'] at h; cases h
   | some k' =>
    rw [q'] at h
    cases h
    obtain ⟨h1,h2⟩:=vD he vs rs q'
    refine ⟨by rw [List.map_cons,h1,he v t u k rv r q],fun w hw=> ?_⟩
    rcases List.mem_cons.mp hw with z | hw
    ·exact ⟨v,t,k,z ▸ rv,r,q⟩
    ·exact h2 w hw
section
variable {X:Cx} {Y:Fx} {a b:Expr} {fa fb:En->R T} {pos p p' pos' :Pos}
theorem vF {e:Value->Bool}:∀ its:List Value,List.countP e its=(its.map e).count true
 | []=>rfl
 | u :: us=>by
  rw [List.countP_cons,List.map_cons,List.count_cons,vF us]
  cases e u <;> rfl
theorem x8 (hu:X.A.units+64 < cLine):MtR X "list.count" (fun x xs H Q=>∃ l ys ts v t bs,x= .ref l/\xs=[v]/\H l=some (.lst ys)/\Z2 H ys ts/\Rep H v t/\eqs t ts=some bs/\Q (.int (bs.count true)) H):=by
 intro pins s σ H x xs v0 us Q I rx rv h
 obtain ⟨l,ys,ts,v,t,bs,rfl,rfl,hl,r,rt,e,q⟩:=h
 obtain rfl:v0=Value.ref l:=rx
 obtain ⟨u,rfl,ru⟩:=Ww rv
 obtain ⟨hz,its,n,ri,eo⟩:=(show j7 X.prog X.w H s.heap l (.lst ys) from I.hok l _ hl)
 obtain ⟨f,hf⟩:=YA (H:=H) fun z=>eqF 30 z t
 obtain ⟨h2,h3⟩:=vD hf ri r e
 refine call_meets PySem.F.slot_list_count ⟨_,eo,rfl⟩ PySem.F.entry_list_count (PySem.F.args_list_count_2 _ _) (SeqAt.list_countAt l its.toArray n none #[] u f) ⟨eo,fun w hw=> ?_, ?_⟩
 ·obtain ⟨v',t',k,rv',rr,ee⟩:=h3 w (by simpa using hw)
  rw [hf v' t' w k rv' rr ee]
  exact (QV I 30 X.A.in1 (by rw [We]; omega) t' t k v' v w u ee rr rt rv' ru).1
 ·rw [show its.toArray.toList=its from rfl,vF,h2]
  exact ⟨.int _,H,I.tok _,⟨_,rfl⟩,q⟩
theorem x9 (hu:X.A.units+64 < cLine):MtR X "list.index" (fun x xs H Q=>∃ l ys ts v t bs,x= .ref l/\xs=[v]/\H l=some (.lst ys)/\Z2 H ys ts/\Rep H v t/\eqs t ts=some bs/\true∈bs/\Q (.int (bs.idxOf true)) H):=by
 intro pins s σ H x xs v0 us Q I rx rv h
 obtain ⟨l,ys,ts,v,t,bs,rfl,rfl,hl,r,rt,e,hm,q⟩:=h
 obtain rfl:v0=Value.ref l:=rx
 obtain ⟨u,rfl,ru⟩:=Ww rv
 obtain ⟨hz,its,n,ri,eo⟩:=(show j7 X.prog X.w H s.heap l (.lst ys) from I.hok l _ hl)
 obtain ⟨f,hf⟩:=YA (H:=H) fun z=>eqF 30 z t
 obtain ⟨h2,h3⟩:=vD hf ri r e
 have hj:bs.idxOf true < bs.length:=List.idxOf_lt_length_iff.mpr hm
 have hlen:bs.length=its.length:=by rw [← h2,List.length_map]
 have hri:=ri.length
 rw [sizeLine_eq] at hz
 have hat:∀ m (hm:m < its.length),f its[m]=bs[m]'(by rw [hlen]; exact hm):=fun m hm=>by
  have:(its.map f)[m]'(by rw [List.length_map]; exact hm)=bs[m]'(by rw [hlen]; exact hm):=by simp only [h2]
  rw [← this,List.getElem_map]
 refine call_meets PySem.F.slot_list_index ⟨_,eo,rfl⟩ PySem.F.entry_list_index (PySem.F.args_list_index_2 _ _) (SeqAt.list_indexAt l its.toArray n none #[] u f (bs.idxOf true) (by rw [List.size_toArray,← hlen]; exact hj) (by omega) ?_ ?_) ⟨eo,fun w hw=> ?_, ?_⟩
 ·rw [List.getElem_toArray,hat]
  exact List.getElem_idxOf hj
 ·intro m hm hlt
  rw [List.getElem_toArray,hat m (by simpa using hm)]
  have:=List.not_of_lt_findIdx (p:=(· == true)) (xs:=bs) (i:=m) hlt
  simpa using this
 ·obtain ⟨v',t',k,rv',rr,ee⟩:=h3 w (by simpa using hw)
  rw [hf v' t' w k rv' rr ee]
  exact (QV I 30 X.A.in1 (by rw [We]; omega) t' t k v' v w u ee rr rt rv' ru).1
 ·exact ⟨.int _,H,I.tok _,⟨_,rfl⟩,q⟩
theorem ko {pa:Pos} (hu:X.A.units+64 < cLine) (ha:Wd X Y a fa) (hb:Wd X Y b fb) (hb1:attributeBase a "count" X.env (eval a X.env)=eval a X.env:=by rfl) (hs:St1 X b:=by exact st1 rfl) (hz:(pa.endLine == p.line)=true:=by rfl):
  Snd X Y (.Call (.Attribute a "count" pa) [b] [] p) (G8 GQ fa fb):= .mk fun ρ=>by
 have e1:(((((backTo p (starEach [b] X.env)).all fun x=> !x.fst) && (backToKw p (keywordEach [] X.env)).all fun x=>x.fst.isSome) && decide (([b].length+([]:List Keyword).length+if ([]:List Keyword).isEmpty=true then 0 else 1) < 30))=true):=by rw [hs]; rfl
 refine PE.imp (QN PySem.F.plainAttrs_list PySem.F.slot_list_count PySem.F.type_list_count (x8 hu) (ha ρ) (zO (hb ρ) ZZ hs) hb1 e1 hz hs rfl) fun σ H Q ⟨B,I,q⟩=>step I q fun t v H1 _ s1 r1 I1 q1=> ?_
 cases t with
 | lst ts=>
  cases r1 with
  | @lst l xs _ h r=>
   refine ⟨.inl ⟨rfl,_,SqL.of h⟩,step I1 q1 fun u v' H2 _ s2 r2 I2 q2=> ?_⟩
   unfold GQ at q2
   split at q2
   ·rename_i bs e
    exact ⟨l,xs,ts,v',u,bs,rfl,rfl,s2 _ _ h,r.mono s2,r2,e,Jj I2 q2 (.int _)⟩
   ·exact q2.elim
 | _=>exact q1.elim
theorem kq {pa:Pos} (hu:X.A.units+64 < cLine) (ha:Wd X Y a fa) (hb:Wd X Y b fb) (hb1:attributeBase a "index" X.env (eval a X.env)=eval a X.env:=by rfl) (hs:St1 X b:=by exact st1 rfl) (hz:(pa.endLine == p.line)=true:=by rfl):
  Snd X Y (.Call (.Attribute a "index" pa) [b] [] p) (G8 GR fa fb):= .mk fun ρ=>by
 have e1:(((((backTo p (starEach [b] X.env)).all fun x=> !x.fst) && (backToKw p (keywordEach [] X.env)).all fun x=>x.fst.isSome) && decide (([b].length+([]:List Keyword).length+if ([]:List Keyword).isEmpty=true then 0 else 1) < 30))=true):=by rw [hs]; rfl
 refine PE.imp (QN PySem.F.plainAttrs_list PySem.F.slot_list_index PySem.F.type_list_index (x9 hu) (ha ρ) (zO (hb ρ) ZZ hs) hb1 e1 hz hs rfl) fun σ H Q ⟨B,I,q⟩=>step I q fun t v H1 _ s1 r1 I1 q1=> ?_
 cases t with
 | lst ts=>
  cases r1 with
  | @lst l xs _ h r=>
   refine ⟨.inl ⟨rfl,_,SqL.of h⟩,step I1 q1 fun u v' H2 _ s2 r2 I2 q2=> ?_⟩
   unfold GR at q2
   split at q2
   ·rename_i bs e
    split at q2
    ·rename_i hm
     exact ⟨l,xs,ts,v',u,bs,rfl,rfl,s2 _ _ h,r.mono s2,r2,e,hm,Jj I2 q2 (.int _)⟩
    ·exact q2.elim
   ·exact q2.elim
 | _=>exact q1.elim
end
end PV
namespace PV
open PySem PySem.Spec PyProof.Rows L2
section
variable {X:Cx} {Y:Fx} {a b:Expr} {fa fb:En->R T} {pos p p' pos' :Pos}
end
section
variable {X:Cx} {Y:Fx} {a b:Expr} {fa fb:En->R T} {pos p p' pos' :Pos}
end
section
variable {X:Cx} {Y:Fx} {tg iter elt:Expr} {ifs:List Expr} {scope:Scope} {pos pos' :Pos} {N' :List Str} {k:Nat} {js:List Nat} {fi:En->R (List T)} {tG:TG} {g:T->En->R En} {ft:En->R Bool} {fe:En->R T}
end
section
variable {P:Program} {w:World} {K:PySem.W.Frag} {mg:Str->Option Value} {base:Heap}
end
end PV
namespace PySem.RV
open PySem PySem.Spec PyProof.Rows PySem.Builtin.SmallTypes
section
variable {prog:Program} {w:World} {A:Around} {E:Value->Shared->Prop} {s:Shared} {it l:Addr} {xs:Array Value}
end
end PySem.RV
namespace PySem.RV
open PySem PySem.Spec PyProof.Rows
section
variable {prog:Program} {w:World} {A:Around} {E:Value->Shared->Prop} {s:Shared} {I:Addr} {fp wr:List Addr} {G:Array GenState->Array GenState->Prop} {n:Nat} {P:Nat->Value->Prop} {St:Nat->Shared->Prop}
end
end PySem.RV
namespace PV
open PySem PySem.Spec PyProof.Rows L2
section
variable {X:Cx} {Y:Fx} {a b tg:Expr} {fa fb:En->R T} {pos p p' pos' :Pos}
end
end PV
namespace G
open PySem PySem.Spec PyProof.Rows L2 PV
noncomputable def okX (c:Nat):Bool:=decide (c < 6)
noncomputable def WB (c:Nat):Bool:=c == 0
noncomputable def wV (c:Nat):Bool:=c == 1
noncomputable def WC (c:Nat):Bool:=c == 2
noncomputable def wW (c:Nat):Bool:=c == 3
noncomputable def uu (c:Nat):Bool:=c == 4
noncomputable def WD (c:Nat):Bool:=c == 5
noncomputable def JA (_:Nat):Bool:=true
noncomputable def uv:En->RS:=
  zR (ifS (Zl ltC (vB 1) (ap1 ZI (vB 0))) (Zc (zf ixT (vE 0) (vE 1))) (nxS))
  (zR (ifS (Zl eqC (vB 0) (Jo (zh))) (Zc (cE (.int 0))) (nxS))
  (Zc (zf zA (zf Zw (zf ixT (vE 0) (zf u9 (vE 1) (ap1 ZI (vB 0)))) (cE (.int 31))) (vE 1))))
noncomputable def J6:List T->R T:=fun ts=>zp (uv  (en0 2 ts))
noncomputable def uw (c__law_cell:List T->R T):En->RS:=
  zR (Z3 3 (zf u9 (zf Zw (zf zA (zd 2 c__law_cell (z9 (vE 0) (z9 (vE 1) (zh)))) (zf Zw (cE (.int 6151)) (zf zA (vE 1) (cE (.int 1))))) (cE (.int 40692))) (cE (.int 2147483399))))
  (Zc (zf u9 (zf u9 (zf zA (zf Zw (vE 3) (vE 3)) (zf qY (vE 3) (cE (.int 31)))) (cE (.int 2147483629))) (vE 2)))
noncomputable def zl:List T->R T:=fun ts=>zp (uw (J6) (en0 4 ts))
noncomputable def jC (c__law_pick:List T->R T):En->RS:=
  zR (Z3 2 (cE (.str "abcdefghijklmnopqrstuvwxyz")))
  (zR (ifS (Zl gtC (zd 3 c__law_pick (z9 (vE 0) (z9 (vE 1) (z9 (cE (.int 6)) (zh))))) (cE (.int 0))) (Zc (zf ixT (Jo (z9 (cE (.str "a")) (z9 (cE (.str "b")) (z9 (cE (.str "ab")) (z9 (cE (.str "cab")) (zh)))))) (zd 3 c__law_pick (z9 (vE 0) (z9 (zf zA (vE 1) (cE (.int 1))) (z9 (cE (.int 4)) (zh))))))) (nxS))
  (Zc (ap1 (KU "") (Zf (jH (zf zA (cE (.int 1)) (zd 3 c__law_pick (z9 (vE 0) (z9 (zf zA (vE 1) (cE (.int 1))) (z9 (cE (.int 3)) (zh))))))) (zG 0) (j4) (zf ixT (vE 3) (zd 3 c__law_pick (z9 (vE 1) (z9 (zf zA (zf zA (vE 2) (cE (.int 2))) (vE 0)) (z9 (cE (.int 26)) (zh)))))) 1 [0,1,2]))))
noncomputable def Zz:List T->R T:=fun ts=>zp (jC (zl) (en0 3 ts))
noncomputable def j5 (c__law_pick:List T->R T) (c__law_word_of:List T->R T):En->RS:=
  zR (ifS (Zl gtC (zd 3 c__law_pick (z9 (vE 0) (z9 (vE 1) (z9 (cE (.int 3)) (zh))))) (cE (.int 0))) (zR (Z3 2 (zf yi (zd 3 c__law_pick (z9 (vE 0) (z9 (zf zA (vE 1) (cE (.int 1))) (z9 (cE (.int 7)) (zh))))) (cE (.int 3))))
  (zR (ifS (Zl eqC (zd 3 c__law_pick (z9 (vE 0) (z9 (zf zA (vE 1) (cE (.int 3))) (z9 (cE (.int 8)) (zh))))) (cE (.int 0))) (Z3 2 (zf ixT (Jo (z9 (QX (cE (.int 20))) (z9 (cE (.int 17)) (z9 (cE (.int 20)) (zh))))) (zd 3 c__law_pick (z9 (vE 0) (z9 (zf zA (vE 1) (cE (.int 4))) (z9 (cE (.int 3)) (zh))))))) (nxS))
  (Zc (jh (z9 (cE (.str "whole")) (z9 (vE 2) (z9 (zf vf (cE (.int 20)) (zf zA (vE 2) (zd 3 c__law_pick (z9 (vE 0) (z9 (zf zA (vE 1) (cE (.int 2))) (z9 (cE (.int 4)) (zh))))))) (zh)))))))) (nxS))
  (zR (vm 3 (zh))
  (zR (WN (jH (zf zA (cE (.int 1)) (zd 3 c__law_pick (z9 (vE 0) (z9 (zf zA (vE 1) (cE (.int 1))) (z9 (cE (.int 4)) (zh))))))) (zG 4) (zR (Z3 5 (zd 2 c__law_word_of (z9 (vE 0) (z9 (zf zA (zf zA (vE 1) (cE (.int 5))) (zf Zw (cE (.int 5)) (vE 4))) (zh)))))
  (ifS (Zl VG (vB 5) (vB 3)) (G5 3 (vE 5)) (nxS))))
  (Zc (jh (z9 (cE (.str "pick")) (z9 (ap1 G4 (Zf (XT (vE 3)) (jI 0 1) (j4) (jh (z9 (vE 1) (z9 (zf zA (cE (.int 1)) (zd 3 c__law_pick (z9 (vE 2) (z9 (zf zA (zf zA (vE 3) (cE (.int 30))) (vE 0)) (z9 (cE (.int 20)) (zh)))))) (zh)))) 2 [0,1])) (zh)))))))
noncomputable def Zx:List T->R T:=fun ts=>zp (j5 (zl) (Zz) (en0 6 ts))
noncomputable def JZ (c__law_pick:List T->R T) (c__law_leaf_kind:List T->R T) (c__law_kind:List T->R T):En->RS:=
  zR (Z3 3 (zd 3 c__law_pick (z9 (vE 0) (z9 (vE 1) (z9 (cE (.int 5)) (zh))))))
  (zR (ifS (orT (Zl eqC (vB 2) (cE (.int 1))) (Zl ltC (vB 3) (cE (.int 2)))) (Zc (zd 2 c__law_leaf_kind (z9 (vE 0) (z9 (zf zA (vE 1) (cE (.int 1))) (zh))))) (nxS))
  (zR (ifS (Zl ltC (vB 3) (cE (.int 4))) (zR (Z3 4 (Zf (jH (zf zA (cE (.int 1)) (zd 3 c__law_pick (z9 (vE 0) (z9 (zf zA (vE 1) (cE (.int 1))) (z9 (cE (.int 3)) (zh))))))) (zG 0) (j4) (zd 3 c__law_kind (z9 (vE 1) (z9 (zf zA (zf zA (zf Zw (cE (.int 3)) (vE 2)) (cE (.int 40))) (zf Zw (cE (.int 50)) (vE 0))) (z9 (zf yi (vE 3) (cE (.int 1))) (zh))))) 1 [0,1,2]))
  (Zc (jh (z9 (cE (.str "row")) (z9 (ap1 G4 (vE 4)) (zh)))))) (nxS))
  (zR (Z3 5 (zd 3 c__law_pick (z9 (vE 0) (z9 (zf zA (vE 1) (cE (.int 1))) (z9 (cE (.int 3)) (zh))))))
  (Zc (jh (z9 (cE (.str "many")) (z9 (zd 3 c__law_kind (z9 (vE 0) (z9 (zf zA (zf Zw (cE (.int 3)) (vE 1)) (cE (.int 40))) (z9 (zf yi (vE 2) (cE (.int 1))) (zh))))) (z9 (vE 5) (z9 (zf vf (cE (.int 3)) (zf zA (vE 5) (zd 3 c__law_pick (z9 (vE 0) (z9 (zf zA (vE 1) (cE (.int 2))) (z9 (cE (.int 3)) (zh))))))) (zh))))))))))
noncomputable def Zs:Nat->Nat->List T->R T
 | 0,_=>fun _=> .bad
 | n+1,_=>fun ts=>zp (JZ (zl) (Zx) (Zs n 0) (en0 6 ts))
noncomputable abbrev Zt (n:Nat):List T->R T:=Zs n 0
noncomputable def jD:En->RS:=
  zR (Z3 1 (Jo (z9 (jh (zh)) (zh))))
  (zR (WN (JK (vE 0)) (zG 2) (zR (vm 3 (zh))
  (zR (WN (JK (vE 1)) (zG 4) (VM 3 (Zf (JK (vE 2)) (zG 0) (j4) (zf zA (vE 1) (jh (z9 (vE 0) (zh)))) 1 [4])))
  (mvS 1 3))))
  (Zc (vE 1)))
noncomputable def zg:List T->R T:=fun ts=>zp (jD  (en0 5 ts))
noncomputable def zx (c__law_all:List T->R T) (c__law_rows_of:List T->R T):En->RS:=
  zR (ifS (Zl eqC (zf ixT (vE 0) (cE (.int 0))) (cE (.str "whole"))) (Zc (G7 (U7 (zf ixT (vE 0) (cE (.int 1))) (zf zA (zf ixT (vE 0) (cE (.int 2))) (cE (.int 1)))))) (nxS))
  (zR (ifS (Zl eqC (zf ixT (vE 0) (cE (.int 0))) (cE (.str "pick"))) (Zc (Zf (JK (zf ixT (vE 0) (cE (.int 1)))) (jI 0 1) (j4) (vE 0) 2 [])) (nxS))
  (zR (ifS (Zl eqC (zf ixT (vE 0) (cE (.int 0))) (cE (.str "row"))) (Zc (zd 1 c__law_rows_of (z9 (Zf (JK (zf ixT (vE 0) (cE (.int 1)))) (zG 0) (j4) (zd 1 c__law_all (z9 (vE 0) (zh))) 1 []) (zh)))) (nxS))
  (zR (vm 1 (zh))
  (zR (WN (U7 (zf ixT (vE 0) (cE (.int 2))) (zf zA (zf ixT (vE 0) (cE (.int 3))) (cE (.int 1)))) (zG 2) (VM 1 (zd 1 c__law_rows_of (z9 (zf Zw (Jo (z9 (zd 1 c__law_all (z9 (zf ixT (vE 0) (cE (.int 1))) (zh))) (zh))) (vE 2)) (zh)))))
  (Zc (vE 1))))))
noncomputable def jV:Nat->Nat->List T->R T
 | 0,_=>fun _=> .bad
 | n+1,_=>fun ts=>zp (zx (jV n 0) (zg) (en0 3 ts))
noncomputable abbrev zE (n:Nat):List T->R T:=jV n 0
noncomputable def zH (c__law_all:List T->R T) (c__law_size:List T->R T):En->RS:=
  zR (ifS (Zl inC (zf ixT (vE 0) (cE (.int 0))) (jh (z9 (cE (.str "whole")) (z9 (cE (.str "pick")) (zh))))) (Zc (ap1 ZI (zd 1 c__law_all (z9 (vE 0) (zh))))) (nxS))
  (zR (Z3 1 (ifE (Zl eqC (zf ixT (vE 0) (cE (.int 0))) (cE (.str "row"))) (Zf (JK (zf ixT (vE 0) (cE (.int 1)))) (zG 0) (j4) (zd 1 c__law_size (z9 (vE 0) (zh))) 1 []) (Jo (zh))))
  (zR (Z3 2 (cE (.int 1)))
  (zR (WN (JK (vE 1)) (zG 3) (Z3 2 (zf Zw (vE 2) (vE 3))))
  (zR (ifS (Zl eqC (zf ixT (vE 0) (cE (.int 0))) (cE (.str "many"))) (zR (Z3 4 (zd 1 c__law_size (z9 (zf ixT (vE 0) (cE (.int 1))) (zh))))
  (zR (Z3 2 (zf zA (ap1 yj (wg eqC (zf ixT (vE 0) (cE (.int 2))) (cE (.int 0)))) (zf Zw (vE 4) (ap1 yj (chE leC leC (zf ixT (vE 0) (cE (.int 2))) (cE (.int 1)) (zf ixT (vE 0) (cE (.int 3))))))))
  (zR (Z3 2 (zf zA (vE 2) (zf Zw (zf Zw (vE 4) (vE 4)) (ap1 yj (chE leC leC (zf ixT (vE 0) (cE (.int 2))) (cE (.int 2)) (zf ixT (vE 0) (cE (.int 3))))))))
  (Z3 2 (zf zA (vE 2) (zf Zw (zf Zw (zf Zw (vE 4) (vE 4)) (vE 4)) (ap1 yj (wg eqC (zf ixT (vE 0) (cE (.int 3))) (cE (.int 3)))))))))) (nxS))
  (Zc (vE 2))))))
noncomputable def j9:Nat->Nat->List T->R T
 | 0,_=>fun _=> .bad
 | n+1,_=>fun ts=>zp (zH (zE 8) (j9 n 0) (en0 5 ts))
noncomputable abbrev ja (n:Nat):List T->R T:=j9 n 0
noncomputable def Jq (c__law_kind:List T->R T) (c__law_size:List T->R T):En->RS:=
  zR (Z3 3 (zd 3 c__law_kind (z9 (vE 0) (z9 (vE 1) (z9 (cE (.int 3)) (zh))))))
  (zR (WN (jH (cE (.int 3))) (zG 4) (zR (ifS (Zl leC (zd 1 c__law_size (z9 (vE 3) (zh))) (vB 2)) (Zc (vE 3)) (nxS))
  (Z3 3 (zd 3 c__law_kind (z9 (vE 0) (z9 (zf zA (zf zA (vE 1) (cE (.int 500))) (zf Zw (cE (.int 700)) (vE 4))) (z9 (cE (.int 2)) (zh))))))))
  (Zc (ifE (Zl leC (zd 1 c__law_size (z9 (vE 3) (zh))) (vB 2)) (vE 3) (jh (z9 (cE (.str "whole")) (z9 (QX (cE (.int 1))) (z9 (cE (.int 2)) (zh))))))))
noncomputable def ZN:List T->R T:=fun ts=>zp (Jq (Zt 8) (ja 8) (en0 5 ts))
noncomputable def zV (c__law_places:List T->R T):En->RS:=
  zR (vm 1 (z9 (jh (zh)) (zh)))
  (zR (ifS (jg (ap1 (Jk "tuple") (vB 0))) (WN (jH (ap1 ZI (vB 0))) (zG 2) (VM 1 (Zf (JK (zd 1 c__law_places (z9 (zf ixT (vE 0) (vE 2)) (zh)))) (zG 0) (j4) (zf zA (jh (z9 (vE 1) (zh))) (vE 0)) 1 [2]))) (nxS))
  (Zc (vE 1)))
noncomputable def jQ:Nat->Nat->List T->R T
 | 0,_=>fun _=> .bad
 | n+1,_=>fun ts=>zp (zV (jQ n 0) (en0 3 ts))
noncomputable abbrev jl (n:Nat):List T->R T:=jQ n 0
noncomputable def Wm:En->RS:=
  zR (WN (JK (vE 1)) (zG 2) (Z3 0 (zf ixT (vE 0) (vE 2))))
  (Zc (vE 0))
noncomputable def JP:List T->R T:=fun ts=>zp (Wm  (en0 3 ts))
noncomputable def jW (c__law_put:List T->R T):En->RS:=
  zR (ifS (Zl eqC (vB 1) (jh (zh))) (Zc (vE 2)) (nxS))
  (zR (Z3 3 (zf ixT (vE 1) (cE (.int 0))))
  (Zc (zf zA (zf zA (slE (vE 0) (noO) (jv (vE 3))) (jh (z9 (zd 3 c__law_put (z9 (zf ixT (vE 0) (vE 3)) (z9 (slE (vE 1) (jv (cE (.int 1))) (noO)) (z9 (vE 2) (zh))))) (zh)))) (slE (vE 0) (jv (zf zA (vE 3) (cE (.int 1)))) (noO)))))
noncomputable def JQ:Nat->Nat->List T->R T
 | 0,_=>fun _=> .bad
 | n+1,_=>fun ts=>zp (jW (JQ n 0) (en0 4 ts))
noncomputable abbrev zw (n:Nat):List T->R T:=JQ n 0
noncomputable def Zu (c__law_pick:List T->R T) (c__law_places:List T->R T) (c__law_at:List T->R T) (c__law_put:List T->R T):En->RS:=
  zR (Z3 3 (zd 1 c__law_places (z9 (vE 2) (zh))))
  (zR (Z3 4 (zf ixT (vE 3) (zd 3 c__law_pick (z9 (vE 0) (z9 (vE 1) (z9 (ap1 ZI (vB 3)) (zh)))))))
  (zR (Z3 5 (zd 2 c__law_at (z9 (vE 2) (z9 (vE 4) (zh)))))
  (zR (Z3 6 (Jo (z9 (cE (.int 0)) (z9 (cE (.int 1)) (z9 (QX (cE (.int 21))) (z9 (cE (.int 21)) (z9 (cE (.int 3)) (z9 (cE (.int 4)) (z9 (cE (.bl true)) (z9 (cE .non) (z9 (cE (.str "a")) (z9 (cE (.str "abcd")) (z9 (cE (.str "A")) (z9 (cE (.str "")) (z9 (cE (.str "many")) (z9 (cE (.str "row")) (z9 (jh (zh)) (z9 (jh (z9 (vE 5) (zh))) (z9 (Jo (z9 (vE 5) (zh))) (z9 (jh (z9 (cE (.str "whole")) (z9 (cE (.int 1)) (z9 (cE (.int 0)) (zh))))) (zh)))))))))))))))))))))
  (zR (Z3 7 (zd 3 c__law_pick (z9 (vE 0) (z9 (zf zA (vE 1) (cE (.int 1))) (z9 (zf zA (ap1 ZI (vB 6)) (cE (.int 5))) (zh))))))
  (zR (ifS (Zl ltC (vB 7) (ap1 ZI (vB 6))) (Zc (zd 3 c__law_put (z9 (vE 2) (z9 (vE 4) (z9 (zf ixT (vE 6) (vE 7)) (zh)))))) (nxS))
  (zR (ifS (U5 (jg (ap1 (Jk "tuple") (vB 5))) (Zl neC (vB 5) (jh (zh)))) (zR (Z3 8 (zd 3 c__law_pick (z9 (vE 0) (z9 (zf zA (vE 1) (cE (.int 2))) (z9 (ap1 ZI (vB 5)) (zh))))))
  (Zc (zd 3 c__law_put (z9 (vE 2) (z9 (vE 4) (z9 (zf ixT (Jo (z9 (zf zA (slE (vE 5) (noO) (jv (vE 8))) (slE (vE 5) (jv (zf zA (vE 8) (cE (.int 1)))) (noO))) (z9 (zf zA (zf zA (slE (vE 5) (noO) (jv (vE 8))) (slE (vE 5) (jv (vE 8)) (jv (zf zA (vE 8) (cE (.int 1)))))) (slE (vE 5) (jv (vE 8)) (noO))) (zh)))) (zf u9 (vE 7) (cE (.int 2)))) (zh))))))) (nxS))
  (zR (ifS (jg (ap1 (Jk "int") (vB 5))) (Zc (zd 3 c__law_put (z9 (vE 2) (z9 (vE 4) (z9 (zf yi (zf zA (vE 5) (cE (.int 1))) (zf Zw (cE (.int 2)) (zf u9 (vE 7) (cE (.int 2))))) (zh)))))) (nxS))
  (Zc (zd 3 c__law_put (z9 (vE 2) (z9 (vE 4) (z9 (jh (z9 (cE (.str "row")) (z9 (jh (z9 (vE 5) (z9 (vE 5) (zh)))) (zh)))) (zh)))))))))))))
noncomputable def zy:List T->R T:=fun ts=>zp (Zu (zl) (jl 40) (JP) (zw 40) (en0 9 ts))
noncomputable def ux:En->RS:=
  zR (vm 1 (z9 (ut 0 okX uu) (z9 (ut 0 okX WB) (z9 (ut 0 okX WC) (z9 (ut 0 okX WD) (zh))))))
  (zR (VM 1 (Jo (z9 (ut 0 okX wV) (z9 (ut 0 okX wW) (zh)))))
  (zR (ifS (orT (Zl neC (G8 GQ (vB 1) (cE (.bl true))) (cE (.int 1))) (Wg (jg (ut 0 okX JA)))) (Zc (cE (.str "wrong"))) (nxS))
  (Zc (zf ixT (Jo (z9 (cE (.str "ended")) (z9 (cE (.str "no kind")) (z9 (cE (.str "no rule")) (z9 (cE (.str "no text")) (z9 (cE (.str "no worth")) (z9 (cE (.str "too many")) (zh)))))))) (G8 GR (vB 1) (cE (.bl true)))))))
noncomputable def jz:Nat->R T:=fun c=>zp (ux  (enC 2 c))
noncomputable def Uq:En->RS:=
  Zc (wo (ap1 (Jk "int") (vB 0)) (GF (ap1 (Jk "bool") (vB 0))))
noncomputable def Z7:List T->R T:=fun ts=>zp (Uq  (en0 1 ts))
noncomputable def yK (c_is_whole:List T->R T):En->RS:=
  Zc (wo (zd 1 c_is_whole (z9 (vE 0) (zh))) (wo (zd 1 c_is_whole (z9 (vE 1) (zh))) (ch3E leC leC leC (vB 2) (vB 0) (vB 1) (vB 3))))
noncomputable def Wn:List T->R T:=fun ts=>zp (yK (Z7) (en0 4 ts))
noncomputable def Wo:En->RS:=
  Zc (wo (ap1 (Jk "tuple") (vB 0)) (chE leC leC (vB 1) (ap1 ZI (vB 0)) (vB 2)))
noncomputable def zr:List T->R T:=fun ts=>zp (Wo  (en0 3 ts))
noncomputable def yL:En->RS:=
  zR (ifS (orT (Wg (jg (ap1 (Jk "str") (vB 0)))) (Wg (chT leC leC (cE (.int 1)) (ap1 ZI (vB 0)) (cE (.int 3))))) (Zc (cE (.bl false))) (nxS))
  (Zc (ap1 vg (Zf (JK (vE 0)) (zG 0) (j4) (chE leC leC (cE (.str "a")) (vB 0) (cE (.str "z"))) 1 [])))
noncomputable def JR:List T->R T:=fun ts=>zp (yL  (en0 1 ts))
noncomputable def w4 (c_is_whole:List T->R T) (c_is_tuple_of:List T->R T) (c_is_word:List T->R T):En->RS:=
  Zc (wo (zd 3 c_is_tuple_of (z9 (vE 0) (z9 (cE (.int 2)) (z9 (cE (.int 2)) (zh))))) (wo (zd 1 c_is_word (z9 (zf ixT (vE 0) (cE (.int 0))) (zh))) (wo (zd 1 c_is_whole (z9 (zf ixT (vE 0) (cE (.int 1))) (zh))) (chE leC leC (cE (.int 1)) (zf ixT (vE 0) (cE (.int 1))) (cE (.int 20))))))
noncomputable def jb:List T->R T:=fun ts=>zp (w4 (Z7) (zr) (JR) (en0 1 ts))
noncomputable def jR (c_is_tuple_of:List T->R T) (c_is_choice:List T->R T):En->RS:=
  zR (ifS (orT (Wg (jg (zd 3 c_is_tuple_of (z9 (vE 0) (z9 (cE (.int 1)) (z9 (cE (.int 4)) (zh))))))) (Wg (jg (ap1 vg (Zf (JK (vE 0)) (zG 0) (j4) (zd 1 c_is_choice (z9 (vE 0) (zh))) 1 []))))) (Zc (cE (.bl false))) (nxS))
  (zR (Z3 1 (Zf (JK (vE 0)) (zG 0) (j4) (zf ixT (vE 0) (cE (.int 0))) 1 []))
  (Zc (wg eqC (ap1 VT (vB 1)) (ap1 ZI (vB 1)))))
noncomputable def jm:List T->R T:=fun ts=>zp (jR (zr) (jb) (en0 2 ts))
noncomputable def j6 (c_is_span:List T->R T) (c_is_kind_within:List T->R T) (c_are_choices:List T->R T) (c_are_kinds_within:List T->R T):En->RS:=
  zR (ifS (orT (Zl eqC (vB 1) (cE (.int 0))) (orT (Wg (jg (ap1 (Jk "tuple") (vB 0)))) (Zl eqC (ap1 ZI (vB 0)) (cE (.int 0))))) (Zc (cE (.bl false))) (nxS))
  (zR (ifS (Zl eqC (zf ixT (vE 0) (cE (.int 0))) (cE (.str "whole"))) (Zc (wo (wg eqC (ap1 ZI (vB 0)) (cE (.int 3))) (zd 4 c_is_span (z9 (zf ixT (vE 0) (cE (.int 1))) (z9 (zf ixT (vE 0) (cE (.int 2))) (z9 (QX (cE (.int 20))) (z9 (cE (.int 20)) (zh)))))))) (nxS))
  (zR (ifS (Zl eqC (zf ixT (vE 0) (cE (.int 0))) (cE (.str "pick"))) (Zc (wo (wg eqC (ap1 ZI (vB 0)) (cE (.int 2))) (zd 1 c_are_choices (z9 (zf ixT (vE 0) (cE (.int 1))) (zh))))) (nxS))
  (zR (ifS (Zl eqC (zf ixT (vE 0) (cE (.int 0))) (cE (.str "row"))) (Zc (wo (wg eqC (ap1 ZI (vB 0)) (cE (.int 2))) (zd 2 c_are_kinds_within (z9 (zf ixT (vE 0) (cE (.int 1))) (z9 (zf yi (vE 1) (cE (.int 1))) (zh)))))) (nxS))
  (zR (ifS (Zl eqC (zf ixT (vE 0) (cE (.int 0))) (cE (.str "many"))) (Zc (wo (wg eqC (ap1 ZI (vB 0)) (cE (.int 4))) (wo (zd 4 c_is_span (z9 (zf ixT (vE 0) (cE (.int 2))) (z9 (zf ixT (vE 0) (cE (.int 3))) (z9 (cE (.int 0)) (z9 (cE (.int 3)) (zh)))))) (zd 2 c_is_kind_within (z9 (zf ixT (vE 0) (cE (.int 1))) (z9 (zf yi (vE 1) (cE (.int 1))) (zh))))))) (nxS))
  (Zc (cE (.bl false)))))))
noncomputable def ZF (c_is_tuple_of:List T->R T) (c_is_kind_within:List T->R T):En->RS:=
  Zc (wo (zd 3 c_is_tuple_of (z9 (vE 0) (z9 (cE (.int 1)) (z9 (cE (.int 3)) (zh))))) (ap1 vg (Zf (JK (vE 0)) (zG 0) (j4) (zd 2 c_is_kind_within (z9 (vE 0) (z9 (vE 1) (zh)))) 1 [1])))
noncomputable def zi:Nat->Nat->List T->R T
 | 0,_=>fun _=> .bad
 | n+1,0=>fun ts=>zp (j6 (Wn) (zi n 0) (jm) (zi n 1) (en0 2 ts))
 | n+1,_=>fun ts=>zp (ZF (zr) (zi n 0) (en0 2 ts))
noncomputable abbrev jM (n:Nat):List T->R T:=zi n 0
noncomputable abbrev Wp (n:Nat):List T->R T:=zi n 1
noncomputable def Wq (c_is_kind_within:List T->R T):En->RS:=
  Zc (zd 2 c_is_kind_within (z9 (vE 0) (z9 (cE (.int 3)) (zh))))
noncomputable def JS:List T->R T:=fun ts=>zp (Wq (jM 20) (en0 1 ts))
noncomputable def w8 (c_is_kind:List T->R T):En->RS:=
  ifS (Wg (jg (zd 1 c_is_kind (z9 (vE 0) (zh))))) (xV 0) (nxS)
noncomputable def ZO:List T->R T:=fun ts=>zp (w8 (JS) (en0 1 ts))
noncomputable def jn:En->RS:=
  Zc (Zf (JK (zf ixT (vE 0) (cE (.int 1)))) (zG 0) (j4) (zf ixT (vE 0) (cE (.int 0))) 1 [])
noncomputable def zL:List T->R T:=fun ts=>zp (jn  (en0 1 ts))
noncomputable def zZ (c_is_whole:List T->R T) (c_is_tuple_of:List T->R T) (c_words_of_pick:List T->R T) (c_have_parts:List T->R T):En->RS:=
  zR (ifS (Zl eqC (zf ixT (vE 0) (cE (.int 0))) (cE (.str "whole"))) (Zc (wo (zd 1 c_is_whole (z9 (vE 1) (zh))) (chE leC leC (zf ixT (vE 0) (cE (.int 1))) (vB 1) (zf ixT (vE 0) (cE (.int 2)))))) (nxS))
  (zR (ifS (Zl eqC (zf ixT (vE 0) (cE (.int 0))) (cE (.str "pick"))) (Zc (wg inC (vB 1) (zd 1 c_words_of_pick (z9 (vE 0) (zh))))) (nxS))
  (zR (ifS (Zl eqC (zf ixT (vE 0) (cE (.int 0))) (cE (.str "row"))) (Zc (wo (zd 3 c_is_tuple_of (z9 (vE 1) (z9 (ap1 ZI (zf ixT (vE 0) (cE (.int 1)))) (z9 (ap1 ZI (zf ixT (vE 0) (cE (.int 1)))) (zh))))) (zd 2 c_have_parts (z9 (zf ixT (vE 0) (cE (.int 1))) (z9 (vE 1) (zh)))))) (nxS))
  (Zc (wo (zd 3 c_is_tuple_of (z9 (vE 1) (z9 (zf ixT (vE 0) (cE (.int 2))) (z9 (zf ixT (vE 0) (cE (.int 3))) (zh))))) (zd 2 c_have_parts (z9 (zf Zw (Jo (z9 (zf ixT (vE 0) (cE (.int 1))) (zh))) (ap1 ZI (vB 1))) (z9 (vE 1) (zh))))))))
noncomputable def jJ (c_has_worth:List T->R T):En->RS:=
  Zc (ap1 vg (Zf (km (vE 0) (vE 1)) (jI 0 1) (j4) (zd 2 c_has_worth (z9 (vE 0) (z9 (vE 1) (zh)))) 2 []))
noncomputable def zQ:Nat->Nat->List T->R T
 | 0,_=>fun _=> .bad
 | n+1,0=>fun ts=>zp (zZ (Z7) (zr) (zL) (zQ n 1) (en0 2 ts))
 | n+1,_=>fun ts=>zp (jJ (zQ n 0) (en0 2 ts))
noncomputable abbrev J7 (n:Nat):List T->R T:=zQ n 0
noncomputable abbrev yM (n:Nat):List T->R T:=zQ n 1
noncomputable def jX (c_need_kind:List T->R T) (c_has_worth:List T->R T):En->RS:=
  zR (VL (zd 1 c_need_kind (z9 (vE 0) (zh))))
  (Zc (zd 2 c_has_worth (z9 (vE 0) (z9 (vE 1) (zh)))))
noncomputable def Z8:List T->R T:=fun ts=>zp (jX (ZO) (J7 20) (en0 2 ts))
noncomputable def je (c_is_worth:List T->R T) (c__law_word:Nat->R T):En->RS:=
  zR (Z3 2 (cE .non))
  (zR (Z3 3 (cE .non))
  (zR (k6 2 okX (Z3 3 (zd 2 c_is_worth (z9 (vE 0) (z9 (vE 1) (zh))))))
  (zR (ifS (g9 2) (Zc (vE 3)) (nxS))
  (Zc (ka 2 c__law_word)))))
noncomputable def zC:List T->R T:=fun ts=>zp (je (Z8) (jz) (en0 5 ts))
noncomputable def WO:En->RS:=
  Zc (wo (ap1 (Jk "int") (vB 0)) (wo (GF (ap1 (Jk "bool") (vB 0))) (chE leC leC (vB 1) (vB 0) (vB 2))))
noncomputable def zW:List T->R T:=fun ts=>zp (WO  (en0 3 ts))
noncomputable def jE:En->RS:=
  Zc (wo (ap1 (Jk "str") (vB 0)) (wo (chE leC leC (cE (.int 1)) (ap1 ZI (vB 0)) (cE (.int 3))) (wg eqC (Zf (JK (vE 0)) (zG 0) (Wg (chT leC leC (cE (.str "a")) (vB 0) (cE (.str "z")))) (vE 0) 1 []) (Jo (zh)))))
noncomputable def zJ:List T->R T:=fun ts=>zp (jE  (en0 1 ts))
noncomputable def ZA (c__law_whole:List T->R T) (c__law_is_word:List T->R T) (c__law_is_kind:List T->R T):En->RS:=
  zR (ifS (orT (Wg (jg (ap1 (Jk "tuple") (vB 0)))) (orT (Zl ltC (ap1 ZI (vB 0)) (cE (.int 2))) (orT (Wg (jg (ap1 (Jk "str") (zf ixT (vE 0) (cE (.int 0)))))) (Zl ltC (vB 1) (cE (.int 1)))))) (Zc (cE (.bl false))) (nxS))
  (zR (G6 2 3 (z9 (zf ixT (vE 0) (cE (.int 0))) (z9 (slE (vE 0) (jv (cE (.int 1))) (noO)) (zh))))
  (zR (ifS (Zl eqC (vB 2) (cE (.str "whole"))) (Zc (wo (wg eqC (ap1 ZI (vB 3)) (cE (.int 2))) (wo (zd 3 c__law_whole (z9 (zf ixT (vE 3) (cE (.int 0))) (z9 (QX (cE (.int 20))) (z9 (cE (.int 20)) (zh))))) (zd 3 c__law_whole (z9 (zf ixT (vE 3) (cE (.int 1))) (z9 (zf ixT (vE 3) (cE (.int 0))) (z9 (cE (.int 20)) (zh)))))))) (nxS))
  (zR (ifS (Zl eqC (vB 2) (cE (.str "pick"))) (zR (ifS (orT (Zl neC (ap1 ZI (vB 3)) (cE (.int 1))) (orT (Wg (jg (ap1 (Jk "tuple") (zf ixT (vE 3) (cE (.int 0)))))) (Wg (chT leC leC (cE (.int 1)) (ap1 ZI (zf ixT (vE 3) (cE (.int 0)))) (cE (.int 4)))))) (Zc (cE (.bl false))) (nxS))
  (zR (Z3 4 (Zf (JK (zf ixT (vE 3) (cE (.int 0)))) (zG 0) (U5 (jg (ap1 (Jk "tuple") (vB 0))) (Zl eqC (ap1 ZI (vB 0)) (cE (.int 2)))) (vE 0) 1 []))
  (zR (Z3 5 (Zf (JK (vE 4)) (zG 0) (U5 (jg (zd 1 c__law_is_word (z9 (zf ixT (vE 0) (cE (.int 0))) (zh)))) (jg (zd 3 c__law_whole (z9 (zf ixT (vE 0) (cE (.int 1))) (z9 (cE (.int 1)) (z9 (cE (.int 20)) (zh))))))) (zf ixT (vE 0) (cE (.int 0))) 1 []))
  (Zc (wo (wg eqC (ap1 ZI (vB 5)) (ap1 ZI (zf ixT (vE 3) (cE (.int 0))))) (wg eqC (Zf (jH (ap1 ZI (vB 5))) (zG 0) (Zl inC (zf ixT (vE 1) (vE 0)) (slE (vE 1) (noO) (jv (vE 0)))) (vE 0) 1 [5]) (Jo (zh)))))))) (nxS))
  (zR (ifS (Zl eqC (vB 2) (cE (.str "row"))) (zR (ifS (orT (Zl neC (ap1 ZI (vB 3)) (cE (.int 1))) (orT (Wg (jg (ap1 (Jk "tuple") (zf ixT (vE 3) (cE (.int 0)))))) (Wg (chT leC leC (cE (.int 1)) (ap1 ZI (zf ixT (vE 3) (cE (.int 0)))) (cE (.int 3)))))) (Zc (cE (.bl false))) (nxS))
  (Zc (wg eqC (Zf (JK (zf ixT (vE 3) (cE (.int 0)))) (zG 0) (Wg (jg (zd 2 c__law_is_kind (z9 (vE 0) (z9 (zf yi (vE 1) (cE (.int 1))) (zh)))))) (vE 0) 1 [1]) (Jo (zh))))) (nxS))
  (zR (ifS (orT (Zl neC (vB 2) (cE (.str "many"))) (orT (Zl neC (ap1 ZI (vB 3)) (cE (.int 3))) (orT (Wg (jg (zd 3 c__law_whole (z9 (zf ixT (vE 3) (cE (.int 1))) (z9 (cE (.int 0)) (z9 (cE (.int 3)) (zh))))))) (Wg (jg (zd 3 c__law_whole (z9 (zf ixT (vE 3) (cE (.int 2))) (z9 (zf ixT (vE 3) (cE (.int 1))) (z9 (cE (.int 3)) (zh)))))))))) (Zc (cE (.bl false))) (nxS))
  (Zc (zd 2 c__law_is_kind (z9 (zf ixT (vE 3) (cE (.int 0))) (z9 (zf yi (vE 1) (cE (.int 1))) (zh))))))))))
noncomputable def zt:Nat->Nat->List T->R T
 | 0,_=>fun _=> .bad
 | n+1,_=>fun ts=>zp (ZA (zW) (zJ) (zt n 0) (en0 6 ts))
noncomputable abbrev j1 (n:Nat):List T->R T:=zt n 0
noncomputable def ZP (c__law_same:List T->R T):En->RS:=
  zR (ifS (U5 (jg (ap1 (Jk "tuple") (vB 0))) (jg (ap1 (Jk "tuple") (vB 1)))) (Zc (wo (wg eqC (ap1 ZI (vB 0)) (ap1 ZI (vB 1))) (ap1 vg (Zf (km (vE 0) (vE 1)) (jI 0 1) (j4) (zd 2 c__law_same (z9 (vE 0) (z9 (vE 1) (zh)))) 2 [])))) (nxS))
  (Zc (wo (wg eqC (vB 0) (vB 1)) (wg eqC (ap1 (Jk "bool") (vB 0)) (ap1 (Jk "bool") (vB 1)))))
noncomputable def ZQ:Nat->Nat->List T->R T
 | 0,_=>fun _=> .bad
 | n+1,_=>fun ts=>zp (ZP (ZQ n 0) (en0 2 ts))
noncomputable abbrev zM (n:Nat):List T->R T:=ZQ n 0
noncomputable def xa (c__law_pick:List T->R T) (c__law_all:List T->R T) (c__law_small:List T->R T) (c__law_is_kind:List T->R T) (c__law_spoilt_thing:List T->R T) (c__law_tried:List T->R T) (c__law_same:List T->R T):En->RS:=
  zR (Z3 1 (zd 3 c__law_small (z9 (vE 0) (z9 (cE (.int 0)) (z9 (cE (.int 60)) (zh))))))
  (zR (Z3 2 (zd 1 c__law_all (z9 (vE 1) (zh))))
  (zR (ifS (Zl neC (Zf (JK (vE 2)) (zG 0) (Zl U4 (zd 2 c__law_tried (z9 (vE 1) (z9 (vE 0) (zh)))) (cE (.bl true))) (vE 0) 1 [1]) (Jo (zh))) (Zc (cE (.bl false))) (nxS))
  (zR (WN (jH (cE (.int 6))) (zG 3) (zR (Z3 4 (zf ixT (vE 2) (zd 3 c__law_pick (z9 (vE 0) (z9 (zf zA (cE (.int 4000)) (zf Zw (cE (.int 10)) (vE 3))) (z9 (ap1 ZI (vB 2)) (zh)))))))
  (zR (Z3 5 (zd 3 c__law_spoilt_thing (z9 (vE 0) (z9 (zf zA (cE (.int 4001)) (zf Zw (cE (.int 10)) (vE 3))) (z9 (vE 4) (zh))))))
  (zR (Z3 6 (wg neC (Zf (JK (vE 2)) (zG 0) (jg (zd 2 c__law_same (z9 (vE 0) (z9 (vE 1) (zh))))) (vE 0) 1 [5]) (Jo (zh))))
  (zR (Z3 7 (zd 2 c__law_tried (z9 (vE 1) (z9 (vE 5) (zh)))))
  (ifS (orT (Zl neC (vB 7) (vB 6)) (Wg (jg (ap1 (Jk "bool") (vB 7))))) (Zc (cE (.bl false))) (nxS)))))))
  (zR (Z3 5 (zd 3 c__law_spoilt_thing (z9 (vE 0) (z9 (cE (.int 4100)) (z9 (vE 1) (zh))))))
  (Zc (orE (zd 2 c__law_is_kind (z9 (vE 5) (z9 (cE (.int 3)) (zh)))) (wo (wg eqC (zd 2 c__law_tried (z9 (vE 5) (z9 (zf ixT (vE 2) (cE (.int 0))) (zh)))) (cE (.str "no kind"))) (wg eqC (zd 2 c__law_tried (z9 (vE 5) (z9 (cE .non) (zh)))) (cE (.str "no kind"))))))))))
noncomputable def U9:List T->R T:=fun ts=>zp (xa (zl) (zE 8) (ZN) (j1 12) (zy) (zC) (zM 40) (en0 8 ts))
end G
namespace G
open PySem L2 PV
noncomputable abbrev scr (ns:List Int):T:= .fz (ns.map T.int)
theorem kr (ns:List Int) (k:Int) (h0:0<=k):∃ c,J6 [scr ns, .int k]= .ok (.int c):=by
 have e1:J6 [scr ns, .int k]=zp (if decide (k < ((ns.map T.int).length:Int))=true then (atT (ns.map T.int) k).s (fun t=> .rt t) else
   match (eqC (scr ns) (.lst [])).s (fun b=>if b=true then RS.rt (.int 0) else .nx [.vl (scr ns), .vl (.int k)]) with
   | .nx ρ' =>Zc (zf zA (zf Zw (zf ixT (vE 0) (zf u9 (vE 1) (ap1 ZI (vB 0)))) (cE (.int 31))) (vE 1)) ρ'
   | r=>r):=by
  show zp (match (if decide (k < ((ns.map T.int).length:Int))=true then (atT (ns.map T.int) k).s (fun t=>RS.rt t) else .nx [.vl (scr ns), .vl (.int k)]) with
   | .nx ρ' =>_
   | r=>r)=_
  cases decide (k < ((ns.map T.int).length:Int)) with
  | true=>
   rw [if_pos rfl,if_pos rfl]
   unfold atT
   cases atI (ns.map T.int) k <;> rfl
  | false=>rfl
 rw [e1,List.length_map]
 by_cases hk:k < (ns.length:Int)
 ·obtain ⟨v,hv⟩:∃ v,ns[k.toNat]? =some v:=⟨ns[k.toNat]'(by omega),List.getElem?_eq_getElem (by omega)⟩
  have ea:atI (ns.map T.int) k=some (.int v):=by
   have:k=((k.toNat:Nat):Int):=by omega
   rw [this]
   exact Jv (by rw [List.getElem?_map,hv]; rfl)
  rw [decide_eq_true hk,if_pos rfl]
  exact ⟨v,by unfold atT; rw [ea]; rfl⟩
 ·rw [decide_eq_false hk,if_neg Bool.false_ne_true]
  cases ns with
  | nil=>exact ⟨0,rfl⟩
  | cons x xs=>
   have hm0:=Int.emod_nonneg k (show (((x :: xs).length:Nat):Int) ≠ 0 by simp only [List.length_cons]; omega)
   have hm1:=Int.emod_lt_of_pos k (show (0:Int) < (((x :: xs).length:Nat):Int) by simp only [List.length_cons]; omega)
   obtain ⟨v,hv⟩:∃ v,(x :: xs)[(k % (((x :: xs).length:Nat):Int)).toNat]? =some v:=⟨_,List.getElem?_eq_getElem (by omega)⟩
   have ea:atI ((x :: xs).map T.int) (k % (((x :: xs).length:Nat):Int))=some (.int v):=by
    have e:k % (((x :: xs).length:Nat):Int)=(((k % (((x :: xs).length:Nat):Int)).toNat:Nat):Int):=by omega
    rw [e]
    exact Jv (by rw [List.getElem?_map,hv]; rfl)
   have cm:yh v 31:= .inr ⟨by decide,by decide⟩
   have hp:(0:Int) < (((x :: xs).map T.int).length:Int):=by simp only [List.length_map,List.length_cons]; omega
   refine ⟨v*31+k, ?_⟩
   show zp (((((if 0 < (((x :: xs).map T.int).length:Int) then R.ok (T.int (k % (((x :: xs).map T.int).length:Int))) else .bad).bind fun y=>ixT (scr (x :: xs)) y).bind fun a=>Zw a (.int 31)).bind fun a=>zA a (.int k)).s fun t=> .rt t)=_
   rw [if_pos hp]
   show zp ((((atT ((x :: xs).map T.int) (k % (((x :: xs).map T.int).length:Int))).bind fun a=>Zw a (.int 31)).bind fun a=>zA a (.int k)).s fun t=> .rt t)=_
   rw [List.length_map]
   unfold atT
   rw [ea]
   show zp ((((if yh v 31 then R.ok (T.int (v*31)) else .bad)).bind fun a=>zA a (.int k)).s fun t=> .rt t)=_
   rw [if_pos cm]
   rfl
theorem Zv (ns:List Int) (k m:Int) (h0:0<=k) (hm:0 < m):∃ p,zl [scr ns, .int k, .int m]= .ok (.int p)/\0<=p/\p < m:=by
 obtain ⟨c,hc⟩:=kr ns k h0
 have cm1:yh 6151 (k+1):= .inl ⟨by decide,by decide⟩
 have cm2:yh (c+6151*(k+1)) 40692:= .inr ⟨by decide,by decide⟩
 generalize hd:(c+6151*(k+1))*40692 % 2147483399=d
 have hd0:0<=d:=by rw [← hd]; exact Int.emod_nonneg _ (by decide)
 have hd1:d < 2147483399:=by rw [← hd]; exact Int.emod_lt_of_pos _ (by decide)
 have cm3:yh d d:= .inl ⟨by omega,by omega⟩
 refine ⟨(d*d+d / 31) % 2147483629 % m, ?_,Int.emod_nonneg _ (by omega),Int.emod_lt_of_pos _ hm⟩
 have e1:zl [scr ns, .int k, .int m]=zp (match ((((((J6 [scr ns, .int k]).bind fun x=>(Zw (.int 6151) (.int (k+1))).bind fun y=>zA x y).bind fun x=>Zw x (.int 40692)).bind fun x=>u9 x (.int 2147483399))).s fun t=>RS.nx [.vl (scr ns), .vl (.int k), .vl (.int m), .vl t]) with
   | .nx ρ' =>Zc (zf u9 (zf u9 (zf zA (zf Zw (vE 3) (vE 3)) (zf qY (vE 3) (cE (.int 31)))) (cE (.int 2147483629))) (vE 2)) ρ'
   | r=>r):=rfl
 rw [e1,hc]
 show zp (match (((((if yh 6151 (k+1) then R.ok (T.int (6151*(k+1))) else .bad).bind fun y=>zA (.int c) y).bind fun x=>Zw x (.int 40692)).bind fun x=>u9 x (.int 2147483399)).s fun t=>RS.nx [.vl (scr ns), .vl (.int k), .vl (.int m), .vl t]) with
   | .nx ρ' =>_
   | r=>r)=_
 rw [if_pos cm1]
 show zp (match ((((if yh (c+6151*(k+1)) 40692 then R.ok (T.int ((c+6151*(k+1))*40692)) else .bad)).bind fun x=>u9 x (.int 2147483399)).s fun t=>RS.nx [.vl (scr ns), .vl (.int k), .vl (.int m), .vl t]) with
   | .nx ρ' =>_
   | r=>r)=_
 rw [if_pos cm2]
 show zp (Zc (zf u9 (zf u9 (zf zA (zf Zw (vE 3) (vE 3)) (zf qY (vE 3) (cE (.int 31)))) (cE (.int 2147483629))) (vE 2)) [.vl (scr ns), .vl (.int k), .vl (.int m), .vl (.int ((c+6151*(k+1))*40692 % 2147483399))])=_
 rw [hd]
 show zp (((((if yh d d then R.ok (T.int (d*d)) else .bad).bind fun x=>zA x (.int (d / 31))).bind fun x=>u9 x (.int 2147483629)).bind fun x=>u9 x (.int m)).s fun t=>RS.rt t)=_
 rw [if_pos cm3]
 show zp ((if 0 < m then R.ok (T.int ((d*d+d / 31) % 2147483629 % m)) else .bad).s fun t=>RS.rt t)=_
 rw [if_pos hm]
 rfl
end G
namespace G
open PySem L2 PV
theorem vG {ft:En->R Bool} {fe:En->R T}:∀ (ts:List T) (ρ:En) (x:Sl),zY (zG 0) ft fe ts (ρ.set 0 x)=zY (zG 0) ft fe ts ρ
 | [],_,_=>rfl
 | t :: ts,ρ,x=>by
  unfold zY zG
  rw [List.set_set]
theorem Zp {ft:En->R Bool} {fe:En->R T} {p:T->Bool} {h:T->T}:∀ (ts:List T) (ρ:En),(∀ t∈ts,ft (ρ.set 0 (.vl t))= .ok (p t)/\(p t=true->fe (ρ.set 0 (.vl t))= .ok (h t)))->zY (zG 0) ft fe ts ρ= .ok ((ts.filter p).map h)
 | [],_,_=>rfl
 | t :: ts,ρ,H=>by
  obtain ⟨h1,h2⟩:=H t List.mem_cons_self
  have ih:=Zp ts ρ fun u hu=>H u (List.mem_cons_of_mem _ hu)
  have e:zY (zG 0) ft fe (t :: ts) ρ=(ft (ρ.set 0 (.vl t))).bind fun k=>if k=true then (fe (ρ.set 0 (.vl t))).bind fun v=>(zY (zG 0) ft fe ts (ρ.set 0 (.vl t))).bind fun vs=> .ok (v :: vs) else zY (zG 0) ft fe ts (ρ.set 0 (.vl t)):=rfl
  rw [e,h1,vG,ih]
  show (if p t=true then _ else _)=_
  cases hp:p t with
  | true=>rw [if_pos rfl,h2 hp,List.filter_cons_of_pos hp]; rfl
  | false=>rw [if_neg Bool.false_ne_true,List.filter_cons_of_neg (by rw [hp]; exact Bool.false_ne_true)]
theorem vH {fe:En->R T} {h:T->T} (ts:List T) (ρ:En) (H:∀ t∈ts,fe (ρ.set 0 (.vl t))= .ok (h t)):zY (zG 0) j4 fe ts ρ= .ok (ts.map h):=by
 have:=Zp (ft:=j4) (fe:=fe) (p:=fun _=>true) (h:=h) ts ρ fun t ht=>⟨rfl,fun _=>H t ht⟩
 rw [this,List.filter_eq_self.mpr (fun _ _=>rfl)]
theorem jo {fe:En->R T} {h:T->T} {k:Nat} {js:List Nat} {ρ:En} (ts:List T) (hl:ts.length<=bnd) (H:∀ t∈ts,fe ((Uo k js ρ).set 0 (.vl t))= .ok (h t)):zT (zG 0) j4 fe k js ρ ts= .ok (ts.map h):=by
 unfold zT
 rw [if_pos hl,vH ts _ H]
 rfl
theorem ud (p:T->Bool):∀ ts:List T,yC (ts.map fun t=>T.bl (p t))=some (ts.all p)
 | []=>rfl
 | t :: ts=>by
  show (match yC (ts.map fun t=>T.bl (p t)) with | some j=>some (p t && j) | none=>none)=_
  rw [ud p ts]; rfl
noncomputable def isW:T->Bool
 | .int _=>true
 | _=>false
theorem qy (t:T):Z7 [t]= .ok (.bl (isW t)):=by cases t <;> rfl
noncomputable def Q5 (a b:Nat):T->Bool
 | .tup xs=>decide (a<=xs.length) && decide (xs.length<=b)
 | _=>false
theorem J8 (t:T) (a b:Nat):zr [t, .int a, .int b]= .ok (.bl (Q5 a b t)):=by
 cases t with
 | tup xs=>
  show zp ((if decide ((a:Int)<=(xs.length:Int))=true then R.ok (T.bl (decide ((xs.length:Int)<=(b:Int)))) else .ok (.bl false)).s fun t=> .rt t)=_
  have e1:decide ((a:Int)<=(xs.length:Int))=decide (a<=xs.length):=by simp
  have e2:decide ((xs.length:Int)<=(b:Int))=decide (xs.length<=b):=by simp
  rw [e1,e2]
  show _=R.ok (T.bl (decide (a<=xs.length) && decide (xs.length<=b)))
  cases decide (a<=xs.length) <;> rfl
 | _=>rfl
noncomputable def wq (lo hi:Int):T->T->Bool
 | .int i, .int j=>decide (lo<=i) && decide (i<=j) && decide (j<=hi)
 | _,_=>false
theorem vI (t u:T) (lo hi:Int):Wn [t,u, .int lo, .int hi]= .ok (.bl (wq lo hi t u)):=by
 cases t with
 | int i=>
  cases u with
  | int j=>
   show zp ((if decide (lo<=i)=true then (if decide (i<=j)=true then R.ok (T.bl (decide (j<=hi))) else .ok (.bl false)) else .ok (.bl false)).s fun t=> .rt t)=_
   show _=R.ok (T.bl (decide (lo<=i) && decide (i<=j) && decide (j<=hi)))
   cases decide (lo<=i) <;> cases decide (i<=j) <;> rfl
  | _=>rfl
 | _=>cases u <;> rfl
noncomputable def Zm (c:Nat):Bool:=decide (97<=c) && decide (c<=122)
noncomputable def Zy:T->Bool
 | .str x=>decide (1<=x.length) && decide (x.length<=3) && x.cps.toList.all Zm
 | _=>false
theorem qz (a b:Nat):decide ([a] < [b])=decide (a < b):=by
 by_cases h:a < b
 ·rw [decide_eq_true h]; exact decide_eq_true (List.Lex.rel h)
 ·rw [decide_eq_false h]
  refine decide_eq_false fun z=> ?_
  cases z with
  | rel h' =>exact h h'
  | cons h' =>cases h'
theorem ku (c:Nat) (ρ:En):chE leC leC (cE (.str "a")) (vB 0) (cE (.str "z")) ((Sl.vl (.str ⟨#[c]⟩)) :: ρ)= .ok (.bl (Zm c)):=by
 have e1:leC (.str "a") (.str ⟨#[c]⟩)= .ok (decide (97<=c)):=by
  show R.ok (!decide ([c] < [97]))=_
  rw [qz]
  by_cases h:c < 97
  ·rw [decide_eq_true h,decide_eq_false (by omega)]; rfl
  ·rw [decide_eq_false h,decide_eq_true (by omega)]; rfl
 have e2:leC (.str ⟨#[c]⟩) (.str "z")= .ok (decide (c<=122)):=by
  show R.ok (!decide ([122] < [c]))=_
  rw [qz]
  by_cases h:122 < c
  ·rw [decide_eq_true h,decide_eq_false (by omega)]; rfl
  ·rw [decide_eq_false h,decide_eq_true (by omega)]; rfl
 show (leC (.str "a") (.str ⟨#[c]⟩)).bind (fun k=>if k=true then (leC (.str ⟨#[c]⟩) (.str "z")).bind fun k' =>R.ok (T.bl k') else R.ok (T.bl false))=_
 rw [e1,e2]
 unfold Zm
 show (if decide (97<=c)=true then R.ok (T.bl (decide (c<=122))) else .ok (.bl false))=_
 cases decide (97<=c) <;> rfl
noncomputable def kv:T->Prop
 | .str x=>x.length<=bnd
 | _=>True
theorem kw (t:T) (ht:kv t):JR [t]= .ok (.bl (Zy t)):=by
 cases t with
 | str x=>
  have hx:x.length<=bnd:=ht
  have e0:ZI (.str x)= .ok (.int x.length):=if_pos hx
  have ec:zT (zG 0) j4 (chE leC leC (cE (.str "a")) (vB 0) (cE (.str "z"))) 1 [] [.vl (.str x)] (J4 x)= .ok (x.cps.toList.map fun c=>T.bl (Zm c)):=by
   have hs:(J4 x).length<=bnd:=by unfold J4; rw [List.length_map,Array.length_toList]; exact hx
   have:=jo (fe:=chE leC leC (cE (.str "a")) (vB 0) (cE (.str "z"))) (h:=fun t=>match t with | .str y=>T.bl (Zm (y.cps.toList.headD 0)) | t=>t) (k:=1) (js:=[]) (ρ:=[.vl (.str x)]) (J4 x) hs fun t ht=>by
    unfold J4 at ht
    obtain ⟨c,_,rfl⟩:=List.mem_map.mp ht
    exact ku c []
   rw [this]
   unfold J4
   rw [List.map_map]
   rfl
  have ea:yC (x.cps.toList.map fun c=>T.bl (Zm c))=some (x.cps.toList.all Zm):=by
   have:=ud (fun t=>match t with | .str y=>Zm (y.cps.toList.headD 0) | _=>true) (J4 x)
   unfold J4 at this
   rw [List.map_map,List.all_map] at this
   exact this
  have e1:JR [.str x]=zp (match ((((ZI (.str x)).bind fun y=>(leC (.int 1) y).bind fun k=>if k=true then leC y (.int 3) else .ok false).bind fun b=> .ok (!b)).s fun k=>if k=true then RS.rt (.bl false) else .nx [.vl (.str x)]) with
    | .nx ρ' =>Zc (ap1 vg (Zf (JK (vE 0)) (zG 0) (j4) (chE leC leC (cE (.str "a")) (vB 0) (cE (.str "z"))) 1 [])) ρ'
    | r=>r):=rfl
  rw [e1,e0]
  have c1:decide ((1:Int)<=(x.length:Int))=decide (1<=x.length):=by
   by_cases h:1<=x.length
   ·rw [decide_eq_true h]; exact decide_eq_true (by omega)
   ·rw [decide_eq_false h]; exact decide_eq_false (by omega)
  have c2:decide ((x.length:Int)<=(3:Int))=decide (x.length<=3):=by
   by_cases h:x.length<=3
   ·rw [decide_eq_true h]; exact decide_eq_true (by omega)
   ·rw [decide_eq_false h]; exact decide_eq_false (by omega)
  show zp (match ((((if decide ((1:Int)<=(x.length:Int))=true then R.ok (decide ((x.length:Int)<=(3:Int))) else .ok false)).bind fun b=> .ok (!b)).s fun k=>if k=true then RS.rt (.bl false) else .nx [.vl (.str x)]) with
    | .nx ρ' =>_
    | r=>r)=_
  rw [c1,c2]
  show _=R.ok (T.bl (decide (1<=x.length) && decide (x.length<=3) && x.cps.toList.all Zm))
  cases decide (1<=x.length) with
  | false=>rfl
  | true=>
   cases decide (x.length<=3) with
   | false=>rfl
   | true=>
    show zp ((((zT (zG 0) j4 (chE leC leC (cE (.str "a")) (vB 0) (cE (.str "z"))) 1 [] [.vl (.str x)] (J4 x)).bind fun vs=> .ok (.lst vs)).bind vg).s fun t=> .rt t)=_
    rw [ec]
    show zp ((match yC (x.cps.toList.map fun c=>T.bl (Zm c)) with | some k=>R.ok (T.bl k) | none=> .bad).s fun t=> .rt t)=_
    rw [ea]
    rfl
 | _=>rfl
end G
namespace G
open PySem L2 PV
theorem bOk {α β:Type} (a:α) (f:α->R β):(R.ok a).bind f=f a:=rfl
theorem ZK {α:Type} (a:α) (f:α->RS):(R.ok a).s f=f a:=rfl
theorem J9 (r:R T):zp (r.s fun t=> .rt t)=r:=by cases r <;> rfl
theorem Zd (f:En->R T) (ρ:En):Zc f ρ=(f (frz ρ)).s fun t=> .rt t:=rfl
theorem JT {g:List T->R T} {f:En->R T} {ρ:En}:zd 1 g (z9 f zh) ρ=(f ρ).bind fun x=>g [x]:=by
 unfold zd z9 zh
 cases f ρ <;> rfl
theorem Jm {g:List T->R T} {f f' :En->R T} {ρ:En}:zd 2 g (z9 f (z9 f' zh)) ρ=(f ρ).bind fun x=>(f' ρ).bind fun y=>g [x,y]:=by
 unfold zd z9 zh
 cases f ρ with
 | ok a=>cases f' ρ <;> rfl
 | ex c=>rfl
 | bad=>rfl
theorem ZW {g:List T->R T} {f f' f'' :En->R T} {ρ:En}:zd 3 g (z9 f (z9 f' (z9 f'' zh))) ρ=(f ρ).bind fun x=>(f' ρ).bind fun y=>(f'' ρ).bind fun z=>g [x,y,z]:=by
 unfold zd z9 zh
 cases f ρ with
 | ok a=>
  cases f' ρ with
  | ok b=>cases f'' ρ <;> rfl
  | ex c=>rfl
  | bad=>rfl
 | ex c=>rfl
 | bad=>rfl
theorem GS {g:List T->R T} {f f' f'' f3:En->R T} {ρ:En}:zd 4 g (z9 f (z9 f' (z9 f'' (z9 f3 zh)))) ρ=(f ρ).bind fun x=>(f' ρ).bind fun y=>(f'' ρ).bind fun z=>(f3 ρ).bind fun w=>g [x,y,z,w]:=by
 unfold zd z9 zh
 cases f ρ with
 | ok a=>
  cases f' ρ with
  | ok b=>
   cases f'' ρ with
   | ok c=>cases f3 ρ <;> rfl
   | ex c=>rfl
   | bad=>rfl
  | ex c=>rfl
  | bad=>rfl
 | ex c=>rfl
 | bad=>rfl
noncomputable def K1 (r k:R T):R T:=r.bind fun x=>match x with
 | .bl true=>k
 | .bl false=> .ok (.bl false)
 | _=> .bad
theorem wd (f g:En->R T) (ρ:En):wo f g ρ=K1 (f ρ) (g ρ):=rfl
theorem ZD (a:Bool) (k:R T):K1 (.ok (.bl a)) k=if a=true then k else .ok (.bl false):=by cases a <;> rfl
theorem v0 {t:T} {ρ:En}:vE 0 (.vl t :: ρ)= .ok t:=rfl
theorem v1 {t:T} {a:Sl} {ρ:En}:vE 1 (a :: .vl t :: ρ)= .ok t:=rfl
theorem w0 {t:T} {ρ:En}:vB 0 (.vl t :: ρ)= .ok t:=rfl
theorem w1 {t:T} {a:Sl} {ρ:En}:vB 1 (a :: .vl t :: ρ)= .ok t:=rfl
theorem ZE {t:T} {ρ:En}:cE t ρ= .ok t:=rfl
theorem zn {g:T->T->R T} {f f' :En->R T} {ρ:En}:zf g f f' ρ=(f ρ).bind fun x=>(f' ρ).bind fun y=>g x y:=rfl
theorem jK {t:T} {ρ:En}:frz (.vl t :: ρ)= .vl t :: frz ρ:=rfl
theorem WE {ρ:En}:frz (.un :: ρ)= .un :: frz ρ:=rfl
theorem JB:frz []=[]:=rfl
theorem xb {g g' :T->T->R Bool} {fa fb fc:En->R T} {ρ:En}:chE g g' fa fb fc ρ=(fa ρ).bind fun x=>(fb ρ).bind fun y=>(g x y).bind fun k=>if k=true then (fc ρ).bind fun z=>(g' y z).bind fun k' => .ok (.bl k') else .ok (.bl false):=rfl
theorem jA {g:T->R T} {f:En->R T} {ρ:En}:ap1 g f ρ=(f ρ).bind g:=rfl
theorem YF {i j:Int}:leC (.int i) (.int j)= .ok (decide (i<=j)):=rfl
theorem jB {g:T->T->R Bool} {f f' :En->R T} {ρ:En}:wg g f f' ρ=(f ρ).bind fun x=>(f' ρ).bind fun y=>(g x y).bind fun b=> .ok (.bl b):=rfl
theorem JC {xs:List T}:ZI (.tup xs)= .ok (.int xs.length):=rfl
theorem vJ {xs:List T}:ZI (.lst xs)= .ok (.int xs.length):=rfl
mutual
noncomputable def sOk:T->Prop
 | .str x=>x.length<=bnd
 | .tup xs=>wI xs
 | .lst xs=>wI xs
 | .fz xs=>wI xs
 | _=>True
noncomputable def wI:List T->Prop
 | []=>True
 | t :: ts=>sOk t/\wI ts
end
theorem jS:∀ {ts:List T} {t:T},wI ts->t∈ts->sOk t
 | u :: ts,t,h,hm=>by
  have h' :sOk u/\wI ts:=by simpa only [wI] using h
  rcases List.mem_cons.mp hm with rfl | hm
  ·exact h'.1
  ·exact jS h'.2 hm
theorem sOk.str {t:T} (h:sOk t):kv t:=by
 cases t with
 | str x=>
  have h' :x.length<=bnd:=by simpa only [sOk] using h
  exact h'
 | _=>trivial
theorem Ja {xs:List T} (h:sOk (.tup xs)):wI xs:=by simpa only [sOk] using h
noncomputable def zo:T->Bool
 | .tup [w, .int i]=>Zy w && decide (1<=i) && decide (i<=20)
 | _=>false
theorem vK (t:T) (ht:sOk t):jb [t]= .ok (.bl (zo t)):=by
 have e:jb [t]=zp (w4 Z7 zr JR [.vl t]):=rfl
 rw [e,w4]
 simp only [Zd,J9,jK,JB,wd,ZW,JT,v0,ZE,bOk,zn,xb]
 rw [show zr [t, .int 2, .int 2]= .ok (.bl (Q5 2 2 t)) from J8 t 2 2,ZD]
 cases t with
 | tup xs=>
  match xs,ht with
  | [],_=>rfl
  | [_],_=>rfl
  | _ :: _ :: _ :: _,_=>simp [Q5,zo]
  | [w,n],ht=>
   have hw:sOk w:=jS (Ja ht) (by simp)
   show (if true=true then K1 (JR [w]) (K1 (Z7 [n]) ((leC (.int 1) n).bind fun k=>if k=true then (leC n (.int 20)).bind fun k' =>R.ok (T.bl k') else .ok (.bl false))) else _)=_
   rw [if_pos rfl,kw w hw.str,qy,ZD,ZD]
   cases n with
   | int i=>
    show (if Zy w=true then (if true=true then (if decide (1<=i)=true then R.ok (T.bl (decide (i<=20))) else .ok (.bl false)) else _) else _)=R.ok (T.bl (Zy w && decide (1<=i) && decide (i<=20)))
    cases Zy w <;> cases decide (1<=i) <;> rfl
   | _=>
    show (if Zy w=true then (if false=true then _ else R.ok (T.bl false)) else R.ok (T.bl false))=R.ok (T.bl false)
    cases Zy w <;> rfl
 | _=>rfl
end G
namespace G
open PySem L2 PV
theorem zD (f g:En->RS) (ρ:En):zR f g ρ=match f ρ with | .nx ρ' =>g ρ' | r=>r:=rfl
theorem jp (g:En->R Bool) (f1 f2:En->RS) (ρ:En):ifS g f1 f2 ρ=(g ρ).s fun k=>if k=true then f1 ρ else f2 ρ:=rfl
theorem Q6 (f g:En->R Bool) (ρ:En):orT f g ρ=(f ρ).bind fun x=>if x=true then .ok true else g ρ:=rfl
theorem Ur (f:En->R Bool) (ρ:En):Wg f ρ=(f ρ).bind fun x=> .ok (!x):=rfl
theorem wQ (f:En->R T) (ρ:En):jg f ρ=(f ρ).bind tru:=rfl
theorem jw (k:Bool):tru (.bl k)= .ok k:=rfl
theorem jL (i:Nat) (f:En->R T) (ρ:En):Z3 i f ρ=(f ρ).s fun t=> .nx (ρ.set i (.vl t)):=rfl
theorem ZX {g:T->T->R Bool} {f f' :En->R T} {ρ:En}:Zl g f f' ρ=(f ρ).bind fun x=>(f' ρ).bind fun y=>g x y:=rfl
theorem Zg {fi:En->R (List T)} {g:T->En->R En} {ft:En->R Bool} {fe:En->R T} {k:Nat} {js:List Nat} {ρ:En}:Zf fi g ft fe k js ρ=(fi ρ).bind fun ts=>(zT g ft fe k js ρ ts).bind fun vs=> .ok (.lst vs):=rfl
theorem JU {f:En->R T} {ρ:En}:JK f ρ=(f ρ).bind ur:=rfl
noncomputable def Z4:T->Str
 | .tup (.str w :: _)=>w
 | _=>⟨#[]⟩
noncomputable def yN:T->Bool
 | .tup cs=>decide (1<=cs.length) && decide (cs.length<=4) && cs.all zo && decide ((dd [] (cs.map Z4)).length=cs.length)
 | _=>false
theorem WP {c:T} (h:zo c=true):∃ w n,c= .tup [.str w,n]:=by
 unfold zo at h
 split at h
 ·rename_i w i
  cases w with
  | str x=>exact ⟨x,_,rfl⟩
  | _=>cases h
 ·cases h
theorem Us:∀ {cs:List T},cs.all zo=true->Qs (cs.map fun c=>T.str (Z4 c))=some (cs.map Z4)
 | [],_=>rfl
 | c :: cs,h=>by
  rw [List.all_cons,Bool.and_eq_true] at h
  have ih:=Us h.2
  show (match Qs (cs.map fun c=>T.str (Z4 c)) with | some ys=>some (Z4 c :: ys) | none=>none)=_
  rw [ih]; rfl
theorem Q7 (t:T) (ht:sOk t):jm [t]= .ok (.bl (yN t)):=by
 have e:jm [t]=zp (jR zr jb [.vl t, .un]):=rfl
 rw [e,jR]
 simp only [zD,jp,Q6,Ur,wQ,ZW,v0,ZE,bOk]
 rw [show zr [t, .int 1, .int 4]= .ok (.bl (Q5 1 4 t)) from J8 t 1 4]
 simp only [bOk,jw]
 cases t with
 | tup cs=>
  have hl:Q5 1 4 (.tup cs)=(decide (1<=cs.length) && decide (cs.length<=4)):=rfl
  rw [hl]
  show _=R.ok (T.bl (decide (1<=cs.length) && decide (cs.length<=4) && cs.all zo && decide ((dd [] (cs.map Z4)).length=cs.length)))
  cases h14:(decide (1<=cs.length) && decide (cs.length<=4)) with
  | false=>rfl
  | true=>
   rw [Bool.and_eq_true,decide_eq_true_eq,decide_eq_true_eq] at h14
   have hb:cs.length<=bnd:=Nat.le_trans h14.2 (by decide)
   have ec:zT (zG 0) j4 (zd 1 jb (z9 (vE 0) zh)) 1 [] [.vl (.tup cs), .un] cs= .ok (cs.map fun c=>T.bl (zo c)):=
    jo (h:=fun c=>T.bl (zo c)) cs hb fun c hc=>by
     show zd 1 jb (z9 (vE 0) zh) [.vl c]=_
     rw [JT,v0,bOk]
     exact vK c (jS (Ja ht) hc)
   simp only [Bool.not_true,Bool.false_eq_true,if_false,jA,Zg,JU,v0,bOk,ur,ec]
   have ea:vg (.lst (cs.map fun c=>T.bl (zo c)))= .ok (.bl (cs.all zo)):=by
    show (match yC (cs.map fun c=>T.bl (zo c)) with | some k=>R.ok (T.bl k) | none=> .bad)=_
    rw [ud]
   rw [ea]
   simp only [bOk,jw,ZK]
   cases hall:cs.all zo with
   | false=>rfl
   | true=>
    have ew:zT (zG 0) j4 (zf ixT (vE 0) (cE (.int 0))) 1 [] [.vl (.tup cs), .un] cs= .ok (cs.map fun c=>T.str (Z4 c)):=
     jo (h:=fun c=>T.str (Z4 c)) cs hb fun c hc=>by
      obtain ⟨w,n,rfl⟩:=WP (List.all_eq_true.mp hall c hc)
      rfl
    simp only [Bool.not_true,Bool.false_eq_true,if_false,nxS,jL,Zg,JU,v0,bOk,ur,ew,ZK,Zd]
    show zp (((VT (.lst (cs.map fun c=>T.str (Z4 c)))).bind fun x=>(ZI (.lst (cs.map fun c=>T.str (Z4 c)))).bind fun y=>(eqC x y).bind fun b=>R.ok (T.bl b)).s fun t=> .rt t)=_
    have el:VT (.lst (cs.map fun c=>T.str (Z4 c)))= .ok (.int (dd [] (cs.map Z4)).length):=by
     show (match Qs (cs.map fun c=>T.str (Z4 c)) with | some ys=>if (cs.map fun c=>T.str (Z4 c)).length+1 < 4096 then R.ok (T.int (dd [] ys).length) else .bad | none=> .bad)=_
     rw [Us hall]
     exact if_pos (by rw [List.length_map]; omega)
    rw [el,vJ,List.length_map,J9]
    show R.ok (T.bl (((dd [] (cs.map Z4)).length:Int) == (cs.length:Int)))=_
    congr 2
    by_cases hq:(dd [] (cs.map Z4)).length=cs.length
    ·rw [decide_eq_true hq,hq]; simp
    ·rw [decide_eq_false hq]
     simp only [Bool.true_and,beq_eq_false_iff_ne]
     omega
 | _=>rfl
end G
namespace G
open PySem L2 PV
noncomputable def isS (w:Str):T->Bool
 | .str s=>s == w
 | _=>false
theorem eqS (h:T) (w:Str):eqC h (.str w)= .ok (isS w h):=by cases h <;> rfl
theorem eqI (i j:Int):eqC (.int i) (.int j)= .ok (i == j):=rfl
theorem at0 {h:T} {r:List T}:ixT (.tup (h :: r)) (.int 0)= .ok h:=by
 show atT (h :: r) 0=_
 unfold atT
 rw [show atI (h :: r) 0=some h from Jv (j:=0) rfl]
theorem at1 {h a:T} {r:List T}:ixT (.tup (h :: a :: r)) (.int 1)= .ok a:=by
 show atT (h :: a :: r) 1=_
 unfold atT
 rw [show atI (h :: a :: r) 1=some a from Jv (j:=1) rfl]
theorem at2 {h a b:T} {r:List T}:ixT (.tup (h :: a :: b :: r)) (.int 2)= .ok b:=by
 show atT (h :: a :: b :: r) 2=_
 unfold atT
 rw [show atI (h :: a :: b :: r) 2=some b from Jv (j:=2) rfl]
theorem at3 {h a b c:T} {r:List T}:ixT (.tup (h :: a :: b :: c :: r)) (.int 3)= .ok c:=by
 show atT (h :: a :: b :: c :: r) 3=_
 unfold atT
 rw [show atI (h :: a :: b :: c :: r) 3=some c from Jv (j:=3) rfl]
noncomputable def uy (k:T->Bool):T->Bool
 | .tup ks=>decide (1<=ks.length) && decide (ks.length<=3) && ks.all k
 | _=>false
noncomputable def WQ:List T->Bool
 | [a,b]=>wq (-20) 20 a b
 | _=>false
noncomputable def yO:List T->Bool
 | [c]=>yN c
 | _=>false
noncomputable def xX (k:T->Bool):List T->Bool
 | [c]=>uy k c
 | _=>false
noncomputable def yP (k:T->Bool):List T->Bool
 | [c,a,b]=>wq 0 3 a b && k c
 | _=>false
noncomputable def UP (k:T->Bool):T->Bool
 | .tup (h :: r)=>if isS "whole" h=true then WQ r else if isS "pick" h=true then yO r else if isS "row" h=true then xX k r else if isS "many" h=true then yP k r else false
 | _=>false
noncomputable def isK:Nat->T->Bool
 | 0,_=>false
 | d+1,t=>UP (isK d) t
theorem uz {α:Type} (xs:List α) (n:Nat):((xs.length:Int) == (n:Int))=decide (xs.length=n):=by
 by_cases h:xs.length=n
 ·rw [decide_eq_true h,h]; simp
 ·rw [decide_eq_false h,beq_eq_false_iff_ne]; omega
theorem xY {f:En->R T} {ρ:En}:QX f ρ=(f ρ).bind fun x=>match x with | .int i=> .ok (.int (-i)) | _=> .bad:=rfl
theorem Wr {i j:Int}:yi (.int i) (.int j)= .ok (.int (i - j)):=rfl
set_option maxHeartbeats 1000000 in
theorem kx {n:Nat} {d:Nat} {k:T->Bool} (H0:∀ t,sOk t->zi n 0 [t, .int d]= .ok (.bl (k t))) (H1:∀ t,sOk t->zi n 1 [t, .int d]= .ok (.bl (uy k t))) (t:T) (ht:sOk t):
  zi (n+1) 0 [t, .int ((d+1:Nat):Int)]= .ok (.bl (UP k t)):=by
 have e:zi (n+1) 0 [t, .int ((d+1:Nat):Int)]=zp (j6 Wn (zi n 0) jm (zi n 1) [.vl t, .vl (.int ((d+1:Nat):Int))]):=rfl
 have hL:(((d+1:Nat):Int) == 0)=false:=by rw [beq_eq_false_iff_ne]; omega
 have hL1:((d+1:Nat):Int) - 1=(d:Int):=by omega
 rw [e,j6]
 simp only [zD,jp,Q6,Ur,wQ,ZX,w0,w1,ZE,bOk,eqI,hL,Bool.false_eq_true,if_false,jA]
 cases t with
 | tup xs=>
  cases xs with
  | nil=>rfl
  | cons h r=>
   have hs:=Ja ht
   have hm:∀ u∈r,sOk u:=fun u hu=>jS hs (List.mem_cons_of_mem _ hu)
   have z0:(((h :: r).length:Int) == 0)=false:=by rw [beq_eq_false_iff_ne]; simp only [List.length_cons]; omega
   have ti:Jk "tuple" (.tup (h :: r))= .ok (.bl true):=rfl
   simp only [ti,bOk,jw,Bool.not_true,Bool.false_eq_true,if_false,JC,eqI,z0,ZK,nxS,zn,v0,v1,ZE,at0,eqS,Zd,jK,JB,wd,jB,jA,w0,GS,JT,Jm,xY,Wr,hL1]
   show _=R.ok (T.bl (if isS "whole" h=true then WQ r else if isS "pick" h=true then yO r else if isS "row" h=true then xX k r else if isS "many" h=true then yP k r else false))
   have l3:(((h :: r).length:Int) == 3)=decide ((h :: r).length=3):=uz (h :: r) 3
   have l2:(((h :: r).length:Int) == 2)=decide ((h :: r).length=2):=uz (h :: r) 2
   have l4:(((h :: r).length:Int) == 4)=decide ((h :: r).length=4):=uz (h :: r) 4
   simp only [l2,l3,l4,ZD]
   cases isS "whole" h with
   | true=>
    simp only [if_true]
    match r,hm with
    | [],_=>rfl
    | [_],_=>rfl
    | _ :: _ :: _ :: _,_=>simp [WQ,ZK,zp]
    | [a,b],_=>
     simp only [at1,at2,bOk,vI]
     rfl
   | false=>
    simp only [Bool.false_eq_true,if_false,v0,v1,w0,bOk,at0,ZK,jK,JB,JC,eqI,l2,l4,ZD,Wr,hL1]
    cases isS "pick" h with
    | true=>
     simp only [if_true]
     match r,hm with
     | [],_=>rfl
     | _ :: _ :: _,_=>simp [yO,ZK,zp]
     | [c],hm=>
      simp only [at1,bOk,Q7 c (hm c (by simp))]
      rfl
    | false=>
     simp only [Bool.false_eq_true,if_false,v0,v1,w0,bOk,at0,ZK,jK,JB,JC,eqI,l2,l4,ZD,Wr,hL1]
     cases isS "row" h with
     | true=>
      simp only [if_true]
      match r,hm with
      | [],_=>rfl
      | _ :: _ :: _,_=>simp [xX,ZK,zp]
      | [c],hm=>
       simp only [at1,bOk,H1 c (hm c (by simp))]
       rfl
     | false=>
      simp only [Bool.false_eq_true,if_false,v0,v1,w0,bOk,at0,ZK,jK,JB,JC,eqI,l2,l4,ZD,Wr,hL1]
      cases isS "many" h with
      | true=>
       simp only [if_true]
       match r,hm with
       | [],_=>rfl
       | [_],_=>rfl
       | [_,_],_=>rfl
       | _ :: _ :: _ :: _ :: _,_=>simp [yP,ZK,zp]
       | [c,a,b],hm=>
        simp only [at1,at2,at3,bOk,vI,H0 c (hm c (by simp)),ZD]
        show zp (match (if wq 0 3 a b=true then R.ok (T.bl (k c)) else .ok (.bl false)).s (fun t=>RS.rt t) with | .nx _=>RS.rt (T.bl false) | r=>r)=R.ok (T.bl (wq 0 3 a b && k c))
        cases wq 0 3 a b <;> rfl
      | false=>rfl
 | _=>rfl
theorem gr {n:Nat} {d:Nat} {k:T->Bool} (H0:∀ t,sOk t->zi n 0 [t, .int d]= .ok (.bl (k t))) (t:T) (ht:sOk t):zi (n+1) 1 [t, .int d]= .ok (.bl (uy k t)):=by
 have e:zi (n+1) 1 [t, .int d]=zp (ZF zr (zi n 0) [.vl t, .vl (.int d)]):=rfl
 rw [e,ZF]
 simp only [Zd,J9,jK,JB,wd,ZW,v0,ZE,bOk]
 rw [show zr [t, .int 1, .int 3]= .ok (.bl (Q5 1 3 t)) from J8 t 1 3,ZD]
 cases t with
 | tup ks=>
  show (if (decide (1<=ks.length) && decide (ks.length<=3))=true then _ else _)=R.ok (T.bl (decide (1<=ks.length) && decide (ks.length<=3) && ks.all k))
  cases h13:(decide (1<=ks.length) && decide (ks.length<=3)) with
  | false=>rfl
  | true=>
   rw [Bool.and_eq_true,decide_eq_true_eq,decide_eq_true_eq] at h13
   have hb:ks.length<=bnd:=Nat.le_trans h13.2 (by decide)
   have ec:zT (zG 0) j4 (zd 2 (zi n 0) (z9 (vE 0) (z9 (vE 1) zh))) 1 [1] [.vl (.tup ks), .vl (.int d)] ks= .ok (ks.map fun c=>T.bl (k c)):=
    jo (h:=fun c=>T.bl (k c)) ks hb fun c hc=>by
     show zd 2 (zi n 0) (z9 (vE 0) (z9 (vE 1) zh)) [.vl c, .vl (.int d)]=_
     rw [Jm,v0,v1,bOk,bOk]
     exact H0 c (jS (Ja ht) hc)
   simp only [if_true,jA,Zg,JU,v0,bOk,ur,ec]
   show (match yC (ks.map fun c=>T.bl (k c)) with | some k=>R.ok (T.bl k) | none=> .bad)=_
   rw [ud]
   rfl
 | _=>rfl
theorem YG:∀ (d n:Nat),2*d+1<=n->∀ t,sOk t->zi n 0 [t, .int d]= .ok (.bl (isK d t))
 | 0,n+1,_,t,_=>rfl
 | d+1,n+2,h,t,ht=>kx (n:=n+1) (fun u hu=>YG d (n+1) (by omega) u hu) (fun u hu=>gr (fun v hv=>YG d n (by omega) v hv) u hu) t ht
theorem Q8 (t:T) (ht:sOk t):JS [t]= .ok (.bl (isK 3 t)):=by
 have e:JS [t]=zp (Wq (jM 20) [.vl t]):=rfl
 rw [e,Wq]
 simp only [Zd,J9,jK,JB,Jm,v0,ZE,bOk]
 exact YG 3 20 (by omega) t ht
end G
namespace G
open PySem L2 PV
noncomputable def inR (lo hi:Int):T->Bool
 | .int i=>decide (lo<=i) && decide (i<=hi)
 | _=>false
theorem Jr (t:T) (lo hi:Int):zW [t, .int lo, .int hi]= .ok (.bl (inR lo hi t)):=by
 cases t with
 | int i=>
  show zp ((if decide (lo<=i)=true then R.ok (T.bl (decide (i<=hi))) else .ok (.bl false)).s fun t=> .rt t)=R.ok (T.bl (decide (lo<=i) && decide (i<=hi)))
  cases decide (lo<=i) <;> rfl
 | _=>rfl
theorem vL (xs:List T):eqC (.lst xs) (.lst [])= .ok xs.isEmpty:=by cases xs <;> rfl
theorem xf (c:Nat) (ρ:En):Wg (chT leC leC (cE (.str "a")) (vB 0) (cE (.str "z"))) ((Sl.vl (.str ⟨#[c]⟩)) :: ρ)= .ok (!Zm c):=by
 have e1:leC (.str "a") (.str ⟨#[c]⟩)= .ok (decide (97<=c)):=by
  show R.ok (!decide ([c] < [97]))=_
  rw [qz]
  by_cases h:c < 97
  ·rw [decide_eq_true h,decide_eq_false (by omega)]; rfl
  ·rw [decide_eq_false h,decide_eq_true (by omega)]; rfl
 have e2:leC (.str ⟨#[c]⟩) (.str "z")= .ok (decide (c<=122)):=by
  show R.ok (!decide ([122] < [c]))=_
  rw [qz]
  by_cases h:122 < c
  ·rw [decide_eq_true h,decide_eq_false (by omega)]; rfl
  ·rw [decide_eq_false h,decide_eq_true (by omega)]; rfl
 show ((leC (.str "a") (.str ⟨#[c]⟩)).bind (fun k=>if k=true then leC (.str ⟨#[c]⟩) (.str "z") else R.ok false)).bind (fun x=>R.ok (!x))=_
 rw [e1,e2]
 unfold Zm
 show (if decide (97<=c)=true then R.ok (decide (c<=122)) else R.ok false).bind (fun x=>R.ok (!x))=_
 cases decide (97<=c) <;> rfl
theorem wt {α:Type} (p:α->Bool):∀ xs:List α,(xs.filter fun x=> !p x).isEmpty=xs.all p
 | []=>rfl
 | x :: xs=>by
  have ih:=wt p xs
  rw [List.all_cons]
  cases hp:p x with
  | true=>rw [List.filter_cons_of_neg (by simp [hp]),ih]; rfl
  | false=>rw [List.filter_cons_of_pos (by simp [hp])]; rfl
noncomputable def ky:T->Bool
 | .str y=> !Zm (y.cps.toList.headD 0)
 | _=>false
theorem YH (t:T) (ht:kv t):zJ [t]= .ok (.bl (Zy t)):=by
 cases t with
 | str x=>
  have hx:x.length<=bnd:=ht
  have e0:ZI (.str x)= .ok (.int x.length):=if_pos hx
  have hs:(J4 x).length<=bnd:=by unfold J4; rw [List.length_map,Array.length_toList]; exact hx
  have ec:zT (zG 0) (Wg (chT leC leC (cE (.str "a")) (vB 0) (cE (.str "z")))) (vE 0) 1 [] [.vl (.str x)] (J4 x)= .ok (((J4 x).filter ky).map id):=by
   unfold zT
   rw [if_pos hs]
   have:=Zp (ft:=Wg (chT leC leC (cE (.str "a")) (vB 0) (cE (.str "z")))) (fe:=vE 0) (p:=ky) (h:=id) (J4 x) (Uo 1 [] [.vl (.str x)]) fun t ht=>by
    unfold J4 at ht
    obtain ⟨c,_,rfl⟩:=List.mem_map.mp ht
    exact ⟨xf c [],fun _=>rfl⟩
   rw [this]
   rfl
  have em:(((J4 x).filter ky).map id).isEmpty=x.cps.toList.all Zm:=by
   rw [List.map_id]
   unfold J4
   rw [List.filter_map,List.isEmpty_map]
   exact wt Zm x.cps.toList
  have e:zJ [.str x]=zp (jE [.vl (.str x)]):=rfl
  rw [e,jE]
  simp only [Zd,J9,jK,JB,wd,jA,w0,v0,bOk,xb,ZE,e0,YF,jB,Zg,JU,ur,ec]
  have c1:decide ((1:Int)<=(x.length:Int))=decide (1<=x.length):=by
   by_cases h:1<=x.length
   ·rw [decide_eq_true h]; exact decide_eq_true (by omega)
   ·rw [decide_eq_false h]; exact decide_eq_false (by omega)
  have c2:decide ((x.length:Int)<=(3:Int))=decide (x.length<=3):=by
   by_cases h:x.length<=3
   ·rw [decide_eq_true h]; exact decide_eq_true (by omega)
   ·rw [decide_eq_false h]; exact decide_eq_false (by omega)
  rw [c1,c2]
  have el:Jo zh [Sl.vl (T.str x)]= .ok (.lst []):=rfl
  rw [el]
  simp only [bOk,vL,em]
  show K1 (R.ok (T.bl true)) (K1 (if decide (1<=x.length)=true then R.ok (T.bl (decide (x.length<=3))) else R.ok (T.bl false)) (R.ok (T.bl (x.cps.toList.all Zm))))=R.ok (T.bl (decide (1<=x.length) && decide (x.length<=3) && x.cps.toList.all Zm))
  cases decide (1<=x.length) <;> cases decide (x.length<=3) <;> rfl
 | _=>rfl
theorem yQ:∀ (ws acc:List Str),(dd acc ws).length<=acc.length+ws.length
 | [],acc=>Nat.le_refl _
 | w :: ws,acc=>by
  unfold dd
  have:=yQ ws (if w∈acc then acc else acc++[w])
  by_cases h:w∈acc
  ·rw [if_pos h] at this ⊢; simp only [List.length_cons]; omega
  ·rw [if_neg h] at this ⊢; rw [List.length_append,List.length_singleton] at this; simp only [List.length_cons]; omega
theorem uA:∀ (ws acc:List Str),((dd acc ws).length=acc.length+ws.length)↔∀ (k:Nat) (w:Str),ws[k]? =some w->w ∉ acc++ws.take k
 | [],acc=>by simp [dd]
 | w :: ws,acc=>by
  unfold dd
  by_cases h:w∈acc
  ·rw [if_pos h]
   have:=yQ ws acc
   constructor
   ·intro e; simp only [List.length_cons] at e; omega
   ·intro H; exact absurd (List.mem_append_left _ h) (H 0 w rfl)
  ·rw [if_neg h]
   have ih:=uA ws (acc++[w])
   rw [List.length_append,List.length_singleton] at ih
   rw [show acc.length+(w :: ws).length=acc.length+1+ws.length by simp only [List.length_cons]; omega,ih]
   constructor
   ·intro H k v e
    cases k with
    | zero=>simp at e; subst e; simpa using h
    | succ k=>
     have:=H k v (by simpa using e)
     simpa [List.append_assoc] using this
   ·intro H k v e
    have:=H (k+1) v (by simpa using e)
    simpa [List.append_assoc] using this
end G
namespace G
open PySem L2 PV
theorem cut1 {h:T} {r:List T}:slT (.tup (h :: r)) (some 1) none= .ok (.tup r):=by
 show R.ok (T.tup (cut (h :: r) (some 1) none))=_
 have:cut (h :: r) (some 1) none=r:=by
  unfold cut
  rw [show HT.sIx (h :: r).length 0 (some (1:Int))=1 from by rw [show (1:Int)=((1:Nat):Int) from rfl,HT.sIx_nat]; simp only [List.length_cons]; omega,HT.sIx_none]
  simp
 rw [this]
theorem neS (h:T) (w:Str):neC h (.str w)= .ok (!isS w h):=by cases h <;> rfl
theorem neI (i j:Int):neC (.int i) (.int j)= .ok (!(i == j)):=rfl
theorem ltI (i j:Int):ltC (.int i) (.int j)= .ok (decide (i < j)):=rfl
theorem v2 {t:T} {a b:Sl} {ρ:En}:vE 2 (a :: b :: .vl t :: ρ)= .ok t:=rfl
theorem v3 {t:T} {a b c:Sl} {ρ:En}:vE 3 (a :: b :: c :: .vl t :: ρ)= .ok t:=rfl
theorem w2 {t:T} {a b:Sl} {ρ:En}:vB 2 (a :: b :: .vl t :: ρ)= .ok t:=rfl
theorem w3 {t:T} {a b c:Sl} {ρ:En}:vB 3 (a :: b :: c :: .vl t :: ρ)= .ok t:=rfl
theorem w5 {t:T} {a b c d e:Sl} {ρ:En}:vB 5 (a :: b :: c :: d :: e :: .vl t :: ρ)= .ok t:=rfl
theorem v4 {t:T} {a b c d:Sl} {ρ:En}:vE 4 (a :: b :: c :: d :: .vl t :: ρ)= .ok t:=rfl
theorem vM (f g:En->R Bool) (ρ:En):U5 f g ρ=(f ρ).bind fun x=>if x=true then g ρ else .ok false:=rfl
theorem xZ {g g' :T->T->R Bool} {fa fb fc:En->R T} {ρ:En}:chT g g' fa fb fc ρ=(fa ρ).bind fun x=>(fb ρ).bind fun y=>(g x y).bind fun k=>if k=true then (fc ρ).bind fun z=>g' y z else .ok false:=rfl
theorem WF (t:T):Jk "tuple" t= .ok (.bl (match t with | .tup _=>true | _=>false)):=by cases t <;> rfl
theorem kz {n d:Nat} {k:T->Bool} (H0:∀ t,sOk t->zt n 0 [t, .int d]= .ok (.bl (k t))) {ks:List T} (hk:∀ u∈ks,sOk u) (hl:ks.length<=3) {x y z:Sl} {L:Int} (hL:L - 1=(d:Int)) {ρ:En}:
  zT (zG 0) (Wg (jg (zd 2 (zt n 0) (z9 (vE 0) (z9 (zf yi (vE 1) (cE (.int 1))) zh))))) (vE 0) 1 [1] (x :: .vl (.int L) :: ρ) ks= .ok (ks.filter fun c=> !k c):=by
 unfold zT
 rw [if_pos (Nat.le_trans hl (by decide))]
 have:=Zp (ft:=Wg (jg (zd 2 (zt n 0) (z9 (vE 0) (z9 (zf yi (vE 1) (cE (.int 1))) zh))))) (fe:=vE 0) (p:=fun c=> !k c) (h:=id) ks (Uo 1 [1] (x :: .vl (.int L) :: ρ)) fun c hc=>by
  refine ⟨?_,fun _=>rfl⟩
  show Wg (jg (zd 2 (zt n 0) (z9 (vE 0) (z9 (zf yi (vE 1) (cE (.int 1))) zh)))) [.vl c, .vl (.int L)]=_
  simp only [Ur,wQ,Jm,v0,v1,bOk,zn,ZE,Wr,hL,H0 c (hk c hc),jw]
 rw [this,List.map_id]
 rfl
noncomputable def Yq:T->Bool
 | .tup [_,_]=>true
 | _=>false
noncomputable def YI:T->T
 | .tup (w :: _)=>w
 | t=>t
theorem GT {cs:List T} (hl:cs.length<=4) {ρ:En}:zT (zG 0) (U5 (jg (ap1 (Jk "tuple") (vB 0))) (Zl eqC (ap1 ZI (vB 0)) (cE (.int 2)))) (vE 0) 1 [] ρ cs= .ok (cs.filter Yq):=by
 unfold zT
 rw [if_pos (Nat.le_trans hl (by decide))]
 have:=Zp (ft:=U5 (jg (ap1 (Jk "tuple") (vB 0))) (Zl eqC (ap1 ZI (vB 0)) (cE (.int 2)))) (fe:=vE 0) (p:=Yq) (h:=id) cs (Uo 1 [] ρ) fun c _=>by
  refine ⟨?_,fun _=>rfl⟩
  show U5 (jg (ap1 (Jk "tuple") (vB 0))) (Zl eqC (ap1 ZI (vB 0)) (cE (.int 2))) [.vl c]=_
  cases c with
  | tup xs=>
   match xs with
   | []=>rfl
   | [_]=>rfl
   | [_,_]=>rfl
   | _ :: _ :: _ :: xs=>
    simp only [vM,wQ,jA,w0,bOk,WF,jw,if_true,ZX,JC,ZE,eqI,Yq]
    congr 1
    all_goals (rw [beq_eq_false_iff_ne]; simp only [List.length_cons]; omega)
  | _=>rfl
 rw [this,List.map_id]
 rfl
theorem Ut (c:T):zo c=(Yq c && (match c with | .tup [w,n]=>Zy w && inR 1 20 n | _=>false)):=by
 cases c with
 | tup xs=>
  match xs with
  | []=>rfl
  | [_]=>rfl
  | _ :: _ :: _ :: _=>simp [zo,Yq]
  | [w,n]=>
   cases n with
   | int i=>
    show (Zy w && decide (1<=i) && decide (i<=20))=(true && (Zy w && (decide (1<=i) && decide (i<=20))))
    rw [Bool.true_and,Bool.and_assoc]
   | _=>
    show false=(true && (Zy w && false))
    cases Zy w <;> rfl
 | _=>rfl
theorem GU {cs:List T} (hs:∀ c∈cs,sOk c) (hl:cs.length<=4) {ρ:En}:
  zT (zG 0) (U5 (jg (zd 1 zJ (z9 (zf ixT (vE 0) (cE (.int 0))) zh))) (jg (zd 3 zW (z9 (zf ixT (vE 0) (cE (.int 1))) (z9 (cE (.int 1)) (z9 (cE (.int 20)) zh)))))) (zf ixT (vE 0) (cE (.int 0))) 1 [] ρ (cs.filter Yq)= .ok ((cs.filter zo).map YI):=by
 unfold zT
 have hl' :(cs.filter Yq).length<=bnd:=Nat.le_trans (List.length_filter_le _ _) (Nat.le_trans hl (by decide))
 rw [if_pos hl']
 have:=Zp (ft:=U5 (jg (zd 1 zJ (z9 (zf ixT (vE 0) (cE (.int 0))) zh))) (jg (zd 3 zW (z9 (zf ixT (vE 0) (cE (.int 1))) (z9 (cE (.int 1)) (z9 (cE (.int 20)) zh)))))) (fe:=zf ixT (vE 0) (cE (.int 0))) (p:=zo) (h:=YI) (cs.filter Yq) (Uo 1 [] ρ) fun c hc=>by
  obtain ⟨hc1,hc2⟩:=List.mem_filter.mp hc
  have hso:=hs c hc1
  unfold Yq at hc2
  split at hc2
  ·rename_i w n
   have hw:sOk w:=jS (Ja hso) (by simp)
   refine ⟨?_,fun _=> ?_⟩
   ·show U5 (jg (zd 1 zJ (z9 (zf ixT (vE 0) (cE (.int 0))) zh))) (jg (zd 3 zW (z9 (zf ixT (vE 0) (cE (.int 1))) (z9 (cE (.int 1)) (z9 (cE (.int 20)) zh))))) [.vl (.tup [w,n])]=_
    simp only [vM,wQ,JT,ZW,zn,v0,ZE,bOk,at0,at1,YH w hw.str,Jr,jw,Ut]
    show (if Zy w=true then R.ok (inR 1 20 n) else R.ok false)=R.ok (true && (Zy w && inR 1 20 n))
    cases Zy w <;> rfl
   ·show zf ixT (vE 0) (cE (.int 0)) [.vl (.tup [w,n])]=_
    simp only [zn,v0,ZE,bOk,at0]
    rfl
  ·cases hc2
 rw [this,List.filter_filter]
 have:(cs.filter fun a=>zo a && Yq a)=cs.filter zo:=by
  refine List.filter_congr fun c _=> ?_
  rw [Ut]
  cases Yq c <;> simp
 rw [this]
 rfl
end G
namespace G
open PySem L2 PV
theorem UQ (w:Str):∀ ws:List Str,qr (fun y=>eqF 30 y (.str w)) (ws.map T.str)=some (decide (w∈ws))
 | []=>rfl
 | x :: ws=>by
  have ih:=UQ w ws
  show (match qr (fun y=>eqF 30 y (.str w)) (ws.map T.str) with | none=>none | some c=>some ((x == w) || c))=_
  rw [ih]
  show some ((x == w) || decide (w∈ws))=_
  congr 1
  by_cases h:x=w
  ·subst h; simp
  ·have h' :¬ w=x:=fun z=>h z.symm
   simp [h,h']
theorem xg {xs:List T} {k:Nat}:slT (.lst xs) none (some (k:Int))= .ok (.lst (xs.take k)):=by
 show R.ok (T.lst (cut xs none (some (k:Int))))=_
 have:cut xs none (some (k:Int))=xs.take k:=by
  unfold cut
  rw [HT.sIx_none,HT.sIx_nat]
  simp only [List.drop_zero,Nat.sub_zero]
  rw [List.take_eq_take_iff]
  omega
 rw [this]
theorem gs {xs:List T} {k:Nat} {t:T} (h:xs[k]? =some t):ixT (.lst xs) (.int k)= .ok t:=by
 show atT xs k=_
 unfold atT
 rw [Jv h]
theorem GV {ws:List Str} (hl:ws.length<=4) {a b c d e:Sl}:∃ r,zT (zG 0) (Zl inC (zf ixT (vE 1) (vE 0)) (slE (vE 1) noO (jv (vE 0)))) (vE 0) 1 [5] [a,b,c,d,e, .vl (.lst (ws.map T.str))] (rng 0 ws.length)= .ok r/\
  (r.isEmpty=true↔∀ (k:Nat) (w:Str),ws[k]? =some w->w ∉ ws.take k):=by
 have hl' :(rng 0 ws.length).length<=bnd:=by unfold rng; rw [List.length_map,List.length_range]; exact Nat.le_trans hl (by decide)
 let p:T->Bool:=fun t=>match t with
  | .int i=>match ws[i.toNat]? with | some w=>decide (w∈ws.take i.toNat) | none=>false
  | _=>false
 have key:=Zp (ft:=Zl inC (zf ixT (vE 1) (vE 0)) (slE (vE 1) noO (jv (vE 0)))) (fe:=vE 0) (p:=p) (h:=id) (rng 0 ws.length) (Uo 1 [5] [a,b,c,d,e, .vl (.lst (ws.map T.str))]) fun t ht=>by
  unfold rng at ht
  obtain ⟨k,hk,rfl⟩:=List.mem_map.mp ht
  have hk' :k < ws.length:=List.mem_range.mp hk
  refine ⟨?_,fun _=>rfl⟩
  show Zl inC (zf ixT (vE 1) (vE 0)) (slE (vE 1) noO (jv (vE 0))) [.vl (.int (0+(k:Int))), .vl (.lst (ws.map T.str))]=_
  rw [show (0:Int)+(k:Int)=(k:Int) by omega]
  have e1:ixT (.lst (ws.map T.str)) (.int k)= .ok (.str ws[k]):=gs (by rw [List.getElem?_map,List.getElem?_eq_getElem hk']; rfl)
  have e2:slE (vE 1) noO (jv (vE 0)) [.vl (.int (k:Int)), .vl (.lst (ws.map T.str))]=slT (.lst (ws.map T.str)) none (some (k:Int)):=rfl
  simp only [ZX,zn,v1,v0,bOk,e1,e2,xg]
  show inC (.str ws[k]) (.lst ((ws.map T.str).take k))=R.ok (p (.int (k:Int)))
  have e3:inC (.str ws[k]) (.lst ((ws.map T.str).take k))= .ok (decide (ws[k]∈ws.take k)):=by
   show (match qr (fun y=>eqF 30 y (.str ws[k])) ((ws.map T.str).take k) with | some b=>R.ok b | none=> .bad)=_
   rw [← List.map_take,UQ]
  rw [e3]
  show _=R.ok (match ws[((k:Int)).toNat]? with | some w=>decide (w∈ws.take ((k:Int)).toNat) | none=>false)
  rw [Int.toNat_natCast,List.getElem?_eq_getElem hk']
 refine ⟨((rng 0 ws.length).filter p).map id, ?_, ?_⟩
 ·unfold zT
  rw [if_pos hl',key]
  rfl
 ·rw [List.map_id,List.isEmpty_iff,List.filter_eq_nil_iff]
  constructor
  ·intro H k w e
   have hk:k < ws.length:=(List.getElem?_eq_some_iff.mp e).1
   have:=H (.int (0+(k:Int))) (List.mem_map.mpr ⟨k,List.mem_range.mpr hk,rfl⟩)
   rw [show (0:Int)+(k:Int)=(k:Int) by omega] at this
   have q:p (.int (k:Int))=decide (w∈ws.take k):=by
    show (match ws[((k:Int)).toNat]? with | some w=>decide (w∈ws.take ((k:Int)).toNat) | none=>false)=_
    rw [Int.toNat_natCast,e]
   rw [q] at this
   simpa using this
  ·intro H t ht
   unfold rng at ht
   obtain ⟨k,hk,rfl⟩:=List.mem_map.mp ht
   have hk' :k < ws.length:=List.mem_range.mp hk
   rw [show (0:Int)+(k:Int)=(k:Int) by omega]
   have q:p (.int (k:Int))=decide (ws[k]∈ws.take k):=by
    show (match ws[((k:Int)).toNat]? with | some w=>decide (w∈ws.take ((k:Int)).toNat) | none=>false)=_
    rw [Int.toNat_natCast,List.getElem?_eq_getElem hk']
   rw [q]
   simpa using H k ws[k] (List.getElem?_eq_getElem hk')
theorem GW {cs:List T} (h:cs.all zo=true):(cs.filter zo).map YI=(cs.map Z4).map T.str:=by
 rw [List.filter_eq_self.mpr (fun c hc=>List.all_eq_true.mp h c hc),List.map_map]
 refine List.map_congr_left fun c hc=> ?_
 obtain ⟨w,n,rfl⟩:=WP (List.all_eq_true.mp h c hc)
 rfl
theorem wX {α:Type} (p:α->Bool):∀ xs:List α,((xs.filter p).length=xs.length)↔xs.all p=true
 | []=>by simp
 | x :: xs=>by
  have ih:=wX p xs
  have hl:=List.length_filter_le p xs
  cases hp:p x with
  | true=>rw [List.filter_cons_of_pos hp,List.all_cons,hp,Bool.true_and,← ih]; simp
  | false=>
   rw [List.filter_cons_of_neg (by rw [hp]; exact Bool.false_ne_true),List.all_cons,hp,Bool.false_and]
   simp only [List.length_cons]
   constructor
   ·intro z; omega
   ·intro z; cases z
end G
namespace G
open PySem L2 PV
theorem yR (lo hi:Int) (a b:T):(if inR lo hi a=true then zW [b,a, .int hi] else R.ok (.bl false))= .ok (.bl (wq lo hi a b)):=by
 cases a with
 | int i=>
  rw [Jr]
  show (if (decide (lo<=i) && decide (i<=hi))=true then R.ok (T.bl (inR i hi b)) else R.ok (T.bl false))=_
  cases b with
  | int j=>
   show (if (decide (lo<=i) && decide (i<=hi))=true then R.ok (T.bl (decide (i<=j) && decide (j<=hi))) else R.ok (T.bl false))=R.ok (T.bl (decide (lo<=i) && decide (i<=j) && decide (j<=hi)))
   by_cases h1:lo<=i
   ·by_cases h2:i<=hi
    ·rw [decide_eq_true h1,decide_eq_true h2]; rfl
    ·rw [decide_eq_true h1,decide_eq_false h2]
     show R.ok (T.bl false)=R.ok (T.bl (decide (i<=j) && decide (j<=hi)))
     by_cases h3:i<=j
     ·rw [decide_eq_true h3,decide_eq_false (show ¬ j<=hi by omega)]; rfl
     ·rw [decide_eq_false h3]; rfl
   ·rw [decide_eq_false h1]; rfl
  | _=>
   show (if (decide (lo<=i) && decide (i<=hi))=true then R.ok (T.bl false) else R.ok (T.bl false))=R.ok (T.bl false)
   cases (decide (lo<=i) && decide (i<=hi)) <;> rfl
 | _=>cases b <;> rfl
theorem kA {xs:List T} (h:xs.length<=4) {a b c d e:Sl}:jH (ap1 ZI (vB 5)) [a,b,c,d,e, .vl (.lst xs)]= .ok (rng 0 xs.length):=by
 have e1:jH (ap1 ZI (vB 5)) [a,b,c,d,e, .vl (.lst xs)]=(R.ok (T.int (xs.length:Int))).bind fun t=>match t with | .int j=>if -1000000 < j/\j < 1000000 then .ok (rng 0 j.toNat) else .bad | _=> .bad:=rfl
 rw [e1,bOk]
 dsimp only
 rw [if_pos ⟨by omega,by omega⟩,Int.toNat_natCast]
theorem UR {c:T} (hc:sOk c) {a b d e f:Sl}:
  zp (match (((Jk "tuple" c).bind tru).bind fun x=>R.ok (!x)).bind (fun x=>if x=true then R.ok true else ((ZI c).bind fun y=>(leC (.int 1) y).bind fun k=>if k=true then leC y (.int 4) else R.ok false).bind fun x=>R.ok (!x)) with
   | .ok k=>if k=true then RS.rt (T.bl false) else (Zc (wo (wg eqC (ap1 ZI (vB 5)) (ap1 ZI (zf ixT (vE 3) (cE (.int 0))))) (wg eqC (Zf (jH (ap1 ZI (vB 5))) (zG 0) (Zl inC (zf ixT (vE 1) (vE 0)) (slE (vE 1) (noO) (jv (vE 0)))) (vE 0) 1 [5]) (Jo (zh)))) [a,b,d, .vl (.tup [c]),f, .vl (.lst (match c with | .tup cs=>(cs.filter zo).map YI | _=>[]))])
   | .ex c=> .ex c
   | .bad=> .bad)= .ok (.bl (yN c)):=by
 cases c with
 | tup cs=>
  have e1:(leC (.int 1) (.int (cs.length:Int))).bind (fun k=>if k=true then leC (.int (cs.length:Int)) (.int 4) else R.ok false)= .ok (decide (1<=cs.length) && decide (cs.length<=4)):=by
   show (if decide ((1:Int)<=(cs.length:Int))=true then R.ok (decide ((cs.length:Int)<=4)) else R.ok false)=_
   by_cases h:1<=cs.length
   ·rw [decide_eq_true h,decide_eq_true (show (1:Int)<=(cs.length:Int) by omega)]
    show R.ok (decide ((cs.length:Int)<=4))=R.ok (decide (cs.length<=4))
    by_cases h4:cs.length<=4
    ·rw [decide_eq_true h4,decide_eq_true (show (cs.length:Int)<=4 by omega)]
    ·rw [decide_eq_false h4,decide_eq_false (show ¬ (cs.length:Int)<=4 by omega)]
   ·rw [decide_eq_false h,decide_eq_false (show ¬ (1:Int)<=(cs.length:Int) by omega)]; rfl
  simp only [WF,bOk,jw,Bool.not_true,Bool.false_eq_true,if_false,JC,e1]
  show _=R.ok (T.bl (decide (1<=cs.length) && decide (cs.length<=4) && cs.all zo && decide ((dd [] (cs.map Z4)).length=cs.length)))
  cases h14:(decide (1<=cs.length) && decide (cs.length<=4)) with
  | false=>rfl
  | true=>
   rw [Bool.and_eq_true,decide_eq_true_eq,decide_eq_true_eq] at h14
   simp only [Bool.not_true,Bool.false_eq_true,if_false,Zd,J9,jK,wd,jB,jA]
   have ef:frz [a,b,d, .vl (.tup [.tup cs]),f, .vl (.lst ((cs.filter zo).map YI))]=[Wv a,Wv b,Wv d, .vl (.tup [.tup cs]),Wv f, .vl (.lst ((cs.filter zo).map YI))]:=rfl
   rw [ef]
   simp only [w5,zn,v3,ZE,bOk,at0,vJ,JC,eqI,List.length_map,Zg]
   rw [uz,ZD]
   by_cases hall:cs.all zo=true
   ·rw [decide_eq_true ((wX zo cs).mpr hall),if_pos rfl,hall]
    have hw:(cs.map Z4).length<=4:=by rw [List.length_map]; exact h14.2
    obtain ⟨r,er,hr⟩:=GV hw (a:=Wv a) (b:=Wv b) (c:=Wv d) (d:= .vl (.tup [.tup cs])) (e:=Wv f)
    rw [GW hall]
    have ei:jH (ap1 ZI (vB 5)) [Wv a,Wv b,Wv d, .vl (.tup [.tup cs]),Wv f, .vl (.lst ((cs.map Z4).map T.str))]= .ok (rng 0 (cs.map Z4).length):=by
     rw [kA (by rw [List.length_map]; exact hw),List.length_map]
    rw [ei]
    simp only [bOk,er]
    have el:Jo zh [Wv a,Wv b,Wv d, .vl (.tup [.tup cs]),Wv f, .vl (.lst ((cs.map Z4).map T.str))]= .ok (.lst []):=rfl
    rw [el]
    rw [bOk,vL,bOk]
    rw [Bool.true_and,Bool.true_and]
    refine congrArg (fun z=>R.ok (T.bl z)) ?_
    have hdd:=uA (cs.map Z4) []
    rw [List.length_nil,Nat.zero_add,List.length_map] at hdd
    simp only [List.nil_append] at hdd
    by_cases hq:(dd [] (cs.map Z4)).length=cs.length
    ·rw [decide_eq_true hq]
     exact hr.mpr (hdd.mp hq)
    ·rw [decide_eq_false hq]
     cases hre:r.isEmpty with
     | false=>rfl
     | true=>exact absurd (hdd.mpr (hr.mp hre)) hq
   ·have hn:¬ (cs.filter zo).length=cs.length:=fun z=>hall ((wX zo cs).mp z)
    rw [decide_eq_false hn,if_neg Bool.false_ne_true]
    have:cs.all zo=false:=by simpa using hall
    rw [this]
    rfl
 | _=>rfl
end G
namespace G
open PySem L2 PV
theorem gu {i j:Nat} {f f' :En->R T} {ρ:En}:G6 i j (z9 f (z9 f' zh)) ρ=(f ρ).s fun x=>(f' ρ).s fun y=> .nx ((ρ.set i (.vl x)).set j (.vl y)):=by
 unfold G6 z9 zh
 cases f ρ with
 | ok a=>cases f' ρ <;> rfl
 | ex c=>rfl
 | bad=>rfl
theorem US {f:En->R T} {l h:En->R (Option Int)} {ρ:En}:slE f l h ρ=(f ρ).bind fun t=>(l ρ).bind fun lo=>(h ρ).bind fun hi=>slT t lo hi:=rfl
theorem X0 {i:Int} {ρ:En}:jv (cE (.int i)) ρ= .ok (some i):=rfl
theorem X1 {ρ:En}:noO ρ= .ok none:=rfl
theorem vN (t:T):Jk "str" t= .ok (.bl (match t with | .str _=>true | _=>false)):=by cases t <;> rfl
theorem btw {n m:Nat} {M:Int} (hM:M=(m:Int)):(if decide ((1:Int)<=(n:Int))=true then R.ok (decide ((n:Int)<=M)) else R.ok false)=R.ok (decide (1<=n) && decide (n<=m)):=by
 subst hM
 by_cases h:1<=n
 ·rw [decide_eq_true h,decide_eq_true (show (1:Int)<=(n:Int) by omega),if_pos rfl,Bool.true_and]
  by_cases h4:n<=m
  ·rw [decide_eq_true h4,decide_eq_true (show (n:Int)<=m by omega)]
  ·rw [decide_eq_false h4,decide_eq_false (show ¬ (n:Int)<=m by omega)]
 ·rw [decide_eq_false h,decide_eq_false (show ¬ (1:Int)<=(n:Int) by omega)]; rfl
set_option maxHeartbeats 1000000 in
theorem xh {n:Nat} {d:Nat} {k:T->Bool} (H0:∀ t,sOk t->zt n 0 [t, .int d]= .ok (.bl (k t))) (t:T) (ht:sOk t):
  zt (n+1) 0 [t, .int ((d+1:Nat):Int)]= .ok (.bl (UP k t)):=by
 have e:zt (n+1) 0 [t, .int ((d+1:Nat):Int)]=zp (ZA zW zJ (zt n 0) [.vl t, .vl (.int ((d+1:Nat):Int)), .un, .un, .un, .un]):=rfl
 have hL:decide (((d+1:Nat):Int) < 1)=false:=decide_eq_false (by omega)
 have hL1:((d+1:Nat):Int) - 1=(d:Int):=by omega
 rw [e,ZA]
 simp only [zD,jp,Q6,Ur,wQ,ZX,w0,w1,v0,ZE,bOk,jA,WF,jw,zn]
 cases t with
 | tup xs=>
  match xs,ht with
  | [],_=>rfl
  | [h],_=>
   have:UP k (.tup [h])=false:=by
    unfold UP
    simp [WQ,yO,xX,yP]
   rw [this]
   rfl
  | h :: a :: r,ht=>
   have hs:=Ja ht
   have hm:∀ u∈a :: r,sOk u:=fun u hu=>jS hs (List.mem_cons_of_mem _ hu)
   have z0:decide (((h :: a :: r).length:Int) < 2)=false:=decide_eq_false (by simp only [List.length_cons]; omega)
   simp only [Bool.not_true,Bool.false_eq_true,if_false,JC,ltI,z0,bOk,at0,vN,jw,hL]
   cases h with
   | str s=>
    simp only [Bool.not_true,Bool.false_eq_true,if_false,ZK,bOk,hL,gu,zn,v0,ZE,at0,US,X0,X1,cut1,nxS]
    have hset:(([Sl.vl (T.tup (T.str s :: a :: r)),Sl.vl (.int ((d+1:Nat):Int)), .un, .un, .un, .un]:En).set 2 (.vl (.str s))).set 3 (.vl (.tup (a :: r)))=[Sl.vl (T.tup (T.str s :: a :: r)),Sl.vl (.int ((d+1:Nat):Int)), .vl (.str s), .vl (.tup (a :: r)), .un, .un]:=rfl
    simp only [hset,w2,ZE,bOk,eqS,neS,ZK]
    have l2:(((a :: r).length:Int) == 2)=decide ((a :: r).length=2):=uz (a :: r) 2
    have l1:(((a :: r).length:Int) == 1)=decide ((a :: r).length=1):=uz (a :: r) 1
    have l3:(((a :: r).length:Int) == 3)=decide ((a :: r).length=3):=uz (a :: r) 3
    show _=R.ok (T.bl (if isS "whole" (.str s)=true then WQ (a :: r) else if isS "pick" (.str s)=true then yO (a :: r) else if isS "row" (.str s)=true then xX k (a :: r) else if isS "many" (.str s)=true then yP k (a :: r) else false))
    cases hw:isS "whole" (.str s) with
    | true=>
     simp only [if_true,Zd,jK,WE,JB,wd,jB,jA,w3,v3,bOk,JC,ZE,eqI,l2,ZD,ZW,zn,xY]
     match r,hm with
     | [],_=>rfl
     | _ :: _ :: _,_=>simp [WQ,ZK,zp]
     | [b],_=>
      simp only [at0,at1,bOk,Jr,ZD]
      rw [yR]
      rfl
    | false=>
     simp only [Bool.false_eq_true,if_false,w2,w3,v3,bOk,ZK,JC,neI,l1]
     cases hp:isS "pick" (.str s) with
     | true=>
      simp only [if_true]
      match r,hm with
      | _ :: _,_=>simp [yO,ZK,zp,ZE]; rfl
      | [],hm=>
       simp only [List.length_cons,List.length_nil,decide_true,Bool.not_true,Bool.false_eq_true,if_false,at0,bOk]
       cases a with
       | tup cs=>
        have hc:sOk (.tup cs):=hm _ (by simp)
        have P:=UR hc (a:= .vl (.tup [.str s, .tup cs])) (b:= .vl (.int ((d+1:Nat):Int))) (d:= .vl (.str s)) (e:= .un) (f:= .vl (.lst (cs.filter Yq)))
        simp only [WF,bOk,jw,Bool.not_true,Bool.false_eq_true,if_false,xZ,jA,zn,v3,ZE,at0,JC,YF,btw (m:=4) (M:=4) rfl] at P ⊢
        cases h14:(decide (1<=cs.length) && decide (cs.length<=4)) with
        | false=>
         rw [h14] at P
         exact P
        | true=>
         rw [h14] at P
         have h4:cs.length<=4:=by
          rw [Bool.and_eq_true,decide_eq_true_eq,decide_eq_true_eq] at h14
          exact h14.2
         simp only [Bool.not_true,Bool.false_eq_true,if_false,ZK] at P ⊢
         have s4:∀ (x0 x1 x2:Sl),Z3 4 (Zf (JK (zf ixT (vE 3) (cE (T.int 0)))) (zG 0) (U5 (jg (ap1 (Jk "tuple") (vB 0))) (Zl eqC (ap1 ZI (vB 0)) (cE (T.int 2)))) (vE 0) 1 []) [x0,x1,x2, .vl (.tup [.tup cs]), .un, .un]= .nx [x0,x1,x2, .vl (.tup [.tup cs]), .vl (.lst (cs.filter Yq)), .un]:=by
          intro x0 x1 x2
          simp only [jL,Zg,JU,zn,v3,ZE,bOk,at0]
          show ((zT (zG 0) _ _ 1 [] _ cs).bind fun vs=>R.ok (T.lst vs)).s _=_
          rw [GT h4]
          rfl
         have s5:∀ (x0 x1 x2:Sl),Z3 5 (Zf (JK (vE 4)) (zG 0) (U5 (jg (zd 1 zJ (z9 (zf ixT (vE 0) (cE (T.int 0))) zh))) (jg (zd 3 zW (z9 (zf ixT (vE 0) (cE (T.int 1))) (z9 (cE (T.int 1)) (z9 (cE (T.int 20)) zh)))))) (zf ixT (vE 0) (cE (T.int 0))) 1 []) [x0,x1,x2, .vl (.tup [.tup cs]), .vl (.lst (cs.filter Yq)), .un]= .nx [x0,x1,x2, .vl (.tup [.tup cs]), .vl (.lst (cs.filter Yq)), .vl (.lst ((cs.filter zo).map YI))]:=by
          intro x0 x1 x2
          simp only [jL,Zg,JU,v4,bOk]
          show ((zT (zG 0) _ _ 1 [] _ (cs.filter Yq)).bind fun vs=>R.ok (T.lst vs)).s _=_
          rw [GU (fun c hc' =>jS (Ja hc) hc') h4]
          rfl
         simp only [s4,s5]
         revert P
         simp only [Zd]
         generalize wo _ _ _=z
         intro P
         cases z with
         | ok t=>exact P
         | ex c=>exact P
         | bad=>exact P
       | _=>rfl
     | false=>
      simp only [Bool.false_eq_true,if_false,w2,w3,v3,bOk,ZK,JC,neI,l1]
      cases hr:isS "row" (.str s) with
      | true=>
       simp only [if_true]
       match r,hm with
       | _ :: _,_=>simp [xX,ZK,zp,ZE]; rfl
       | [],hm=>
        simp only [List.length_cons,List.length_nil,decide_true,Bool.not_true,Bool.false_eq_true,if_false,at0,bOk]
        cases a with
        | tup cs=>
         have hc:sOk (.tup cs):=hm _ (by simp)
         simp only [WF,bOk,jw,Bool.not_true,Bool.false_eq_true,if_false,xZ,jA,zn,v3,ZE,at0,JC,YF,btw (m:=3) (M:=3) rfl]
         show _=R.ok (T.bl (decide (1<=cs.length) && decide (cs.length<=3) && cs.all k))
         cases h14:(decide (1<=cs.length) && decide (cs.length<=3)) with
         | false=>rfl
         | true=>
          have h4:cs.length<=3:=by
           rw [Bool.and_eq_true,decide_eq_true_eq,decide_eq_true_eq] at h14
           exact h14.2
          simp only [Bool.not_true,Bool.false_eq_true,if_false,ZK,Zd,jK,WE,JB,jB,Zg,JU,zn,v3,ZE,bOk,at0,Bool.true_and]
          have ia:ur (.tup cs)= .ok cs:=rfl
          simp only [ia,bOk,kz H0 (fun u hu=>jS (Ja hc) hu) h4 (x:= .vl (.tup [.str s, .tup cs])) (y:= .un) (z:= .un) hL1]
          have el:∀ ρ,Jo zh ρ= .ok (.lst []):=fun _=>rfl
          simp only [el,bOk,vL,wt,ZK,zp]
        | _=>rfl
      | false=>
       simp only [Bool.false_eq_true,if_false,w2,w3,v3,bOk,ZK,JC,neI,l3]
       cases hy:isS "many" (.str s) with
       | true=>
        simp only [Bool.not_true,Bool.false_eq_true,if_false,bOk]
        match r,hm with
        | [],_=>rfl
        | [_],_=>rfl
        | _ :: _ :: _ :: _,_=>simp [yP,ZK,zp,ZE]; rfl
        | [b,c],hm=>
         simp only [ZW,Jm,zn,v3,ZE,bOk,at0,at1,at2,Jr,jw]
         have S:=yR 0 3 b c
         show _=R.ok (T.bl (wq 0 3 b c && k a))
         cases hb:inR 0 3 b with
         | false=>
          rw [hb] at S
          injection S with S
          injection S with S
          rw [← S]
          rfl
         | true=>
          rw [hb,if_pos rfl] at S
          simp only [S,bOk,jw]
          cases wq 0 3 b c with
          | false=>rfl
          | true=>
           have hk:=H0 a (hm a (by simp))
           simp only [Zd,jK,WE,JB,v1,v3,Wr,bOk,at0,hL1,hk,Bool.not_true,Bool.false_eq_true,if_false,ZK,zp,List.length_cons,List.length_nil,decide_true,Bool.true_and,Jm,zn,ZE]
       | false=>rfl
   | _=>rfl
 | _=>rfl
theorem vO {n:Nat} (t:T):zt (n+1) 0 [t, .int 0]= .ok (.bl false):=by
 have e:zt (n+1) 0 [t, .int 0]=zp (ZA zW zJ (zt n 0) [.vl t, .vl (.int 0), .un, .un, .un, .un]):=rfl
 rw [e,ZA]
 simp only [zD,jp,Q6,Ur,wQ,ZX,w0,w1,v0,ZE,bOk,jA,WF,jw,zn]
 cases t with
 | tup xs=>
  match xs with
  | []=>rfl
  | [h]=>rfl
  | h :: a :: r=>
   have z0:decide (((h :: a :: r).length:Int) < 2)=false:=decide_eq_false (by simp only [List.length_cons]; omega)
   have hL:decide ((0:Int) < 1)=true:=rfl
   simp only [Bool.not_true,Bool.false_eq_true,if_false,JC,ltI,z0,bOk,at0,vN,jw,hL]
   cases h <;> rfl
 | _=>rfl
theorem uB:∀ (d n:Nat),d+1<=n->∀ t,sOk t->zt n 0 [t, .int d]= .ok (.bl (isK d t))
 | 0,n+1,_,t,_=>vO t
 | d+1,n+1,h,t,ht=>xh (fun t ht=>uB d n (by omega) t ht) t ht
theorem Ua (t:T) (ht:sOk t):j1 12 [t, .int 3]= .ok (.bl (isK 3 t)):=uB 3 12 (by omega) t ht
end G
namespace G
open PySem L2 PV
theorem gtI (i j:Int):gtC (.int i) (.int j)= .ok (decide (i > j)):=rfl
theorem ZR (i j:Int):zA (.int i) (.int j)= .ok (.int (i+j)):=rfl
theorem gv (p:Int) (h0:0<=p) (h1:p < 26):ixT (.str "abcdefghijklmnopqrstuvwxyz") (.int p)= .ok (.str ⟨#[97+p.toNat]⟩):=by
 have h:p=0\/p=1\/p=2\/p=3\/p=4\/p=5\/p=6\/p=7\/p=8\/p=9\/p=10\/p=11\/p=12\/p=13\/p=14\/p=15\/p=16\/p=17\/p=18\/p=19\/p=20\/p=21\/p=22\/p=23\/p=24\/p=25:=by omega
 rcases h with rfl|rfl|rfl|rfl|rfl|rfl|rfl|rfl|rfl|rfl|rfl|rfl|rfl|rfl|rfl|rfl|rfl|rfl|rfl|rfl|rfl|rfl|rfl|rfl|rfl|rfl <;> rfl
noncomputable abbrev G9:En->R T:=zf ixT (vE 3) (zd 3 zl (z9 (vE 1) (z9 (zf zA (zf zA (vE 2) (cE (.int 2))) (vE 0)) (z9 (cE (.int 26)) (zh)))))
theorem gw (ns:List Int) (k:Int) (h0:0<=k) (j:Nat):∃ c:Nat,(97<=c/\c<=122)/\G9 [.vl (.int (j:Int)), .vl (scr ns), .vl (.int k), .vl (.str "abcdefghijklmnopqrstuvwxyz")]= .ok (.str ⟨#[c]⟩):=by
 obtain ⟨p,e,p0,p1⟩:=Zv ns (k+2+j) 26 (by omega) (by omega)
 refine ⟨97+p.toNat,⟨by omega,by omega⟩, ?_⟩
 simp only [G9,zn,v3,bOk,ZW,v1,v2,v0,ZE,ZR,e]
 exact gv p p0 p1
theorem Q9 (ns:List Int) (k:Int) (h0:0<=k):∃ w:Str,Zz [scr ns, .int k]= .ok (.str w)/\Zy (.str w)=true:=by
 have e:Zz [scr ns, .int k]=zp (jC zl [.vl (scr ns), .vl (.int k), .un]):=rfl
 obtain ⟨p,e0,p0,p1⟩:=Zv ns k 6 h0 (by omega)
 have hset:∀ t,([Sl.vl (scr ns),Sl.vl (.int k), .un]:En).set 2 (.vl t)=[Sl.vl (scr ns),Sl.vl (.int k), .vl t]:=fun _=>rfl
 rw [e,jC]
 simp only [zD,jp,jL,ZE,ZK,hset,ZX,ZW,v0,v1,bOk,e0,gtI]
 cases hp:decide (p > 0) with
 | true=>
  obtain ⟨q,e1,q0,q1⟩:=Zv ns (k+1) 4 (by omega) (by omega)
  simp only [if_true,Zd,jK,JB,zn,ZW,v0,v1,ZE,bOk,ZR,e1]
  have hq:q=0\/q=1\/q=2\/q=3:=by omega
  rcases hq with rfl | rfl | rfl | rfl
  ·exact ⟨"a",rfl,by decide⟩
  ·exact ⟨"b",rfl,by decide⟩
  ·exact ⟨"ab",rfl,by decide⟩
  ·exact ⟨"cab",rfl,by decide⟩
 | false=>
  obtain ⟨q,e1,q0,q1⟩:=Zv ns (k+1) 3 (by omega) (by omega)
  simp only [Bool.false_eq_true,if_false,nxS,Zd,J9,jK,JB,jA,Zg]
  obtain ⟨g,hg⟩:=Classical.skolem.mp (gw ns k h0)
  have ei:jH (zf zA (cE (.int 1)) (zd 3 zl (z9 (vE 0) (z9 (zf zA (vE 1) (cE (.int 1))) (z9 (cE (.int 3)) (zh)))))) [Sl.vl (scr ns),Sl.vl (.int k), .vl (.str "abcdefghijklmnopqrstuvwxyz")]= .ok (rng 0 (1+q).toNat):=by
   unfold jH
   simp only [zn,ZW,v0,v1,ZE,bOk,ZR,e1]
   rw [if_pos ⟨by omega,by omega⟩]
  have ec:∀ n:Nat,n<=3->zT (zG 0) j4 G9 1 [0,1,2] [Sl.vl (scr ns),Sl.vl (.int k), .vl (.str "abcdefghijklmnopqrstuvwxyz")] (rng 0 n)= .ok ((rng 0 n).map fun t=>match t with | .int j=> .str ⟨#[g j.toNat]⟩ | t=>t):=fun n hn=>
   jo (rng 0 n) (by unfold rng; rw [List.length_map,List.length_range]; exact Nat.le_trans hn (by decide)) fun t ht=>by
    unfold rng at ht
    obtain ⟨j,_,rfl⟩:=List.mem_map.mp ht
    show G9 [.vl (.int (0+(j:Int))), .vl (scr ns), .vl (.int k), .vl (.str "abcdefghijklmnopqrstuvwxyz")]= .ok (.str ⟨#[g (0+(j:Int)).toNat]⟩)
    rw [Int.zero_add,Int.toNat_natCast]
    exact (hg j).2
  rw [ei,bOk,ec _ (by omega),bOk,bOk]
  have hw:∀ j,Zm (g j)=true:=fun j=>by
   obtain ⟨a,b⟩:=(hg j).1
   unfold Zm
   rw [decide_eq_true a,decide_eq_true b]; rfl
  have hq:q=0\/q=1\/q=2:=by omega
  rcases hq with rfl | rfl | rfl
  ·refine ⟨⟨#[g 0]⟩,rfl, ?_⟩
   show (Zm (g 0) && true)=true
   rw [hw 0]; rfl
  ·refine ⟨⟨#[g 0,g 1]⟩,rfl, ?_⟩
   show (Zm (g 0) && (Zm (g 1) && true))=true
   rw [hw 0,hw 1]; rfl
  ·refine ⟨⟨#[g 0,g 1,g 2]⟩,rfl, ?_⟩
   show (Zm (g 0) && (Zm (g 1) && (Zm (g 2) && true)))=true
   rw [hw 0,hw 1,hw 2]; rfl
end G
namespace G
open PySem L2 PV
theorem GX (j:Int):Zw (.int 5) (.int j)= .ok (.int (5*j)):=by
 show (if yh 5 j then R.ok (T.int (5*j)) else .bad)=_
 rw [if_pos (.inl ⟨by decide,by decide⟩)]
theorem kB {f g:En->R T} {ρ:En} {x y:T} (hf:f ρ= .ok x) (hg:g ρ= .ok y):jh (z9 f (z9 g zh)) ρ= .ok (.tup [x,y]):=by
 unfold jh z9 zh
 rw [hf,hg]; rfl
theorem tup3 {f g h:En->R T} {ρ:En} {x y z:T} (hf:f ρ= .ok x) (hg:g ρ= .ok y) (hh:h ρ= .ok z):jh (z9 f (z9 g (z9 h zh))) ρ= .ok (.tup [x,y,z]):=by
 unfold jh z9 zh
 rw [hf,hg,hh]; rfl
theorem tup4 {f g h i:En->R T} {ρ:En} {x y z w:T} (hf:f ρ= .ok x) (hg:g ρ= .ok y) (hh:h ρ= .ok z) (hi:i ρ= .ok w):jh (z9 f (z9 g (z9 h (z9 i zh)))) ρ= .ok (.tup [x,y,z,w]):=by
 unfold jh z9 zh
 rw [hf,hg,hh,hi]; rfl
noncomputable def Dst (ws:List Str):Prop:=∀ (k:Nat) (w:Str),ws[k]? =some w->w ∉ ws.take k
theorem Dst.add {ws:List Str} (h:Dst ws) {w:Str} (hw:w ∉ ws):Dst (ws++[w]):=fun k x hx=>by
 by_cases hk:k < ws.length
 ·rw [List.getElem?_append_left hk] at hx
  rw [List.take_append_of_le_length (by omega)]
  exact h k x hx
 ·rw [List.getElem?_append_right (by omega)] at hx
  have hk' :k=ws.length:=by
   rcases Nat.lt_or_ge (k - ws.length) 1 with z | z
   ·omega
   ·rw [List.getElem?_eq_none (by simpa using z)] at hx; cases hx
  subst hk'
  rw [Nat.sub_self] at hx
  cases hx
  rw [List.take_left']
  ·exact hw
  ·rfl
noncomputable abbrev yS:En->RS:=zR (Z3 5 (zd 2 Zz (z9 (vE 0) (z9 (zf zA (zf zA (vE 1) (cE (.int 5))) (zf Zw (cE (.int 5)) (vE 4))) (zh)))))
  (ifS (Zl VG (vB 5) (vB 3)) (G5 3 (vE 5)) (nxS))
theorem uC (ns:List Int) (k:Int) (h0:0<=k):∀ (js:List Nat) (ws:List Str) (x4 x5:Sl),js.length+ws.length<=4->Dst ws->(∀ w∈ws,Zy (.str w)=true)->
  ∃ ws' y4 y5,Jl (zG 4) yS (js.map fun (j:Nat)=>T.int (0+(j:Int))) [.vl (scr ns), .vl (.int k), .un, .ow (ws.map T.str),x4,x5]= .nx [.vl (scr ns), .vl (.int k), .un, .ow (ws'.map T.str),y4,y5]/\ws'.length<=4/\Dst ws' /\(∀ w∈ws',Zy (.str w)=true)/\(0 < js.length+ws.length->0 < ws'.length)
 | [],ws,x4,x5,hl,hd,hw=>⟨ws,x4,x5,rfl,by simpa using hl,hd,hw,fun h=>by simpa using h⟩
 | j :: js,ws,x4,x5,hl,hd,hw=>by
  obtain ⟨w,ew,hw'⟩:=Q9 ns (k+5+5*(0+(j:Int))) (by omega)
  have hl' :js.length+ws.length+1<=4:=by simpa [List.length_cons,Nat.add_right_comm] using hl
  have e:Jl (zG 4) yS ((j :: js).map fun (j:Nat)=>T.int (0+(j:Int))) [.vl (scr ns), .vl (.int k), .un, .ow (ws.map T.str),x4,x5]=match yS [.vl (scr ns), .vl (.int k), .un, .ow (ws.map T.str), .vl (.int (0+(j:Int))),x5] with
   | .nx ρ2=>Jl (zG 4) yS (js.map fun (j:Nat)=>T.int (0+(j:Int))) ρ2
   | .ct ρ2=>Jl (zG 4) yS (js.map fun (j:Nat)=>T.int (0+(j:Int))) ρ2
   | .bk ρ2=> .nx ρ2
   | r=>r:=rfl
  have eb:yS [.vl (scr ns), .vl (.int k), .un, .ow (ws.map T.str), .vl (.int (0+(j:Int))),x5]= .nx [.vl (scr ns), .vl (.int k), .un, .ow ((if w∈ws then ws else ws++[w]).map T.str), .vl (.int (0+(j:Int))), .vl (.str w)]:=by
   have w3o:∀ (a b c:Sl) (ts:List T) (ρ:En),vB 3 (a :: b :: c :: .ow ts :: ρ)= .ok (.lst ts):=fun _ _ _ _ _=>rfl
   have hset:∀ t,([.vl (scr ns), .vl (.int k), .un, .ow (ws.map T.str), .vl (.int (0+(j:Int))),x5]:En).set 5 (.vl t)=[.vl (scr ns), .vl (.int k), .un, .ow (ws.map T.str), .vl (.int (0+(j:Int))), .vl t]:=fun _=>rfl
   have en:VG (.str w) (.lst (ws.map T.str))= .ok (!decide (w∈ws)):=by
    show ((match qr (fun y=>eqF 30 y (.str w)) (ws.map T.str) with | some b=>R.ok b | none=> .bad)).bind (fun b=>R.ok (!b))=_
    rw [UQ]; rfl
   simp only [yS,zD,jL,Jm,v0,v1,v4,zn,ZE,bOk,ZR,GX,ew,ZK,hset,jp,ZX,w5,w3o,en]
   by_cases hm:w∈ws
   ·rw [decide_eq_true hm,if_pos hm]; rfl
   ·rw [decide_eq_false hm,if_neg hm]
    have hb:(ws.map T.str).length < bnd:=by rw [List.length_map]; exact Nat.lt_of_le_of_lt (show ws.length<=4 by omega) (by decide)
    show (if (ws.map T.str).length < bnd then RS.nx _ else .bad)=_
    rw [if_pos hb,List.map_append]
    rfl
  rw [e,eb]
  by_cases hm:w∈ws
  ·rw [if_pos hm]
   obtain ⟨ws',y4,y5,r1,r2,r3,r4,r5⟩:=uC ns k h0 js ws (.vl (.int (0+(j:Int)))) (.vl (.str w)) (by omega) hd hw
   exact ⟨ws',y4,y5,r1,r2,r3,r4,fun _=>r5 (by have:=List.length_pos_of_mem hm; omega)⟩
  ·rw [if_neg hm]
   obtain ⟨ws',y4,y5,r1,r2,r3,r4,r5⟩:=uC ns k h0 js (ws++[w]) (.vl (.int (0+(j:Int)))) (.vl (.str w)) (by simp only [List.length_append,List.length_cons,List.length_nil]; omega) (hd.add hm) (fun x hx=>by
    rcases List.mem_append.mp hx with z | z
    ·exact hw x z
    ·rw [List.mem_singleton.mp z]; exact hw')
   exact ⟨ws',y4,y5,r1,r2,r3,r4,fun _=>r5 (by simp only [List.length_append,List.length_cons,List.length_nil]; omega)⟩
noncomputable abbrev gy:En->R T:=jh (z9 (vE 1) (z9 (zf zA (cE (.int 1)) (zd 3 zl (z9 (vE 2) (z9 (zf zA (zf zA (vE 3) (cE (.int 30))) (vE 0)) (z9 (cE (.int 20)) (zh)))))) (zh)))
theorem qA (ns:List Int) (k:Int) (h0:0<=k):∀ (ws:List Str) (i:Nat) (x0 x1:Sl),(∀ w∈ws,Zy (.str w)=true)->∃ cs:List T,zY (jI 0 1) j4 gy (((ws.map T.str).zipIdx i).map fun p=>T.tup [.int (p.2:Nat),p.1]) [x0,x1, .vl (scr ns), .vl (.int k)]= .ok cs/\cs.all zo=true/\cs.map Z4=ws
 | [],i,x0,x1,_=>⟨[],rfl,rfl,rfl⟩
 | w :: ws,i,x0,x1,hw=>by
  obtain ⟨p,e,p0,p1⟩:=Zv ns (k+30+i) 20 (by omega) (by omega)
  obtain ⟨cs,r1,r2,r3⟩:=qA ns k h0 ws (i+1) (.vl (.int (i:Int))) (.vl (.str w)) fun x hx=>hw x (List.mem_cons_of_mem _ hx)
  have ec:gy [.vl (.int (i:Int)), .vl (.str w), .vl (scr ns), .vl (.int k)]= .ok (.tup [.str w, .int (1+p)]):=by
   have ea:zd 3 zl (z9 (vE 2) (z9 (zf zA (zf zA (vE 3) (cE (.int 30))) (vE 0)) (z9 (cE (.int 20)) (zh)))) [.vl (.int (i:Int)), .vl (.str w), .vl (scr ns), .vl (.int k)]= .ok (.int p):=by
    simp only [ZW,v2,v3,v0,zn,ZE,bOk,ZR,e]
   have eb:zf zA (cE (.int 1)) (zd 3 zl (z9 (vE 2) (z9 (zf zA (zf zA (vE 3) (cE (.int 30))) (vE 0)) (z9 (cE (.int 20)) (zh))))) [.vl (.int (i:Int)), .vl (.str w), .vl (scr ns), .vl (.int k)]= .ok (.int (1+p)):=by
    rw [zn,ea]; rfl
   exact kB v1 eb
  refine ⟨.tup [.str w, .int (1+p)] :: cs, ?_, ?_, ?_⟩
  ·show ((gy [.vl (.int (i:Int)), .vl (.str w), .vl (scr ns), .vl (.int k)]).bind fun v=>(zY (jI 0 1) j4 gy (((ws.map T.str).zipIdx (i+1)).map fun p=>T.tup [.int (p.2:Nat),p.1]) [.vl (.int (i:Int)), .vl (.str w), .vl (scr ns), .vl (.int k)]).bind fun vs=>R.ok (v :: vs))=_
   rw [ec,r1]; rfl
  ·rw [List.all_cons,r2,Bool.and_true]
   show (Zy (.str w) && decide (1<=1+p) && decide (1+p<=20))=true
   rw [hw w List.mem_cons_self,decide_eq_true (by omega),decide_eq_true (by omega)]; rfl
  ·rw [List.map_cons,r3]; rfl
end G
namespace G
open PySem L2 PV
theorem X2 (i j:Int):vf (.int i) (.int j)= .ok (.int (if j < i then j else i)):=rfl
theorem kC (ns:List Int) (k:Int) (h0:0<=k):∃ t,Zx [scr ns, .int k]= .ok t/\∀ d,isK (d+1) t=true:=by
 have e:Zx [scr ns, .int k]=zp (j5 zl Zz [.vl (scr ns), .vl (.int k), .un, .un, .un, .un]):=rfl
 obtain ⟨p,e0,p0,p1⟩:=Zv ns k 3 h0 (by omega)
 rw [e,j5,zD]
 simp only [jp,ZX,ZW,v0,v1,ZE,bOk,e0,gtI,ZK]
 cases hp:decide (p > 0) with
 | true=>
  obtain ⟨q,e1,q0,q1⟩:=Zv ns (k+1) 7 (by omega) (by omega)
  obtain ⟨q3,e3,_,_⟩:=Zv ns (k+3) 8 (by omega) (by omega)
  obtain ⟨q4,e4,a4,b4⟩:=Zv ns (k+4) 3 (by omega) (by omega)
  obtain ⟨q2,e2,a2,b2⟩:=Zv ns (k+2) 4 (by omega) (by omega)
  have hset:∀ t x,([.vl (scr ns), .vl (.int k),x, .un, .un, .un]:En).set 2 (.vl t)=[.vl (scr ns), .vl (.int k), .vl t, .un, .un, .un]:=fun _ _=>rfl
  have fin:∀ low:Int, -20<=low->low<=20->∃ t,zp (Zc (jh (z9 (cE (.str "whole")) (z9 (vE 2) (z9 (zf vf (cE (.int 20)) (zf zA (vE 2) (zd 3 zl (z9 (vE 0) (z9 (zf zA (vE 1) (cE (.int 2))) (z9 (cE (.int 4)) (zh))))))) (zh))))) [.vl (scr ns), .vl (.int k), .vl (.int low), .un, .un, .un])= .ok t/\∀ d,isK (d+1) t=true:=by
   intro low hl1 hl2
   refine ⟨.tup [.str "whole", .int low, .int (if low+q2 < 20 then low+q2 else 20)], ?_,fun d=> ?_⟩
   ·rw [Zd,J9]
    refine tup3 rfl rfl ?_
    simp only [jK,WE,JB,zn,v2,v0,v1,ZW,ZE,bOk,ZR,e2,X2]
   ·show (decide (-20<=low) && decide (low<=_) && decide (_<=(20:Int)))=true
    rw [decide_eq_true hl1,decide_eq_true (by split <;> omega),decide_eq_true (by split <;> omega)]; rfl
  simp only [if_true,zD,jL,jp,zn,ZW,v0,v1,ZE,bOk,ZR,e1,Wr,ZK,hset,ZX,e3,eqI]
  cases hq:(q3 == 0) with
  | true=>
   have h3:q4=0\/q4=1\/q4=2:=by omega
   rcases h3 with rfl | rfl | rfl
   ·obtain ⟨t,r,s⟩:=fin (-20) (by omega) (by omega)
    refine ⟨t, ?_,s⟩
    rw [← r]
    simp only [if_true,e4,bOk]
    have hv:∀ ρ,(Jo (z9 (QX (cE (.int 20))) (z9 (cE (.int 17)) (z9 (cE (.int 20)) (zh)))) ρ)= .ok (.lst [.int (-20), .int 17, .int 20]):=fun _=>rfl
    simp only [hv,bOk]
    have hx:ixT (.lst [.int (-20), .int 17, .int 20]) (.int 0)= .ok (.int (-20)):=rfl
    simp only [hx,ZK,hset,Zd]
    generalize jh _ _=z
    cases z <;> rfl
   ·obtain ⟨t,r,s⟩:=fin (17) (by omega) (by omega)
    refine ⟨t, ?_,s⟩
    rw [← r]
    simp only [if_true,e4,bOk]
    have hv:∀ ρ,(Jo (z9 (QX (cE (.int 20))) (z9 (cE (.int 17)) (z9 (cE (.int 20)) (zh)))) ρ)= .ok (.lst [.int (-20), .int 17, .int 20]):=fun _=>rfl
    simp only [hv,bOk]
    have hx:ixT (.lst [.int (-20), .int 17, .int 20]) (.int 1)= .ok (.int (17)):=rfl
    simp only [hx,ZK,hset,Zd]
    generalize jh _ _=z
    cases z <;> rfl
   ·obtain ⟨t,r,s⟩:=fin (20) (by omega) (by omega)
    refine ⟨t, ?_,s⟩
    rw [← r]
    simp only [if_true,e4,bOk]
    have hv:∀ ρ,(Jo (z9 (QX (cE (.int 20))) (z9 (cE (.int 17)) (z9 (cE (.int 20)) (zh)))) ρ)= .ok (.lst [.int (-20), .int 17, .int 20]):=fun _=>rfl
    simp only [hv,bOk]
    have hx:ixT (.lst [.int (-20), .int 17, .int 20]) (.int 2)= .ok (.int (20)):=rfl
    simp only [hx,ZK,hset,Zd]
    generalize jh _ _=z
    cases z <;> rfl
  | false=>
   obtain ⟨t,r,s⟩:=fin (q - 3) (by omega) (by omega)
   refine ⟨t, ?_,s⟩
   rw [← r]
   simp only [Bool.false_eq_true,if_false,nxS,Zd]
   generalize jh _ _=z
   cases z <;> rfl
 | false=>
  obtain ⟨q,e1,q0,q1⟩:=Zv ns (k+1) 4 (by omega) (by omega)
  simp only [Bool.false_eq_true,if_false,nxS,zD]
  have ei:jH (zf zA (cE (.int 1)) (zd 3 zl (z9 (vE 0) (z9 (zf zA (vE 1) (cE (.int 1))) (z9 (cE (.int 4)) (zh)))))) [.vl (scr ns), .vl (.int k), .un, .ow [], .un, .un]= .ok (rng 0 (1+q).toNat):=by
   unfold jH
   simp only [zn,ZW,v0,v1,ZE,bOk,ZR,e1]
   rw [if_pos ⟨by omega,by omega⟩]
  have el:vm 3 zh [.vl (scr ns), .vl (.int k), .un, .un, .un, .un]= .nx [.vl (scr ns), .vl (.int k), .un, .ow [], .un, .un]:=rfl
  rw [el]
  have hn:(List.range (1+q).toNat).length=(1+q).toNat:=List.length_range
  obtain ⟨ws,y4,y5,r1,r2,r3,r4,r5⟩:=uC ns k h0 (List.range (1+q).toNat) [] .un .un (by rw [hn,List.length_nil]; omega) (fun k w h=>by cases h) (fun w h=>by cases h)
  have hpos:0 < ws.length:=r5 (by rw [hn,List.length_nil]; omega)
  have ef:WN (jH (zf zA (cE (.int 1)) (zd 3 zl (z9 (vE 0) (z9 (zf zA (vE 1) (cE (.int 1))) (z9 (cE (.int 4)) (zh))))))) (zG 4) yS [.vl (scr ns), .vl (.int k), .un, .ow [], .un, .un]= .nx [.vl (scr ns), .vl (.int k), .un, .ow (ws.map T.str),y4,y5]:=by
   unfold WN
   rw [ei,ZK]
   exact r1
  obtain ⟨cs,s1,s2,s3⟩:=qA ns k h0 ws 0 .un .un r4
  have hcl:cs.length=ws.length:=by rw [← s3,List.length_map]
  refine ⟨.tup [.str "pick", .tup cs], ?_,fun d=> ?_⟩
  ·dsimp only
   rw [ef]
   dsimp only
   rw [Zd,J9]
   refine kB rfl ?_
   rw [jA,Zg]
   have ee:XT (vE 3) (frz [.vl (scr ns), .vl (.int k), .un, .ow (ws.map T.str),y4,y5])= .ok (U8 (ws.map T.str)):=rfl
   rw [ee,bOk]
   unfold zT
   rw [if_pos (by unfold U8; rw [List.length_map,List.length_zipIdx,List.length_map]; exact Nat.le_trans r2 (by decide))]
   have ec:zY (jI 0 1) j4 gy (U8 (ws.map T.str)) (Uo 2 [0,1] (frz [.vl (scr ns), .vl (.int k), .un, .ow (ws.map T.str),y4,y5]))= .ok cs:=s1
   rw [ec]
   rfl
  ·show (decide (1<=cs.length) && decide (cs.length<=4) && cs.all zo && decide ((dd [] (cs.map Z4)).length=cs.length))=true
   have hd:(dd [] (cs.map Z4)).length=cs.length:=by
    rw [s3,hcl]
    have:=(uA ws []).mpr (fun k w h=>by simpa using r3 k w h)
    simpa using this
   rw [decide_eq_true (by omega),decide_eq_true (by omega),s2,decide_eq_true hd]; rfl
end G
namespace G
open PySem L2 PV
theorem Qa (c:Int) (j:Int) (hc:yh c j):Zw (.int c) (.int j)= .ok (.int (c*j)):=by
 show (if yh c j then R.ok (T.int (c*j)) else .bad)=_
 rw [if_pos hc]
theorem gz (j:Int):Zw (.int 3) (.int j)= .ok (.int (3*j)):=Qa _ _ (.inl ⟨by decide,by decide⟩)
theorem gA (j:Int):Zw (.int 50) (.int j)= .ok (.int (50*j)):=Qa _ _ (.inl ⟨by decide,by decide⟩)
noncomputable abbrev Ga (c:List T->R T):En->R T:=zd 3 c (z9 (vE 1) (z9 (zf zA (zf zA (zf Zw (cE (.int 3)) (vE 2)) (cE (.int 40))) (zf Zw (cE (.int 50)) (vE 0))) (z9 (zf yi (vE 3) (cE (.int 1))) (zh))))
theorem YJ (ns:List Int):∀ (d n:Nat),d<=n->1<=d->∀ k:Int,0<=k->∃ t,Zs n 0 [scr ns, .int k, .int (d:Int)]= .ok t/\isK d t=true
 | d+1,n+1,hn,_,k,h0=>by
  have e:Zs (n+1) 0 [scr ns, .int k, .int ((d+1:Nat):Int)]=zp (JZ zl Zx (Zs n 0) [.vl (scr ns), .vl (.int k), .vl (.int ((d+1:Nat):Int)), .un, .un, .un]):=rfl
  obtain ⟨p,e0,p0,p1⟩:=Zv ns k 5 h0 (by omega)
  obtain ⟨l,el,hl⟩:=kC ns (k+1) (by omega)
  have hset:([.vl (scr ns), .vl (.int k), .vl (.int ((d+1:Nat):Int)), .un, .un, .un]:En).set 3 (.vl (.int p))=[.vl (scr ns), .vl (.int k), .vl (.int ((d+1:Nat):Int)), .vl (.int p), .un, .un]:=rfl
  rw [e,JZ]
  simp only [zD,jL,jp,Q6,ZX,ZW,Jm,v0,v1,v2,ZE,bOk,e0,ZK,hset,w2,w3,eqI,ltI,ZR,Zd,jK,WE,JB,zn,el]
  have hd1:((((d+1:Nat):Int) == 1))=decide (d=0):=by
   by_cases h:d=0
   ·subst h; rfl
   ·rw [decide_eq_false h,beq_eq_false_iff_ne]; omega
  rw [hd1]
  by_cases hleaf:d=0\/p < 2
  ·refine ⟨l, ?_,hl d⟩
   rcases hleaf with h | h
   ·rw [decide_eq_true h]; rfl
   ·rw [decide_eq_true h]
    cases decide (d=0) <;> rfl
  ·have hd0:¬ d=0:=fun z=>hleaf (.inl z)
   have hp2:¬ p < 2:=fun z=>hleaf (.inr z)
   have hsub:((d+1:Nat):Int) - 1=(d:Int):=by omega
   rw [decide_eq_false hd0,decide_eq_false hp2]
   simp only [Bool.false_eq_true,if_false,ZK,nxS,w3,v0,v1,v2,bOk,ltI,ZE]
   cases hp:decide (p < 4) with
   | true=>
    obtain ⟨q,e1,q0,q1⟩:=Zv ns (k+1) 3 (by omega) (by omega)
    have hj:∀ j:Nat,∃ t,Ga (Zs n 0) [.vl (.int (0+(j:Int))), .vl (scr ns), .vl (.int k), .vl (.int ((d+1:Nat):Int))]= .ok t/\isK d t=true:=fun j=>by
     obtain ⟨t,r,s⟩:=YJ ns d n (by omega) (by omega) (3*k+40+50*(0+(j:Int))) (by omega)
     refine ⟨t, ?_,s⟩
     simp only [Ga,ZW,v0,v1,v2,v3,zn,ZE,bOk,gz,gA,ZR,Wr,hsub,r]
    obtain ⟨g,hg⟩:=Classical.skolem.mp hj
    have ei:jH (zf zA (cE (.int 1)) (zd 3 zl (z9 (vE 0) (z9 (zf zA (vE 1) (cE (.int 1))) (z9 (cE (.int 3)) (zh)))))) [.vl (scr ns), .vl (.int k), .vl (.int ((d+1:Nat):Int)), .vl (.int p), .un, .un]= .ok (rng 0 (1+q).toNat):=by
     unfold jH
     simp only [zn,ZW,v0,v1,ZE,bOk,ZR,e1]
     rw [if_pos ⟨by omega,by omega⟩]
    have ec:zT (zG 0) j4 (Ga (Zs n 0)) 1 [0,1,2] [.vl (scr ns), .vl (.int k), .vl (.int ((d+1:Nat):Int)), .vl (.int p), .un, .un] (rng 0 (1+q).toNat)= .ok ((rng 0 (1+q).toNat).map fun t=>match t with | .int j=>g j.toNat | t=>t):=
     jo (rng 0 (1+q).toNat) (by unfold rng; rw [List.length_map,List.length_range]; exact Nat.le_trans (show (1+q).toNat<=3 by omega) (by decide)) fun t ht=>by
      unfold rng at ht
      obtain ⟨j,_,rfl⟩:=List.mem_map.mp ht
      show Ga (Zs n 0) [.vl (.int (0+(j:Int))), .vl (scr ns), .vl (.int k), .vl (.int ((d+1:Nat):Int))]= .ok (g (0+(j:Int)).toNat)
      rw [(hg j).1,Int.zero_add,Int.toNat_natCast]
    generalize hcs:((rng 0 (1+q).toNat).map fun t=>match t with | .int j=>g j.toNat | t=>t)=cs at ec
    have hlen:cs.length=(1+q).toNat:=by rw [← hcs]; unfold rng; rw [List.length_map,List.length_map,List.length_range]
    have hall:∀ t∈cs,isK d t=true:=fun t ht=>by
     rw [← hcs] at ht
     obtain ⟨u,hu,rfl⟩:=List.mem_map.mp ht
     unfold rng at hu
     obtain ⟨j,_,rfl⟩:=List.mem_map.mp hu
     exact (hg _).2
    refine ⟨.tup [.str "row", .tup cs], ?_, ?_⟩
    ·have hs4:([.vl (scr ns), .vl (.int k), .vl (.int ((d+1:Nat):Int)), .vl (.int p), .un, .un]:En).set 4 (.vl (.lst cs))=[.vl (scr ns), .vl (.int k), .vl (.int ((d+1:Nat):Int)), .vl (.int p), .vl (.lst cs), .un]:=rfl
     simp only [if_true,Zg,ei,bOk,ec,ZK,hs4,jK,WE,JB]
     rfl
    ·show (decide (1<=cs.length) && decide (cs.length<=3) && cs.all (isK d))=true
     rw [decide_eq_true (by omega),decide_eq_true (by omega),List.all_eq_true.mpr hall]; rfl
   | false=>
    obtain ⟨q,e1,q0,q1⟩:=Zv ns (k+1) 3 (by omega) (by omega)
    obtain ⟨q2,e2,_,_⟩:=Zv ns (k+2) 3 (by omega) (by omega)
    obtain ⟨t,r,s⟩:=YJ ns d n (by omega) (by omega) (3*k+40) (by omega)
    refine ⟨.tup [.str "many",t, .int q, .int (if q+q2 < 3 then q+q2 else 3)], ?_, ?_⟩
    ·have hs5:([.vl (scr ns), .vl (.int k), .vl (.int ((d+1:Nat):Int)), .vl (.int p), .un, .un]:En).set 5 (.vl (.int q))=[.vl (scr ns), .vl (.int k), .vl (.int ((d+1:Nat):Int)), .vl (.int p), .un, .vl (.int q)]:=rfl
     simp only [Bool.false_eq_true,if_false,v0,v1,zn,ZE,bOk,ZR,e1,ZK,hs5,jK,WE,JB,J9]
     refine tup4 rfl ?_ rfl ?_
     ·simp only [ZW,v0,v1,v2,zn,ZE,bOk,gz,ZR,Wr,hsub,r]
     ·have v5:∀ {t:T} {a b c d e:Sl} {ρ:En},vE 5 (a :: b :: c :: d :: e :: .vl t :: ρ)= .ok t:=rfl
      simp only [ZW,v0,v1,v5,zn,ZE,bOk,ZR,e2,X2]
    ·show (wq 0 3 (.int q) (.int _) && isK d t)=true
     rw [s,Bool.and_true]
     show (decide (0<=q) && decide (q<=_) && decide (_<=(3:Int)))=true
     rw [decide_eq_true (by omega),decide_eq_true (by split <;> omega),decide_eq_true (by split <;> omega)]; rfl
end G
namespace G
open PySem L2 PV
mutual
noncomputable def dep:T->Nat
 | .tup xs=>wN xs+1
 | .lst xs=>wN xs+1
 | _=>1
noncomputable def wN:List T->Nat
 | []=>0
 | t :: ts=>max (dep t) (wN ts)
end
mutual
noncomputable def siz:T->Nat
 | .tup xs=>wk xs+1
 | .lst xs=>wk xs+1
 | _=>1
noncomputable def wk:List T->Nat
 | []=>0
 | t :: ts=>siz t+wk ts
end
theorem WR {w:Str} {t:T} (h:isS w t=true):t= .str w:=by
 cases t with
 | str s=>
  have:(s == w)=true:=h
  rw [eq_of_beq this]
 | _=>cases h
theorem YK {lo hi:Int} {t:T} (h:inR lo hi t=true):∃ i,t= .int i:=by
 cases t with
 | int i=>exact ⟨i,rfl⟩
 | _=>cases h
theorem ue {lo hi:Int} {a b:T} (h:wq lo hi a b=true):∃ i j,a= .int i/\b= .int j:=by
 cases a with
 | int i=>
  cases b with
  | int j=>exact ⟨i,j,rfl,rfl⟩
  | _=>cases h
 | _=>cases h
structure Fit (D S:Nat) (t:T):Prop where
 so:sOk t
 dp:dep t<=D
 sz:siz t<=S
theorem Qb {c:T} (h:zo c=true):Fit 2 3 c:=by
 unfold zo at h
 split at h
 ·rename_i w i
  have hw:Zy w=true:=by
   rw [Bool.and_eq_true,Bool.and_eq_true] at h
   exact h.1.1
  cases w with
  | str x=>
   have hx:(decide (1<=x.length) && decide (x.length<=3) && x.cps.toList.all Zm)=true:=hw
   rw [Bool.and_eq_true,Bool.and_eq_true,decide_eq_true_eq,decide_eq_true_eq] at hx
   refine ⟨?_, ?_, ?_⟩
   ·simp only [sOk,wI,and_true]
    exact Nat.le_trans hx.1.2 (by decide)
   ·simp [dep,wN]
   ·simp [siz,wk]
  | _=>cases hw
 ·cases h
theorem Gb {D S:Nat}:∀ {cs:List T},(∀ c∈cs,Fit D S c)->wI cs/\wN cs<=D/\wk cs<=S*cs.length
 | [],_=>⟨by simp only [wI],Nat.zero_le _,Nat.zero_le _⟩
 | c :: cs,h=>by
  obtain ⟨a,b,d⟩:=Gb (cs:=cs) fun x hx=>h x (List.mem_cons_of_mem _ hx)
  obtain ⟨x,y,z⟩:=h c List.mem_cons_self
  refine ⟨?_, ?_, ?_⟩
  ·simp only [wI]; exact ⟨x,a⟩
  ·simp only [wN]; omega
  ·simp only [wk,List.length_cons,Nat.mul_add,Nat.mul_one]; omega
theorem uf:∀ (d:Nat) (t:T),isK d t=true->Fit (2*d+2) (15*4 ^ d) t
 | 0,_,h=>by cases h
 | d+1,t,h=>by
  have hpow:4 ^ (d+1)=4*4 ^ d:=by rw [Nat.pow_succ,Nat.mul_comm]
  have hone:1<=4 ^ d:=Nat.pow_pos (by omega)
  have h:UP (isK d) t=true:=h
  unfold UP at h
  split at h
  ·rename_i hd r
   split at h
   ·rename_i e
    rw [WR e]
    unfold WQ at h
    split at h
    ·obtain ⟨i,j,rfl,rfl⟩:=ue h
     refine ⟨by simp only [sOk,wI,and_true]; decide,by simp only [dep,wN]; omega,by simp only [siz,wk]; omega⟩
    ·cases h
   ·split at h
    ·rename_i e
     rw [WR e]
     unfold yO at h
     split at h
     ·rename_i c
      unfold yN at h
      split at h
      ·rename_i cs
       rw [Bool.and_eq_true,Bool.and_eq_true,Bool.and_eq_true,decide_eq_true_eq,decide_eq_true_eq] at h
       obtain ⟨a,b,z⟩:=Gb (D:=2) (S:=3) (cs:=cs) fun c hc=>Qb (List.all_eq_true.mp h.1.2 c hc)
       refine ⟨by simp only [sOk,wI,and_true]; exact ⟨by decide,a⟩,by simp only [dep,wN]; omega,by simp only [siz,wk]; omega⟩
      ·cases h
     ·cases h
    ·split at h
     ·rename_i e
      rw [WR e]
      unfold xX at h
      split at h
      ·rename_i c
       unfold uy at h
       split at h
       ·rename_i cs
        rw [Bool.and_eq_true,Bool.and_eq_true,decide_eq_true_eq,decide_eq_true_eq] at h
        obtain ⟨a,b,z⟩:=Gb (D:=2*d+2) (S:=15*4 ^ d) (cs:=cs) fun c hc=>uf d c (List.all_eq_true.mp h.2 c hc)
        have:15*4 ^ d*cs.length<=15*4 ^ d*3:=Nat.mul_le_mul_left _ h.1.2
        refine ⟨by simp only [sOk,wI,and_true]; exact ⟨by decide,a⟩,by simp only [dep,wN]; omega,by simp only [siz,wk]; omega⟩
       ·cases h
      ·cases h
     ·split at h
      ·rename_i e
       rw [WR e]
       unfold yP at h
       split at h
       ·rename_i c a b
        rw [Bool.and_eq_true] at h
        obtain ⟨i,j,rfl,rfl⟩:=ue h.1
        obtain ⟨x,y,z⟩:=uf d c h.2
        refine ⟨by simp only [sOk,wI,and_true]; exact ⟨by decide,x⟩,by simp only [dep,wN]; omega,by simp only [siz,wk]; omega⟩
       ·cases h
      ·cases h
  ·cases h
end G
namespace G
open PySem L2 PV
noncomputable def yk:T->List Nat->Option T
 | t,[]=>some t
 | .tup xs,i :: r=>match xs[i]? with | some x=>yk x r | none=>none
 | _,_ :: _=>none
noncomputable abbrev pth (p:List Nat):T:= .tup (p.map fun (i:Nat)=>T.int (i:Int))
noncomputable abbrev X3 (c:List T->R T):En->RS:=VM 1 (Zf (JK (zd 1 c (z9 (zf ixT (vE 0) (vE 2)) (zh)))) (zG 0) (j4) (zf zA (jh (z9 (vE 1) (zh))) (vE 0)) 1 [2])
noncomputable def Qc (xs:List T) (j:Nat):Nat:=match xs[j]? with | some x=>siz x | none=>0
theorem YL:∀ xs:List T,((List.range xs.length).map (Qc xs)).sum=wk xs
 | []=>rfl
 | x :: xs=>by
  rw [List.length_cons,List.range_succ_eq_map,List.map_cons,List.sum_cons,List.map_map]
  show siz x+((List.range xs.length).map (Qc xs)).sum=siz x+wk xs
  rw [YL xs]
theorem UT:∀ {xs:List T} {x:T},x∈xs->siz x<=wk xs
 | y :: ys,x,h=>by
  simp only [wk]
  rcases List.mem_cons.mp h with rfl | h
  ·omega
  ·have:=UT h; omega
theorem YM (t:T):1<=siz t:=by cases t <;> simp [siz]
theorem qB:∀ {t u:T} (p:List Nat),yk t p=some u->p.length < siz t
 | t,_,[],_=>YM t
 | .tup xs,u,i :: r,h=>by
  have h:(match xs[i]? with | some x=>yk x r | none=>none)=some u:=h
  cases hx:xs[i]? with
  | none=>rw [hx] at h; cases h
  | some x=>
   rw [hx] at h
   have a:=qB r h
   have b:=UT (List.mem_of_getElem? hx)
   simp only [siz,List.length_cons]
   omega
 | .non,_,_ :: _,h=>by cases h
 | .bl _,_,_ :: _,h=>by cases h
 | .int _,_,_ :: _,h=>by cases h
 | .str _,_,_ :: _,h=>by cases h
 | .lst _,_,_ :: _,h=>by cases h
 | .fz _,_,_ :: _,h=>by cases h
theorem GY {f:En->R T} {ρ:En} {x:T} (hf:f ρ= .ok x):jh (z9 f zh) ρ= .ok (.tup [x]):=by
 unfold jh z9 zh
 rw [hf]; rfl
theorem qC {c:List T->R T} {xs:List T} (H:∀ x∈xs,∃ ps:List (List Nat),c [x]= .ok (.lst (ps.map pth))/\ps.length<=siz x/\∀ p∈ps,∃ u,yk x p=some u):
  ∀ (js:List Nat),(∀ j∈js,j < xs.length)->∀ (acc:List (List Nat)) (x2:Sl),(∀ p∈acc,∃ u,yk (.tup xs) p=some u)->acc.length+(js.map (Qc xs)).sum<=bnd->
  ∃ (acc' :List (List Nat)) (y2:Sl),Jl (zG 2) (X3 c) (js.map fun (j:Nat)=>T.int (0+(j:Int))) [.vl (.tup xs), .ow (acc.map pth),x2]= .nx [.vl (.tup xs), .ow (acc'.map pth),y2]/\acc.length<=acc'.length/\acc'.length<=acc.length+(js.map (Qc xs)).sum/\∀ p∈acc',∃ u,yk (.tup xs) p=some u
 | [],_,acc,x2,ha,hl=>⟨acc,x2,rfl,Nat.le_refl _,by simp,ha⟩
 | j :: js,hj,acc,x2,ha,hl=>by
  have hjl:j < xs.length:=hj j List.mem_cons_self
  have hx:xs[j]? =some xs[j]:=List.getElem?_eq_getElem hjl
  obtain ⟨ps,e1,e2,e3⟩:=H xs[j] (List.getElem_mem hjl)
  have hsz:Qc xs j=siz xs[j]:=by unfold Qc; rw [hx]
  rw [List.map_cons,List.sum_cons,hsz] at hl
  have e:Jl (zG 2) (X3 c) ((j :: js).map fun (j:Nat)=>T.int (0+(j:Int))) [.vl (.tup xs), .ow (acc.map pth),x2]=match X3 c [.vl (.tup xs), .ow (acc.map pth), .vl (.int (0+(j:Int)))] with
   | .nx ρ2=>Jl (zG 2) (X3 c) (js.map fun (j:Nat)=>T.int (0+(j:Int))) ρ2
   | .ct ρ2=>Jl (zG 2) (X3 c) (js.map fun (j:Nat)=>T.int (0+(j:Int))) ρ2
   | .bk ρ2=> .nx ρ2
   | r=>r:=rfl
  have eb:X3 c [.vl (.tup xs), .ow (acc.map pth), .vl (.int (0+(j:Int)))]= .nx [.vl (.tup xs), .ow ((acc++ps.map (j :: ·)).map pth), .vl (.int (0+(j:Int)))]:=by
   have ex:ixT (.tup xs) (.int (0+(j:Int)))= .ok xs[j]:=by
    rw [Int.zero_add]
    show atT xs j=_
    unfold atT
    rw [Jv hx]
   have ei:JK (zd 1 c (z9 (zf ixT (vE 0) (vE 2)) (zh))) [.vl (.tup xs), .ow (acc.map pth), .vl (.int (0+(j:Int)))]= .ok (ps.map pth):=by
    simp only [JU,JT,zn,v0,v2,bOk,ex,e1]
    rfl
   have ec:zT (zG 0) j4 (zf zA (jh (z9 (vE 1) (zh))) (vE 0)) 1 [2] [.vl (.tup xs), .ow (acc.map pth), .vl (.int (0+(j:Int)))] (ps.map pth)= .ok ((ps.map pth).map fun t=>match t with | .tup q=> .tup (.int (0+(j:Int)) :: q) | t=>t):=
    jo _ (by rw [List.length_map]; omega) fun t ht=>by
     obtain ⟨p,hp,rfl⟩:=List.mem_map.mp ht
     show zf zA (jh (z9 (vE 1) (zh))) (vE 0) [.vl (pth p), .vl (.int (0+(j:Int)))]=_
     rw [zn,GY v1,bOk,v0,bOk]
     obtain ⟨u,hu⟩:=e3 p hp
     have hpl:=qB p hu
     show (if [T.int (0+(j:Int))].length+(p.map fun (i:Nat)=>T.int (i:Int)).length<=bnd then R.ok (T.tup _) else .bad)=_
     rw [if_pos (by rw [List.length_map,List.length_singleton]; omega)]
     rfl
   show ((Zf _ _ _ _ _ _ _).s fun t=>match t with | .lst us=>if (acc.map pth).length+us.length<=bnd then RS.nx _ else .bad | _=> .bad)=_
   rw [Zg,ei,bOk,ec,bOk,ZK]
   show (if _ then _ else _)=_
   rw [if_pos (by simp only [List.length_map]; omega)]
   rw [List.map_append,List.map_map,List.map_map]
   show RS.nx [.vl (.tup xs), .ow (acc.map pth++_), .vl (.int (0+(j:Int)))]=_
   have hm:List.map ((fun t=>match t with | .tup q=>T.tup (.int (0+(j:Int)) :: q) | t=>t) ∘ pth) ps=List.map (pth ∘ fun x=>j :: x) ps:=by
    refine List.map_congr_left fun p _=> ?_
    show T.tup (T.int (0+(j:Int)) :: _)=T.tup (T.int (j:Int) :: _)
    rw [Int.zero_add]
   rw [← hm]
  rw [e,eb]
  obtain ⟨acc',y2,r1,r2,r3,r4⟩:=qC H js (fun i hi=>hj i (List.mem_cons_of_mem _ hi)) (acc++ps.map (j :: ·)) (.vl (.int (0+(j:Int)))) (fun p hp=>by
   rcases List.mem_append.mp hp with z | z
   ·exact ha p z
   ·obtain ⟨q,hq,rfl⟩:=List.mem_map.mp z
    obtain ⟨u,hu⟩:=e3 q hq
    refine ⟨u, ?_⟩
    show (match xs[j]? with | some x=>yk x q | none=>none)=some u
    rw [hx]; exact hu) (by rw [List.length_append,List.length_map]; omega)
  rw [List.length_append,List.length_map] at r2 r3
  refine ⟨acc',y2,r1,by omega, ?_,r4⟩
  rw [List.map_cons,List.sum_cons,hsz]
  omega
end G
namespace G
open PySem L2 PV
theorem vP:∀ {xs:List T} {x:T},x∈xs->dep x<=wN xs
 | y :: ys,x,h=>by
  simp only [wN]
  rcases List.mem_cons.mp h with rfl | h
  ·omega
  ·have:=vP h; omega
noncomputable def lim:Nat:=900000
theorem YN:lim+lim+lim+10<=bnd:=by decide
theorem kD:(lim:Int)+10 < 1000000:=by decide
noncomputable abbrev Qd (c:List T->R T) (t:T):Prop:=∃ ps:List (List Nat),c [t]= .ok (.lst (ps.map pth))/\0 < ps.length/\ps.length<=siz t/\∀ p∈ps,∃ u,yk t p=some u
theorem ug:∀ xs:List T,xs.length<=wk xs
 | []=>Nat.zero_le _
 | x :: xs=>by
  have:=YM x
  have:=ug xs
  simp only [wk,List.length_cons]
  omega
theorem gB {xs:List T} {a b:Sl} (h:(xs.length:Int) < 1000000):jH (ap1 ZI (vB 0)) [.vl (.tup xs),a,b]= .ok (rng 0 xs.length):=by
 unfold jH
 rw [jA,w0,bOk,JC,bOk]
 dsimp only
 rw [if_pos ⟨by omega,by omega⟩,Int.toNat_natCast]
theorem vQ (t:T) (ps:List (List Nat)) (y:Sl):zp (Zc (vE 1) [.vl t, .ow (ps.map pth),y])= .ok (.lst (ps.map pth)):=rfl
theorem gC (t:T):vm 1 (z9 (jh zh) zh) [.vl t, .un, .un]= .nx [.vl t, .ow [.tup []], .un]:=rfl
theorem X4 {c:List T->R T} (t:T):zp (zV c (en0 3 [t]))=zp (match (tru (.bl (isT "tuple" t))).s fun k=>if k=true then WN (jH (ap1 ZI (vB 0))) (zG 2) (X3 c) [.vl t, .ow [.tup []], .un] else nxS [.vl t, .ow [.tup []], .un] with | .nx ρ=>Zc (vE 1) ρ | r=>r):=by
 have e:zp (zV c (en0 3 [t]))=zp (zV c [.vl t, .un, .un]):=rfl
 rw [e,zV,zD,gC]
 dsimp only
 rw [zD,jp,wQ,jA,w0,bOk]
 rfl
theorem Qe {c:List T->R T} (xs:List T) (hs:wk xs+1<=lim) (H:∀ x∈xs,Qd c x):Qd (fun ts=>zp (zV c (en0 3 ts))) (.tup xs):=by
 have hb:=YN
 have hm:=kD
 have H:∀ x∈xs,∃ ps:List (List Nat),c [x]= .ok (.lst (ps.map pth))/\ps.length<=siz x/\∀ p∈ps,∃ u,yk x p=some u:=fun x hx=>by
  obtain ⟨ps,r1,r2,r3,r4⟩:=H x hx
  exact ⟨ps,r1,r3,r4⟩
 have hlen:=ug xs
 obtain ⟨acc,y,r1,r2,r3,r4⟩:=qC H (List.range xs.length) (fun j hj=>List.mem_range.mp hj) [[]] .un (fun p hp=>by
  rw [List.mem_singleton.mp hp]; exact ⟨_,rfl⟩) (by rw [YL,List.length_singleton]; omega)
 rw [YL,List.length_singleton] at r3
 rw [List.length_singleton] at r2
 refine ⟨acc, ?_,by omega,by simp only [siz]; omega,r4⟩
 have ef:WN (jH (ap1 ZI (vB 0))) (zG 2) (X3 c) [.vl (.tup xs), .ow [.tup []], .un]= .nx [.vl (.tup xs), .ow (acc.map pth),y]:=by
  unfold WN
  rw [gB (by omega),ZK]
  exact r1
 dsimp only
 rw [X4,show isT "tuple" (.tup xs)=true from rfl,jw,ZK,if_pos rfl,ef]
 exact vQ _ acc y
theorem Qf {c:List T->R T} (t:T) (ht:∀ xs,t ≠ .tup xs):Qd (fun ts=>zp (zV c (en0 3 ts))) t:=by
 have e:isT "tuple" t=false:=by
  cases t with
  | tup xs=>exact (ht xs rfl).elim
  | _=>rfl
 refine ⟨[[]], ?_,by decide,YM t,fun p hp=> ?_⟩
 ·dsimp only
  rw [X4,e,jw,ZK,if_neg Bool.false_ne_true]
  exact vQ t [[]] .un
 rw [List.mem_singleton.mp hp]; exact ⟨t,by cases t <;> rfl⟩
theorem YO {c:List T->R T} (t:T) (hs:siz t<=lim) (H:∀ xs,t= .tup xs->∀ x∈xs,Qd c x):Qd (fun ts=>zp (zV c (en0 3 ts))) t:=by
 by_cases ht:∃ xs,t= .tup xs
 ·obtain ⟨xs,rfl⟩:=ht
  simp only [siz] at hs
  exact Qe xs hs (H xs rfl)
 ·exact Qf t fun xs z=>ht ⟨xs,z⟩
theorem vR (n:Nat):∀ (t:T),dep t<=n->siz t<=lim->Qd (jQ n 0) t:=by
 induction n with
 | zero=>intro t h; cases t <;> simp [dep] at h
 | succ n ih=>
  intro t h hs
  exact YO t hs fun xs e x hx=>by
   subst e
   simp only [dep,siz] at h hs
   have a:=vP hx
   have b:=UT hx
   exact ih x (by omega) (by omega)
end G
namespace G
open PySem L2 PV
theorem X5 {xs:List T} {j:Nat} {x:T} (h:xs[j]? =some x):ixT (.tup xs) (.int (j:Int))= .ok x:=by
 show atT xs j=_
 unfold atT
 rw [Jv h]
theorem uD {xs:List T} {i:Nat} {r:List Nat} {u:T} (h:yk (.tup xs) (i :: r)=some u):∃ x,xs[i]? =some x/\yk x r=some u:=by
 have h:(match xs[i]? with | some x=>yk x r | none=>none)=some u:=h
 cases hx:xs[i]? with
 | none=>rw [hx] at h; cases h
 | some x=>rw [hx] at h; exact ⟨x,rfl,h⟩
theorem UU {t:T} {i:Nat} {r:List Nat} {u:T} (h:yk t (i :: r)=some u):∃ xs,t= .tup xs:=by
 cases t with
 | tup xs=>exact ⟨xs,rfl⟩
 | _=>cases h
theorem qD (t:T):yk t []=some t:=by cases t <;> rfl
theorem vS {X:Sl}:∀ (p:List Nat) (t u:T) (y:Sl),yk t p=some u->∃ y',Jl (zG 2) (Z3 0 (zf ixT (vE 0) (vE 2))) (p.map fun (i:Nat)=>T.int (i:Int)) [.vl t,X,y]= .nx [.vl u,X,y']
 | [],t,u,y,h=>by
  rw [qD] at h
  cases h
  exact ⟨y,rfl⟩
 | i :: r,t,u,y,h=>by
  obtain ⟨xs,rfl⟩:=UU h
  obtain ⟨x,hx,hr⟩:=uD h
  obtain ⟨y',e⟩:=vS (X:=X) r x u (.vl (.int (i:Int))) hr
  refine ⟨y', ?_⟩
  have e1:Jl (zG 2) (Z3 0 (zf ixT (vE 0) (vE 2))) ((i :: r).map fun (i:Nat)=>T.int (i:Int)) [.vl (.tup xs),X,y]=match Z3 0 (zf ixT (vE 0) (vE 2)) [.vl (.tup xs),X, .vl (.int (i:Int))] with
   | .nx ρ2=>Jl (zG 2) (Z3 0 (zf ixT (vE 0) (vE 2))) (r.map fun (j:Nat)=>T.int (j:Int)) ρ2
   | .ct ρ2=>Jl (zG 2) (Z3 0 (zf ixT (vE 0) (vE 2))) (r.map fun (j:Nat)=>T.int (j:Int)) ρ2
   | .bk ρ2=> .nx ρ2
   | r=>r:=rfl
  rw [e1,jL,zn,v0,bOk,v2,bOk,X5 hx,ZK]
  exact e
theorem GZ {t u:T} {p:List Nat} (h:yk t p=some u):JP [t,pth p]= .ok u:=by
 obtain ⟨y',e⟩:=vS (X:= .vl (pth p)) p t u .un h
 have e0:JP [t,pth p]=zp (Wm [.vl t, .vl (pth p), .un]):=rfl
 have ef:WN (JK (vE 1)) (zG 2) (Z3 0 (zf ixT (vE 0) (vE 2))) [.vl t, .vl (pth p), .un]= .nx [.vl u, .vl (pth p),y']:=e
 rw [e0,Wm,zD,ef]
 rfl
noncomputable def yT:T->List Nat->T->T
 | _,[],v=>v
 | .tup xs,i :: r,v=>match xs[i]? with
  | some x=> .tup (xs.take i++[yT x r v]++xs.drop (i+1))
  | none=> .tup xs
 | t,_ :: _,_=>t
theorem vT {xs:List T} {i:Nat} (h:i < xs.length):slT (.tup xs) none (some (i:Int))= .ok (.tup (xs.take i)):=by
 show R.ok (T.tup (cut xs none (some (i:Int))))=_
 have:cut xs none (some (i:Int))=xs.take i:=by
  unfold cut
  rw [HT.sIx_none,HT.sIx_nat,Nat.min_eq_left (by omega),Nat.sub_zero,List.drop_zero]
 rw [this]
theorem vU {xs:List T} {i:Nat} (h:i<=xs.length):slT (.tup xs) (some (i:Int)) none= .ok (.tup (xs.drop i)):=by
 show R.ok (T.tup (cut xs (some (i:Int)) none))=_
 have:cut xs (some (i:Int)) none=xs.drop i:=by
  unfold cut
  rw [HT.sIx_none,HT.sIx_nat,Nat.min_eq_left h]
  exact List.take_of_length_le (by rw [List.length_drop]; omega)
 rw [this]
theorem xi {xs:List T} {i j:Nat} (hi:i<=xs.length) (hj:j<=xs.length):slT (.tup xs) (some (i:Int)) (some (j:Int))= .ok (.tup ((xs.drop i).take (j - i))):=by
 show R.ok (T.tup (cut xs (some (i:Int)) (some (j:Int))))=_
 have:cut xs (some (i:Int)) (some (j:Int))=(xs.drop i).take (j - i):=by
  unfold cut
  rw [HT.sIx_nat,HT.sIx_nat,Nat.min_eq_left hi,Nat.min_eq_left hj]
 rw [this]
theorem Uu {xs ys:List T} (h:xs.length+ys.length<=bnd):zA (.tup xs) (.tup ys)= .ok (.tup (xs++ys)):=if_pos h
theorem WS {f:En->R T} {ρ:En} {i:Int} (h:f ρ= .ok (.int i)):jv f ρ= .ok (some i):=by
 unfold jv; rw [h]; rfl
theorem xj {c:List T->R T} {xs:List T} {i:Nat} {r:List Nat} {v x w:T} (hx:xs[i]? =some x) (hl:xs.length<=lim) (hc:c [x,pth r,v]= .ok w):
  zp (jW c (en0 4 [.tup xs,pth (i :: r),v]))= .ok (.tup (xs.take i++[w]++xs.drop (i+1))):=by
 have hi:i < xs.length:=(List.getElem?_eq_some_iff.mp hx).1
 have hb:=YN
 have e:zp (jW c (en0 4 [.tup xs,pth (i :: r),v]))=zp (jW c [.vl (.tup xs), .vl (pth (i :: r)), .vl v, .un]):=rfl
 have e1:Zl eqC (vB 1) (jh zh) [.vl (.tup xs), .vl (pth (i :: r)), .vl v, .un]= .ok false:=rfl
 have e2:Z3 3 (zf ixT (vE 1) (cE (.int 0))) [.vl (.tup xs), .vl (pth (i :: r)), .vl v, .un]= .nx [.vl (.tup xs), .vl (pth (i :: r)), .vl v, .vl (.int (i:Int))]:=by
  rw [jL,zn,v1,bOk,ZE,bOk,show ixT (pth (i :: r)) (.int 0)= .ok (.int (i:Int)) from at0,ZK]; rfl
 rw [e,jW,zD,jp,e1,ZK,if_neg Bool.false_ne_true]
 unfold nxS
 dsimp only
 rw [zD,e2]
 dsimp only
 rw [Zd,jK,jK,jK,jK,JB,J9]
 have ep:slE (vE 1) (jv (cE (.int 1))) noO [.vl (.tup xs), .vl (pth (i :: r)), .vl v, .vl (.int (i:Int))]= .ok (pth r):=by
  rw [US,v1,bOk,X0,bOk,X1,bOk]
  exact cut1
 have ec:zd 3 c (z9 (zf ixT (vE 0) (vE 3)) (z9 (slE (vE 1) (jv (cE (.int 1))) (noO)) (z9 (vE 2) (zh)))) [.vl (.tup xs), .vl (pth (i :: r)), .vl v, .vl (.int (i:Int))]= .ok w:=by
  rw [ZW,zn,v0,bOk,v3,bOk,X5 hx,bOk,ep,bOk,v2,bOk,hc]
 have ea:zA (.int (i:Int)) (.int 1)= .ok (.int ((i+1:Nat):Int)):=by
  rw [ZR,Int.natCast_add]; rfl
 have eb:zf zA (vE 3) (cE (.int 1)) [.vl (.tup xs), .vl (pth (i :: r)), .vl v, .vl (.int (i:Int))]= .ok (.int ((i+1:Nat):Int)):=by
  rw [zn,v3,bOk,ZE,bOk,ea]
 rw [zn,zn,US,v0,bOk,X1,bOk,WS v3,bOk,vT hi,bOk,GY ec,bOk,Uu (by rw [List.length_take,List.length_singleton]; omega),bOk,US,v0,bOk,WS eb,bOk,X1,bOk,vU (by omega),bOk]
 exact Uu (by rw [List.length_append,List.length_take,List.length_singleton,List.length_drop]; omega)
theorem gD (n:Nat):∀ (p:List Nat) (t u v:T),p.length < n->siz t<=lim->yk t p=some u->JQ n 0 [t,pth p,v]= .ok (yT t p v):=by
 induction n with
 | zero=>intro p t u v h; omega
 | succ n ih=>
  intro p t u v h hs hg
  cases p with
  | nil=>
   have:yT t [] v=v:=by cases t <;> rfl
   rw [this]
   rfl
  | cons i r=>
   obtain ⟨xs,rfl⟩:=UU hg
   obtain ⟨x,hx,hr⟩:=uD hg
   simp only [siz] at hs
   have hl:=ug xs
   have hz:=UT (List.mem_of_getElem? hx)
   rw [List.length_cons] at h
   have hc:=ih r x u v (by omega) (by omega) hr
   have:=xj (c:=JQ n 0) (r:=r) hx (by omega) hc
   have e:yT (.tup xs) (i :: r) v= .tup (xs.take i++[yT x r v]++xs.drop (i+1)):=by
    show (match xs[i]? with | some x=>T.tup (xs.take i++[yT x r v]++xs.drop (i+1)) | none=> .tup xs)=_
    rw [hx]
   rw [e]
   exact this
end G
namespace G
open PySem L2 PV
theorem wJ:∀ (xs ys:List T),wk (xs++ys)=wk xs+wk ys
 | [],ys=>by simp [wk]
 | x :: xs,ys=>by simp only [List.cons_append,wk,wJ xs ys]; omega
theorem wK:∀ (xs ys:List T),wN (xs++ys)=max (wN xs) (wN ys)
 | [],ys=>by simp [wN]
 | x :: xs,ys=>by simp only [List.cons_append,wN,wK xs ys]; omega
theorem wL:∀ {xs ys:List T},wI (xs++ys)↔wI xs/\wI ys
 | [],ys=>by simp [wI]
 | x :: xs,ys=>by simp only [List.cons_append,wI,wL (xs:=xs) (ys:=ys),and_assoc]
theorem xk {xs:List T} {i:Nat} {x:T} (h:xs[i]? =some x):xs=xs.take i++([x]++xs.drop (i+1)):=by
 obtain ⟨hi,rfl⟩:=List.getElem?_eq_some_iff.mp h
 rw [List.singleton_append,← List.drop_eq_getElem_cons,List.take_append_drop]
theorem uE {xs:List T} {i:Nat} {x:T} (h:xs[i]? =some x):(wI xs->wI (xs.take i)/\sOk x/\wI (xs.drop (i+1)))/\wN (xs.take i)<=wN xs/\dep x<=wN xs/\wN (xs.drop (i+1))<=wN xs/\wk (xs.take i)+siz x+wk (xs.drop (i+1))=wk xs:=by
 have e:=xk h
 have e1:wI xs↔wI (xs.take i)/\wI [x]/\wI (xs.drop (i+1)):=by
  conv=>lhs; rw [e,wL,wL]
 have e2:wN xs=max (wN (xs.take i)) (max (wN [x]) (wN (xs.drop (i+1)))):=by
  conv=>lhs; rw [e,wK,wK]
 have e3:wk xs=wk (xs.take i)+(wk [x]+wk (xs.drop (i+1))):=by
  conv=>lhs; rw [e,wJ,wJ]
 simp only [wN,wk,Nat.add_zero,Nat.max_zero] at e2 e3
 refine ⟨fun q=> ?_,by omega,by omega,by omega,by omega⟩
 have:=e1.mp q
 simp only [wI,and_true] at this
 exact this
theorem vV:∀ (p:List Nat) (t v:T),sOk t->sOk v->sOk (yT t p v)/\dep (yT t p v)<=dep t+dep v/\siz (yT t p v)<=siz t+siz v
 | [],t,v,ht,hv=>by
  have:yT t [] v=v:=by cases t <;> rfl
  rw [this]
  exact ⟨hv,by omega,by omega⟩
 | i :: r,t,v,ht,hv=>by
  by_cases hx:∃ xs x,t= .tup xs/\xs[i]? =some x
  ·obtain ⟨xs,x,rfl,hx⟩:=hx
   have e:yT (.tup xs) (i :: r) v= .tup (xs.take i++[yT x r v]++xs.drop (i+1)):=by
    show (match xs[i]? with | some x=>T.tup (xs.take i++[yT x r v]++xs.drop (i+1)) | none=> .tup xs)=_
    rw [hx]
   obtain ⟨q1,q2,q3,q4,q5⟩:=uE hx
   obtain ⟨s1,s2,s3⟩:=q1 (Ja ht)
   obtain ⟨i1,i2,i3⟩:=vV r x v s2 hv
   rw [e]
   refine ⟨?_, ?_, ?_⟩
   ·simp only [sOk,wL,wI,and_true]
    exact ⟨⟨s1,i1⟩,s3⟩
   ·simp only [dep,wK,wN,Nat.max_zero]
    omega
   ·simp only [siz,wJ,wk,Nat.add_zero]
    omega
  ·have:yT t (i :: r) v=t:=by
    cases t with
    | tup xs=>
     show (match xs[i]? with | some x=>T.tup (xs.take i++[yT x r v]++xs.drop (i+1)) | none=> .tup xs)=_
     cases hi:xs[i]? with
     | none=>rfl
     | some x=>exact (hx ⟨xs,x,rfl,hi⟩).elim
    | _=>rfl
   rw [this]
   exact ⟨ht,by omega,by omega⟩
theorem vW:∀ (p:List Nat) (t u:T),yk t p=some u->(sOk t->sOk u)/\dep u+p.length<=dep t/\siz u<=siz t
 | [],t,u,h=>by
  rw [qD] at h
  cases h
  exact ⟨id,Nat.le_refl _,Nat.le_refl _⟩
 | i :: r,t,u,h=>by
  obtain ⟨xs,rfl⟩:=UU h
  obtain ⟨x,hx,hr⟩:=uD h
  obtain ⟨q1,q2,q3,q4,q5⟩:=uE hx
  obtain ⟨i1,i2,i3⟩:=vW r x u hr
  refine ⟨fun q=>i1 (q1 (Ja q)).2.1, ?_, ?_⟩
  ·simp only [dep,List.length_cons]; omega
  ·simp only [siz]; omega
theorem vX (t:T):1<=dep t:=by cases t <;> simp [dep]
theorem kE {xs:List T} {j:Nat} {x:T} (h:xs[j]? =some x):ixT (.lst xs) (.int (j:Int))= .ok x:=by
 show atT xs j=_
 unfold atT
 rw [Jv h]
theorem ixl {xs:List T} {i:Int} (h0:0<=i) (h1:i < (xs.length:Int)):∃ x,ixT (.lst xs) (.int i)= .ok x/\x∈xs:=by
 have hj:i.toNat < xs.length:=by omega
 have e:i=((i.toNat:Nat):Int):=by omega
 have q:=kE (List.getElem?_eq_getElem hj)
 rw [← e] at q
 exact ⟨xs[i.toNat],q,List.getElem_mem hj⟩
noncomputable def wu (u:T):List T:=[.int 0, .int 1, .int (-21), .int 21, .int 3, .int 4, .bl true, .non, .str "a", .str "abcd", .str "A", .str "", .str "many", .str "row", .tup [], .tup [u], .lst [u], .tup [.str "whole", .int 1, .int 0]]
theorem Qg {u:T} {D S:Nat} (h:Fit D S u):∀ v∈wu u,Fit (D+2) (2*S+4) v:=by
 obtain ⟨h1,h2,h3⟩:=h
 have hl:∀ n:Nat,n<=10->n<=bnd:=fun n h=>Nat.le_trans h (by decide)
 intro v hv
 unfold wu at hv
 simp only [List.mem_cons,List.not_mem_nil,or_false] at hv
 rcases hv with rfl | rfl | rfl | rfl | rfl | rfl | rfl | rfl | rfl | rfl | rfl | rfl | rfl | rfl | rfl | rfl | rfl | rfl
 all_goals first
  | exact ⟨by simp only [sOk,wI,and_true]; first | decide | exact h1,by simp only [dep,wN]; omega,by simp only [siz,wk]; omega⟩
  | exact ⟨by simp only [sOk,wI],by simp only [dep,wN]; omega,by simp only [siz,wk]; omega⟩
  | exact ⟨hl _ (by decide),by simp only [dep,wN]; omega,by simp only [siz,wk]; omega⟩
end G
namespace G
open PySem L2 PV
theorem UV {a b t d p e g h i:T} {j:Sl} {f:En->R T} {v w:T} (hj:Wv j=j) (hf:f [.vl a, .vl b, .vl t, .vl d, .vl p, .vl e, .vl g, .vl h,j]= .ok v) (hw:zw 40 [t,p,v]= .ok w):
  zp (Zc (zd 3 (zw 40) (z9 (vE 2) (z9 (vE 4) (z9 f zh)))) [.vl a, .vl b, .vl t, .vl d, .vl p, .vl e, .vl g, .vl h,j])= .ok w:=by
 have ez:frz [.vl a, .vl b, .vl t, .vl d, .vl p, .vl e, .vl g, .vl h,j]=[.vl a, .vl b, .vl t, .vl d, .vl p, .vl e, .vl g, .vl h,j]:=by
  show [Sl.vl a, .vl b, .vl t, .vl d, .vl p, .vl e, .vl g, .vl h,Wv j]=_
  rw [hj]
 rw [Zd,ez,J9,ZW,v2,bOk,v4,bOk,hf,bOk]
 exact hw
theorem z00 (j:Int):Zw (.int 2) (.int j)= .ok (.int (2*j)):=Qa _ _ (.inl ⟨by decide,by decide⟩)
noncomputable abbrev xl:En->R T:=zf zA (slE (vE 5) (noO) (jv (vE 8))) (slE (vE 5) (jv (zf zA (vE 8) (cE (.int 1)))) (noO))
noncomputable abbrev xm:En->R T:=zf zA (zf zA (slE (vE 5) (noO) (jv (vE 8))) (slE (vE 5) (jv (vE 8)) (jv (zf zA (vE 8) (cE (.int 1)))))) (slE (vE 5) (jv (vE 8)) (noO))
noncomputable abbrev en9 (a:T) (k:Int) (t d p e:T) (g:List T) (w:Int) (j:Sl):En:=[.vl a, .vl (.int k), .vl t, .vl d, .vl p, .vl e, .vl (.lst g), .vl (.int w),j]
theorem yU {xs:List T} {i:Nat} {x:T} (h:xs[i]? =some x):xs.drop i=x :: xs.drop (i+1):=by
 obtain ⟨hi,rfl⟩:=List.getElem?_eq_some_iff.mp h
 exact List.drop_eq_getElem_cons hi
theorem kF {a t d p:T} {g xs:List T} {k w:Int} {i:Nat} {x:T} (hx:xs[i]? =some x) (hl:xs.length<=lim):
  xl (en9 a k t d p (.tup xs) g w (.vl (.int (i:Int))))= .ok (.tup (xs.take i++xs.drop (i+1)))/\
  xm (en9 a k t d p (.tup xs) g w (.vl (.int (i:Int))))= .ok (.tup (xs.take i++[x]++(x :: xs.drop (i+1)))):=by
 have hi:i < xs.length:=(List.getElem?_eq_some_iff.mp hx).1
 have hb:=YN
 have e5:vE 5 (en9 a k t d p (.tup xs) g w (.vl (.int (i:Int))))= .ok (.tup xs):=rfl
 have e8:vE 8 (en9 a k t d p (.tup xs) g w (.vl (.int (i:Int))))= .ok (.int (i:Int)):=rfl
 have ea:zA (.int (i:Int)) (.int 1)= .ok (.int ((i+1:Nat):Int)):=by
  rw [ZR,Int.natCast_add]; rfl
 have eb:zf zA (vE 8) (cE (.int 1)) (en9 a k t d p (.tup xs) g w (.vl (.int (i:Int))))= .ok (.int ((i+1:Nat):Int)):=by
  rw [zn,e8,bOk,ZE,bOk,ea]
 have em:(xs.drop i).take (i+1 - i)=[x]:=by
  rw [yU hx,show i+1 - i=1 from by omega]; rfl
 constructor
 ·unfold xl
  rw [zn,US,e5,bOk,X1,bOk,WS e8,bOk,vT hi,bOk,US,e5,bOk,WS eb,bOk,X1,bOk,vU (by omega),bOk]
  exact Uu (by rw [List.length_take,List.length_drop]; omega)
 ·unfold xm
  rw [zn,zn,US,e5,bOk,X1,bOk,WS e8,bOk,vT hi,bOk,US,e5,bOk,WS e8,bOk,WS eb,bOk,xi (by omega) (by omega),bOk,em,Uu (by rw [List.length_take,List.length_singleton]; omega),bOk,US,e5,bOk,WS e8,bOk,X1,bOk,vU (by omega),bOk,← yU hx]
  exact Uu (by rw [List.length_append,List.length_take,List.length_singleton,List.length_drop]; omega)
theorem kG {D S:Nat} {xs:List T} {i:Nat} {x:T} (hx:xs[i]? =some x) (h:Fit D S (.tup xs)):Fit (D+2) (2*S+4) (.tup (xs.take i++xs.drop (i+1)))/\Fit (D+2) (2*S+4) (.tup (xs.take i++[x]++(x :: xs.drop (i+1)))):=by
 obtain ⟨h1,h2,h3⟩:=h
 obtain ⟨q1,q2,q3,q4,q5⟩:=uE hx
 obtain ⟨s1,s2,s3⟩:=q1 (Ja h1)
 simp only [dep,siz] at h2 h3
 refine ⟨⟨?_, ?_, ?_⟩,⟨?_, ?_, ?_⟩⟩
 ·simp only [sOk,wL]; exact ⟨s1,s3⟩
 ·simp only [dep,wK]; omega
 ·simp only [siz,wJ]; omega
 ·simp only [sOk,wL,wI,and_true]; exact ⟨⟨s1,s2⟩,s2,s3⟩
 ·simp only [dep,wK,wN]; omega
 ·simp only [siz,wJ,wk]; omega
noncomputable abbrev Ub (cp:List T->R T) (cput:List T->R T):En->RS:=
  (zR (ifS (U5 (jg (ap1 (Jk "tuple") (vB 5))) (Zl neC (vB 5) (jh (zh)))) (zR (Z3 8 (zd 3 cp (z9 (vE 0) (z9 (zf zA (vE 1) (cE (.int 2))) (z9 (ap1 ZI (vB 5)) (zh))))))
  (Zc (zd 3 cput (z9 (vE 2) (z9 (vE 4) (z9 (zf ixT (Jo (z9 xl (z9 xm (zh)))) (zf u9 (vE 7) (cE (.int 2)))) (zh))))))) (nxS))
  (zR (ifS (jg (ap1 (Jk "int") (vB 5))) (Zc (zd 3 cput (z9 (vE 2) (z9 (vE 4) (z9 (zf yi (zf zA (vE 5) (cE (.int 1))) (zf Zw (cE (.int 2)) (zf u9 (vE 7) (cE (.int 2))))) (zh)))))) (nxS))
  (Zc (zd 3 cput (z9 (vE 2) (z9 (vE 4) (z9 (jh (z9 (cE (.str "row")) (z9 (jh (z9 (vE 5) (z9 (vE 5) (zh)))) (zh)))) (zh))))))))
theorem lst2 {f g:En->R T} {ρ:En} {x y:T} (hf:f ρ= .ok x) (hg:g ρ= .ok y):Jo (z9 f (z9 g zh)) ρ= .ok (.lst [x,y]):=by
 unfold Jo z9 zh
 rw [hf,hg]; rfl
theorem xn (ns:List Int) {t d p:T} {g xs:List T} {k w:Int} (h0:0<=k) {D S:Nat} (hl:S<=lim) (hF:Fit D S (.tup xs)) (hne:xs ≠ []) (H:∀ v,Fit (D+2) (2*S+4) v->∃ r,zw 40 [t,p,v]= .ok r):
  ∃ v r,Fit (D+2) (2*S+4) v/\zw 40 [t,p,v]= .ok r/\zp (Ub zl (zw 40) (en9 (scr ns) k t d p (.tup xs) g w .un))= .ok r:=by
 have hxl:=ug xs
 have hz:=hF.sz
 simp only [siz] at hz
 have hpos:0 < xs.length:=List.length_pos_iff.mpr hne
 obtain ⟨q,hq,q0,q1⟩:=Zv ns (k+2) (xs.length:Int) (by omega) (by omega)
 have hqi:q=((q.toNat:Nat):Int):=by omega
 have hqx:xs[q.toNat]? =some (xs[q.toNat]'(by omega)):=List.getElem?_eq_getElem (by omega)
 generalize xs[q.toNat]'(by omega)=x at hqx
 generalize q.toNat=i at hqi hqx
 subst hqi
 obtain ⟨c1,c2⟩:=kF (a:=scr ns) (t:=t) (d:=d) (p:=p) (g:=g) (k:=k) (w:=w) hqx (by omega)
 obtain ⟨f1,f2⟩:=kG hqx hF
 have ec:U5 (jg (ap1 (Jk "tuple") (vB 5))) (Zl neC (vB 5) (jh (zh))) (en9 (scr ns) k t d p (.tup xs) g w .un)= .ok true:=by
  cases xs with
  | nil=>exact (hne rfl).elim
  | cons _ _=>rfl
 have es:Z3 8 (zd 3 zl (z9 (vE 0) (z9 (zf zA (vE 1) (cE (.int 2))) (z9 (ap1 ZI (vB 5)) (zh))))) (en9 (scr ns) k t d p (.tup xs) g w .un)= .nx (en9 (scr ns) k t d p (.tup xs) g w (.vl (.int (i:Int)))):=by
  rw [jL,ZW,v0,bOk,zn,v1,bOk,ZE,bOk,ZR,bOk,jA,show vB 5 (en9 (scr ns) k t d p (.tup xs) g w .un)= .ok (.tup xs) from rfl,bOk,JC,bOk,hq,ZK]
  rfl
 have em:zf u9 (vE 7) (cE (.int 2)) (en9 (scr ns) k t d p (.tup xs) g w (.vl (.int (i:Int))))= .ok (.int (w % 2)):=rfl
 have hm:w % 2=0\/w % 2=1:=by omega
 have go:∀ v,zf ixT (Jo (z9 xl (z9 xm (zh)))) (zf u9 (vE 7) (cE (.int 2))) (en9 (scr ns) k t d p (.tup xs) g w (.vl (.int (i:Int))))= .ok v->Fit (D+2) (2*S+4) v->∃ v r,Fit (D+2) (2*S+4) v/\zw 40 [t,p,v]= .ok r/\zp (Ub zl (zw 40) (en9 (scr ns) k t d p (.tup xs) g w .un))= .ok r:=fun v hv fv=>by
  obtain ⟨r,hr⟩:=H v fv
  refine ⟨v,r,fv,hr, ?_⟩
  have e1:=UV (i:= .non) (j:= .vl (.int (i:Int))) rfl hv hr
  unfold Ub
  rw [zD,jp,ec,ZK,if_pos rfl,zD,es]
  dsimp only
  rw [Zd] at e1 ⊢
  rw [J9] at e1
  rw [e1]
  rfl
 rcases hm with hm | hm
 ·exact go _ (by rw [zn,lst2 c1 c2,bOk,em,bOk,hm]; rfl) f1
 ·exact go _ (by rw [zn,lst2 c1 c2,bOk,em,bOk,hm]; rfl) f2
end G
namespace G
open PySem L2 PV
noncomputable abbrev intE:En->R T:=zf yi (zf zA (vE 5) (cE (.int 1))) (zf Zw (cE (.int 2)) (zf u9 (vE 7) (cE (.int 2))))
noncomputable abbrev rowE:En->R T:=jh (z9 (cE (.str "row")) (z9 (jh (z9 (vE 5) (z9 (vE 5) (zh)))) (zh)))
theorem vY {D S:Nat} (i:Int):Fit (D+2) (2*S+4) (.int i):=⟨by simp only [sOk],by simp only [dep]; omega,by simp only [siz]; omega⟩
theorem vZ {D S:Nat} {u:T} (h:Fit D S u):Fit (D+2) (2*S+4) (.tup [.str "row", .tup [u,u]]):=by
 obtain ⟨h1,h2,h3⟩:=h
 have hd:=vX u
 refine ⟨?_, ?_, ?_⟩
 ·simp only [sOk,wI,and_true]; exact ⟨by decide,h1,h1⟩
 ·simp only [dep,wN]; omega
 ·simp only [siz,wk]; omega
theorem xo {cp:List T->R T} {a t d p u:T} {g:List T} {k w:Int} {r:T} (ht:U5 (jg (ap1 (Jk "tuple") (vB 5))) (Zl neC (vB 5) (jh (zh))) (en9 a k t d p u g w .un)= .ok false) (hi:isT "int" u=false)
  (hr:zw 40 [t,p, .tup [.str "row", .tup [u,u]]]= .ok r):zp (Ub cp (zw 40) (en9 a k t d p u g w .un))= .ok r:=by
 have e1:=UV (f:=rowE) (a:=a) (b:= .int k) (t:=t) (d:=d) (p:=p) (e:=u) (g:= .lst g) (h:= .int w) (i:= .non) (j:= .un) rfl (kB ZE (kB rfl rfl)) hr
 have ei:jg (ap1 (Jk "int") (vB 5)) (en9 a k t d p u g w .un)= .ok false:=by
  show tru (.bl (isT "int" u))=_
  rw [hi]; rfl
 unfold Ub
 rw [zD,jp,ht,ZK,if_neg Bool.false_ne_true]
 unfold nxS
 dsimp only
 rw [zD,jp,ei,ZK,if_neg Bool.false_ne_true]
 exact e1
theorem xp {cp:List T->R T} {a t d p u:T} {g:List T} {k w i:Int} {r:T} (ht:isT "tuple" u=false) (hi:isT "int" u=true) (ha:zA u (.int 1)= .ok (.int i))
  (hr:zw 40 [t,p, .int (i - 2*(w % 2))]= .ok r):zp (Ub cp (zw 40) (en9 a k t d p u g w .un))= .ok r:=by
 have e0:intE (en9 a k t d p u g w .un)= .ok (.int (i - 2*(w % 2))):=by
  show ((zA u (.int 1)).bind fun x=>(Zw (.int 2) (.int (w % 2))).bind fun y=>yi x y)=_
  rw [ha,z00]
  rfl
 have e1:=UV (f:=intE) (a:=a) (b:= .int k) (t:=t) (d:=d) (p:=p) (e:=u) (g:= .lst g) (h:= .int w) (i:= .non) (j:= .un) rfl e0 hr
 have et:U5 (jg (ap1 (Jk "tuple") (vB 5))) (Zl neC (vB 5) (jh (zh))) (en9 a k t d p u g w .un)= .ok false:=by
  show (tru (.bl (isT "tuple" u))).bind (fun x=>if x=true then _ else R.ok false)=_
  rw [ht]; rfl
 have ei:jg (ap1 (Jk "int") (vB 5)) (en9 a k t d p u g w .un)= .ok true:=by
  show tru (.bl (isT "int" u))=_
  rw [hi]; rfl
 unfold Ub
 rw [zD,jp,et,ZK,if_neg Bool.false_ne_true]
 unfold nxS
 dsimp only
 rw [zD,jp,ei,ZK,if_pos rfl]
 rw [Zd] at e1 ⊢
 rw [J9] at e1
 rw [e1]
 rfl
theorem kH (ns:List Int) {t d p u:T} {g:List T} {k w:Int} (h0:0<=k) {D S:Nat} (hl:S<=lim) (hF:Fit D S u) (H:∀ v,Fit (D+2) (2*S+4) v->∃ r,zw 40 [t,p,v]= .ok r):
  ∃ v r,Fit (D+2) (2*S+4) v/\zw 40 [t,p,v]= .ok r/\zp (Ub zl (zw 40) (en9 (scr ns) k t d p u g w .un))= .ok r:=by
 have row:U5 (jg (ap1 (Jk "tuple") (vB 5))) (Zl neC (vB 5) (jh (zh))) (en9 (scr ns) k t d p u g w .un)= .ok false->isT "int" u=false->∃ v r,Fit (D+2) (2*S+4) v/\zw 40 [t,p,v]= .ok r/\zp (Ub zl (zw 40) (en9 (scr ns) k t d p u g w .un))= .ok r:=fun e1 e2=>by
  obtain ⟨r,hr⟩:=H _ (vZ hF)
  exact ⟨_,r,vZ hF,hr,xo e1 e2 hr⟩
 have num:∀ i,isT "tuple" u=false->isT "int" u=true->zA u (.int 1)= .ok (.int i)->∃ v r,Fit (D+2) (2*S+4) v/\zw 40 [t,p,v]= .ok r/\zp (Ub zl (zw 40) (en9 (scr ns) k t d p u g w .un))= .ok r:=fun i e1 e2 e3=>by
  obtain ⟨r,hr⟩:=H _ (vY (i - 2*(w % 2)))
  exact ⟨_,r,vY _,hr,xp e1 e2 e3 hr⟩
 cases u with
 | tup xs=>
  by_cases hx:xs=[]
  ·subst hx; exact row rfl rfl
  ·exact xn ns h0 hl hF hx H
 | int i=>exact num (i+1) rfl rfl rfl
 | bl b=>exact num (b2 b+1) rfl rfl rfl
 | non=>exact row rfl rfl
 | str x=>exact row rfl rfl
 | lst x=>exact row rfl rfl
 | fz x=>exact row rfl rfl
theorem yV (ns:List Int) (k:Int) (h0:0<=k) {D S:Nat} (hD:D<=40) (hS:S<=lim) {t:T} (hF:Fit D S t):
  ∃ r,zy [scr ns, .int k,t]= .ok r/\Fit (2*D+2) (3*S+4) r:=by
 obtain ⟨ht,hd,hs⟩:=hF
 have hs' :=Nat.le_trans hs hS
 obtain ⟨ps,hp,hp0,hpl,hpv⟩:=vR 40 t (Nat.le_trans hd hD) hs'
 have hp:jl 40 [t]= .ok (.lst (ps.map pth)):=hp
 obtain ⟨q,hq,q0,q1⟩:=Zv ns k (ps.length:Int) h0 (by omega)
 obtain ⟨x,ex,hx⟩:=ixl (xs:=ps.map pth) q0 (by rw [List.length_map]; exact q1)
 obtain ⟨p,hpm,rfl⟩:=List.mem_map.mp hx
 obtain ⟨u,hu⟩:=hpv p hpm
 obtain ⟨g1,g2,g3⟩:=vW p t u hu
 have hdu:=vX u
 have hUF:Fit D S u:=⟨g1 ht,by omega,by omega⟩
 have hput:∀ v,zw 40 [t,pth p,v]= .ok (yT t p v):=fun v=>gD 40 p t u v (by omega) hs' hu
 have fin:∀ v,Fit (D+2) (2*S+4) v->Fit (2*D+2) (3*S+4) (yT t p v):=fun v hv=>by
  obtain ⟨a,b,c⟩:=vV p t v ht hv.so
  have:=hv.dp
  have:=hv.sz
  exact ⟨a,by omega,by omega⟩
 obtain ⟨w,hw,w0',w1⟩:=Zv ns (k+1) 23 (by omega) (by omega)
 have e:zy [scr ns, .int k,t]=zp (Zu zl (jl 40) JP (zw 40) [.vl (scr ns), .vl (.int k), .vl t, .un, .un, .un, .un, .un, .un]):=rfl
 have e1:Z3 3 (zd 1 (jl 40) (z9 (vE 2) (zh))) [.vl (scr ns), .vl (.int k), .vl t, .un, .un, .un, .un, .un, .un]= .nx [.vl (scr ns), .vl (.int k), .vl t, .vl (.lst (ps.map pth)), .un, .un, .un, .un, .un]:=by
  rw [jL,JT,v2,bOk,hp,ZK]; rfl
 have e2:Z3 4 (zf ixT (vE 3) (zd 3 zl (z9 (vE 0) (z9 (vE 1) (z9 (ap1 ZI (vB 3)) (zh)))))) [.vl (scr ns), .vl (.int k), .vl t, .vl (.lst (ps.map pth)), .un, .un, .un, .un, .un]= .nx [.vl (scr ns), .vl (.int k), .vl t, .vl (.lst (ps.map pth)), .vl (pth p), .un, .un, .un, .un]:=by
  rw [jL,zn,v3,bOk,ZW,v0,bOk,v1,bOk,jA,w3,bOk,vJ,bOk,List.length_map,hq,bOk,ex,ZK]; rfl
 have e3:Z3 5 (zd 2 JP (z9 (vE 2) (z9 (vE 4) (zh)))) [.vl (scr ns), .vl (.int k), .vl t, .vl (.lst (ps.map pth)), .vl (pth p), .un, .un, .un, .un]= .nx [.vl (scr ns), .vl (.int k), .vl t, .vl (.lst (ps.map pth)), .vl (pth p), .vl u, .un, .un, .un]:=by
  rw [jL,Jm,v2,bOk,v4,bOk,GZ hu,ZK]; rfl
 rw [e,Zu,zD,e1]
 dsimp only
 rw [zD,e2]
 dsimp only
 rw [zD,e3]
 dsimp only
 rw [zD]
 have e4:Z3 6 (Jo (z9 (cE (.int 0)) (z9 (cE (.int 1)) (z9 (QX (cE (.int 21))) (z9 (cE (.int 21)) (z9 (cE (.int 3)) (z9 (cE (.int 4)) (z9 (cE (.bl true)) (z9 (cE .non) (z9 (cE (.str "a")) (z9 (cE (.str "abcd")) (z9 (cE (.str "A")) (z9 (cE (.str "")) (z9 (cE (.str "many")) (z9 (cE (.str "row")) (z9 (jh (zh)) (z9 (jh (z9 (vE 5) (zh))) (z9 (Jo (z9 (vE 5) (zh))) (z9 (jh (z9 (cE (.str "whole")) (z9 (cE (.int 1)) (z9 (cE (.int 0)) (zh))))) (zh)))))))))))))))))))) [.vl (scr ns), .vl (.int k), .vl t, .vl (.lst (ps.map pth)), .vl (pth p), .vl u, .un, .un, .un]= .nx [.vl (scr ns), .vl (.int k), .vl t, .vl (.lst (ps.map pth)), .vl (pth p), .vl u, .vl (.lst (wu u)), .un, .un]:=rfl
 rw [e4]
 dsimp only
 have e5:Z3 7 (zd 3 zl (z9 (vE 0) (z9 (zf zA (vE 1) (cE (.int 1))) (z9 (zf zA (ap1 ZI (vB 6)) (cE (.int 5))) (zh))))) [.vl (scr ns), .vl (.int k), .vl t, .vl (.lst (ps.map pth)), .vl (pth p), .vl u, .vl (.lst (wu u)), .un, .un]= .nx (en9 (scr ns) k t (.lst (ps.map pth)) (pth p) u (wu u) w .un):=by
  rw [jL,ZW,v0,bOk,zn,v1,bOk,ZE,bOk,ZR,bOk]
  rw [show zf zA (ap1 ZI (vB 6)) (cE (.int 5)) [.vl (scr ns), .vl (.int k), .vl t, .vl (.lst (ps.map pth)), .vl (pth p), .vl u, .vl (.lst (wu u)), .un, .un]= .ok (.int 23) from rfl,bOk,hw,ZK]
  rfl
 rw [zD,e5]
 dsimp only
 rw [zD,jp]
 have e6:Zl ltC (vB 7) (ap1 ZI (vB 6)) (en9 (scr ns) k t (.lst (ps.map pth)) (pth p) u (wu u) w .un)= .ok (decide (w < 18)):=rfl
 rw [e6,ZK]
 by_cases h18:w < 18
 ·rw [decide_eq_true h18,if_pos rfl]
  obtain ⟨v,ev,hv⟩:=ixl (xs:=wu u) w0' (by show w < 18; exact h18)
  have hfv:=Qg hUF v hv
  have er:=UV (f:=zf ixT (vE 6) (vE 7)) (a:=scr ns) (b:= .int k) (t:=t) (d:= .lst (ps.map pth)) (p:=pth p) (e:=u) (g:= .lst (wu u)) (h:= .int w) (i:= .non) (j:= .un) rfl (show ixT (.lst (wu u)) (.int w)= .ok v from ev) (hput v)
  refine ⟨_, ?_,fin v hfv⟩
  rw [Zd] at er ⊢
  rw [J9] at er
  rw [er]
  rfl
 ·rw [decide_eq_false h18,if_neg Bool.false_ne_true]
  obtain ⟨v,r,hfv,hr,et⟩:=kH ns (t:=t) (d:= .lst (ps.map pth)) (p:=pth p) (u:=u) (g:=wu u) (k:=k) (w:=w) h0 hS hUF fun v _=>⟨_,hput v⟩
  rw [hput v] at hr
  cases hr
  exact ⟨_,et,fin v hfv⟩
end G
namespace G
open PySem L2 PV
theorem Uv (ρ:En):nxS ρ= .nx ρ:=rfl
inductive Kd where
 | whole (lo hi:Int)
 | pick (cs:List (Str×Int))
 | row (ks:List Kd)
 | many (k:Kd) (lo hi:Nat)
noncomputable def WT (c:Str×Int):T:= .tup [.str c.1, .int c.2]
mutual
noncomputable def Kd.t:Kd->T
 | .whole lo hi=> .tup [.str "whole", .int lo, .int hi]
 | .pick cs=> .tup [.str "pick", .tup (cs.map WT)]
 | .row ks=> .tup [.str "row", .tup (Kd.ts ks)]
 | .many k lo hi=> .tup [.str "many",k.t, .int (lo:Int), .int (hi:Int)]
noncomputable def Kd.ts:List Kd->List T
 | []=>[]
 | k :: ks=>k.t :: Kd.ts ks
end
theorem Kd.ts_map:∀ ks:List Kd,Kd.ts ks=ks.map Kd.t
 | []=>by simp only [Kd.ts,List.map_nil]
 | k :: ks=>by simp only [Kd.ts,List.map_cons,Kd.ts_map ks]
noncomputable def Kd.Ok:Nat->Kd->Prop
 | 0,_=>False
 | _+1, .whole lo hi=> -20<=lo/\lo<=hi/\hi<=20
 | _+1, .pick cs=>1<=cs.length/\cs.length<=4/\(∀ c∈cs,Zy (.str c.1)=true/\1<=c.2/\c.2<=20)/\Dst (cs.map (·.1))
 | d+1, .row ks=>1<=ks.length/\ks.length<=3/\∀ k∈ks,Kd.Ok d k
 | d+1, .many k lo hi=>lo<=hi/\hi<=3/\Kd.Ok d k
theorem V0 {c:T} (h:zo c=true):∃ p:Str×Int,c=WT p/\Zy (.str p.1)=true/\1<=p.2/\p.2<=20:=by
 unfold zo at h
 split at h
 ·rename_i w i
  rw [Bool.and_eq_true,Bool.and_eq_true,decide_eq_true_eq,decide_eq_true_eq] at h
  cases w with
  | str x=>exact ⟨(x,i),rfl,h.1.1,h.1.2,h.2⟩
  | _=>cases h.1.1
 ·cases h
theorem YQ {α:Type} {P:T->Prop} {Q:α->Prop} {f:α->T} (H:∀ t,P t->∃ a,t=f a/\Q a):∀ (ts:List T),(∀ t∈ts,P t)->∃ as:List α,ts=as.map f/\∀ a∈as,Q a
 | [],_=>⟨[],rfl,fun _ h=>nomatch h⟩
 | t :: ts,h=>by
  obtain ⟨a,rfl,ha⟩:=H t (h t List.mem_cons_self)
  obtain ⟨as,rfl,has⟩:=YQ H ts fun u hu=>h u (List.mem_cons_of_mem _ hu)
  exact ⟨a :: as,rfl,fun b hb=>by
   rcases List.mem_cons.mp hb with rfl | hb
   ·exact ha
   ·exact has b hb⟩
theorem YR:∀ (d:Nat) (t:T),isK d t=true->∃ k:Kd,t=k.t/\k.Ok d
 | 0,_,h=>by cases h
 | d+1,t,h=>by
  have h:UP (isK d) t=true:=h
  unfold UP at h
  split at h
  ·rename_i hd r
   split at h
   ·rename_i e
    rw [WR e]
    unfold WQ at h
    split at h
    ·obtain ⟨i,j,rfl,rfl⟩:=ue h
     have h:(decide (-20<=i) && decide (i<=j) && decide (j<=20))=true:=h
     rw [Bool.and_eq_true,Bool.and_eq_true,decide_eq_true_eq,decide_eq_true_eq,decide_eq_true_eq] at h
     exact ⟨.whole i j,by simp only [Kd.t],h.1.1,h.1.2,h.2⟩
    ·cases h
   ·split at h
    ·rename_i e
     rw [WR e]
     unfold yO at h
     split at h
     ·rename_i c
      unfold yN at h
      split at h
      ·rename_i cs
       rw [Bool.and_eq_true,Bool.and_eq_true,Bool.and_eq_true,decide_eq_true_eq,decide_eq_true_eq,decide_eq_true_eq] at h
       obtain ⟨⟨⟨h1,h2⟩,h3⟩,h4⟩:=h
       obtain ⟨as,rfl,has⟩:=YQ (fun t ht=>V0 ht) cs fun c hc=>List.all_eq_true.mp h3 c hc
       rw [List.length_map] at h1 h2
       refine ⟨.pick as,by simp only [Kd.t],h1,h2,has, ?_⟩
       have e1:(as.map WT).map Z4=as.map (·.1):=by rw [List.map_map]; rfl
       rw [e1] at h4
       have:=(uA (as.map (·.1)) []).mp (by rw [h4,List.length_map,List.length_map]; simp)
       exact fun k w hw hm=>this k w hw (by simpa using hm)
      ·cases h
     ·cases h
    ·split at h
     ·rename_i e
      rw [WR e]
      unfold xX at h
      split at h
      ·rename_i c
       unfold uy at h
       split at h
       ·rename_i cs
        rw [Bool.and_eq_true,Bool.and_eq_true,decide_eq_true_eq,decide_eq_true_eq] at h
        obtain ⟨ks,rfl,hks⟩:=YQ (fun t ht=>YR d t ht) cs fun c hc=>List.all_eq_true.mp h.2 c hc
        rw [List.length_map] at h
        exact ⟨.row ks,by simp only [Kd.t,Kd.ts_map],h.1.1,h.1.2,hks⟩
       ·cases h
      ·cases h
     ·split at h
      ·rename_i e
       rw [WR e]
       unfold yP at h
       split at h
       ·rename_i c a b
        rw [Bool.and_eq_true] at h
        obtain ⟨h1,h2⟩:=h
        obtain ⟨i,j,rfl,rfl⟩:=ue h1
        obtain ⟨k,rfl,hk⟩:=YR d c h2
        have h1:(decide (0<=i) && decide (i<=j) && decide (j<=3))=true:=h1
        rw [Bool.and_eq_true,Bool.and_eq_true,decide_eq_true_eq,decide_eq_true_eq,decide_eq_true_eq] at h1
        obtain ⟨⟨a1,a2⟩,a3⟩:=h1
        obtain ⟨m,rfl⟩:=Int.eq_ofNat_of_zero_le a1
        obtain ⟨n,rfl⟩:=Int.eq_ofNat_of_zero_le (Int.le_trans a1 a2)
        exact ⟨.many k m n,by simp only [Kd.t],by omega,by omega,hk⟩
       ·cases h
      ·cases h
  ·cases h
noncomputable def Uc (made:List (List T)):List (List T)->List (List T)
 | []=>made
 | ls :: r=>Uc (made.flatMap fun a=>ls.map fun x=>a++[x]) r
noncomputable abbrev YS (ls:List (List T)):List T:=(Uc [[]] ls).map T.tup
mutual
noncomputable def Kd.all:Kd->List T
 | .whole lo hi=>(List.range (hi+1 - lo).toNat).map fun (i:Nat)=>T.int (lo+(i:Int))
 | .pick cs=>cs.map fun c=>T.str c.1
 | .row ks=>YS (Kd.alls ks)
 | .many k lo hi=>(List.range (hi+1 - lo)).flatMap fun i=>YS (List.replicate (lo+i) k.all)
noncomputable def Kd.alls:List Kd->List (List T)
 | []=>[]
 | k :: ks=>k.all :: Kd.alls ks
end
theorem Kd.alls_map:∀ ks:List Kd,Kd.alls ks=ks.map Kd.all
 | []=>by simp only [Kd.alls,List.map_nil]
 | k :: ks=>by simp only [Kd.alls,List.map_cons,Kd.alls_map ks]
end G
namespace G
open PySem L2 PV
noncomputable def prd:List Nat->Nat
 | []=>1
 | n :: r=>n*prd r
theorem UW:∀ {ns:List Nat},(∀ n∈ns,1<=n)->1<=prd ns
 | [],_=>Nat.le_refl _
 | n :: ns,h=>Nat.mul_pos (h n List.mem_cons_self) (UW fun m hm=>h m (List.mem_cons_of_mem _ hm))
theorem uh {α β:Type} (f:α->List β) (n:Nat):∀ as:List α,(∀ a∈as,(f a).length=n)->(as.flatMap f).length=as.length*n
 | [],_=>by simp
 | a :: as,h=>by
  rw [List.flatMap_cons,List.length_append,h a List.mem_cons_self,uh f n as fun b hb=>h b (List.mem_cons_of_mem _ hb),List.length_cons,Nat.add_mul,Nat.one_mul,Nat.add_comm]
theorem yW:∀ (ls:List (List T)) (made:List (List T)),(Uc made ls).length=made.length*prd (ls.map (·.length))
 | [],made=>by simp [Uc,prd]
 | l :: ls,made=>by
  rw [Uc,yW ls,uh _ l.length made fun a _=>List.length_map ..,List.map_cons,prd,Nat.mul_assoc]
noncomputable abbrev X6:En->RS:=VM 3 (Zf (JK (vE 2)) (zG 0) (j4) (zf zA (vE 1) (jh (z9 (vE 0) (zh)))) 1 [4])
theorem qE {L M:T} {l:List T} (hl:l.length<=bnd):∀ (as:List (List T)) (acc:List T) (x:Sl),(∀ a∈as,a.length<=1000)->acc.length+as.length*l.length<=bnd->
  ∃ y,Jl (zG 4) X6 (as.map T.tup) [.vl L, .vl M, .vl (.lst l), .ow acc,x]= .nx [.vl L, .vl M, .vl (.lst l), .ow (acc++(as.flatMap fun a=>l.map fun x=>a++[x]).map T.tup),y]
 | [],acc,x,_,_=>⟨x,by simp [Jl]⟩
 | a :: as,acc,x,ha,hb=>by
  have ha1:=ha a List.mem_cons_self
  have hb1:bnd=16777216:=rfl
  rw [List.length_cons,Nat.add_mul,Nat.one_mul] at hb
  have ec:zT (zG 0) j4 (zf zA (vE 1) (jh (z9 (vE 0) (zh)))) 1 [4] [.vl L, .vl M, .vl (.lst l), .ow acc, .vl (.tup a)] l= .ok (l.map fun x=>T.tup (a++[x])):=
   jo (h:=fun x=>T.tup (a++[x])) l hl fun x hx=>by
    show zf zA (vE 1) (jh (z9 (vE 0) (zh))) [.vl x, .vl (.tup a)]=_
    rw [zn,v1,bOk,GY v0,bOk]
    exact Uu (by rw [List.length_singleton]; omega)
  have eb:X6 [.vl L, .vl M, .vl (.lst l), .ow acc, .vl (.tup a)]= .nx [.vl L, .vl M, .vl (.lst l), .ow (acc++l.map fun x=>T.tup (a++[x])), .vl (.tup a)]:=by
   show ((Zf _ _ _ _ _ _ _).s fun t=>match t with | .lst us=>if acc.length+us.length<=bnd then RS.nx _ else .bad | _=> .bad)=_
   rw [Zg,JU,v2,bOk]
   show (((zT _ _ _ _ _ _ l).bind _).s _)=_
   rw [ec,bOk,ZK]
   show (if _ then _ else _)=_
   rw [if_pos (by rw [List.length_map]; omega)]
   rfl
  obtain ⟨y,ih⟩:=qE hl as (acc++l.map fun x=>T.tup (a++[x])) (.vl (.tup a)) (fun b hb=>ha b (List.mem_cons_of_mem _ hb)) (by rw [List.length_append,List.length_map]; omega)
  refine ⟨y, ?_⟩
  have e:Jl (zG 4) X6 ((a :: as).map T.tup) [.vl L, .vl M, .vl (.lst l), .ow acc,x]=match X6 [.vl L, .vl M, .vl (.lst l), .ow acc, .vl (.tup a)] with
   | .nx ρ2=>Jl (zG 4) X6 (as.map T.tup) ρ2
   | .ct ρ2=>Jl (zG 4) X6 (as.map T.tup) ρ2
   | .bk ρ2=> .nx ρ2
   | r=>r:=rfl
  rw [e,eb]
  dsimp only
  rw [ih,List.flatMap_cons,List.map_append,List.map_map,List.append_assoc]
  rfl
noncomputable abbrev yX:En->RS:=(zR (vm 3 (zh))
  (zR (WN (JK (vE 1)) (zG 4) X6)
  (mvS 1 3)))
theorem yY {L:T} (m:Nat):∀ (ls:List (List T)) (made:List (List T)) (k:Nat) (x y z:Sl),(∀ a∈made,a.length<=k)->k+ls.length<=1000->(∀ l∈ls,1<=l.length)->made.length*prd (ls.map (·.length))<=bnd->1<=made.length->
  ∃ x' y' z',Jl (zG 2) yX (ls.map T.lst) [.vl L, .vl (.lst (made.map T.tup)),x,y,z]= .nx [.vl L, .vl (.lst ((Uc made ls).map T.tup)),x',y',z']
 | [],made,k,x,y,z,_,_,_,_,_=>⟨x,y,z,by simp [Jl,Uc]⟩
 | l :: ls,made,k,x,y,z,hk,hkl,hpos,hb,hm=>by
  have hpr:1<=prd (ls.map (·.length)):=UW fun n hn=>by
   obtain ⟨l',hl',rfl⟩:=List.mem_map.mp hn
   exact hpos l' (List.mem_cons_of_mem _ hl')
  rw [List.map_cons,prd,← Nat.mul_assoc] at hb
  have hb1:made.length*l.length<=bnd:=Nat.le_trans (Nat.le_mul_of_pos_right _ hpr) hb
  have hll:l.length<=bnd:=Nat.le_trans (Nat.le_mul_of_pos_left _ hm) hb1
  rw [List.length_cons] at hkl
  obtain ⟨w,er⟩:=qE (L:=L) (M:= .lst (made.map T.tup)) hll made [] z (fun a ha=>Nat.le_trans (hk a ha) (by omega)) (by rw [List.length_nil]; omega)
  rw [List.nil_append] at er
  have es:yX [.vl L, .vl (.lst (made.map T.tup)), .vl (.lst l),y,z]= .nx [.vl L, .vl (.lst ((made.flatMap fun a=>l.map fun x=>a++[x]).map T.tup)), .vl (.lst l), .vl (.lst ((made.flatMap fun a=>l.map fun x=>a++[x]).map T.tup)),w]:=by
   have e0:vm 3 (zh) [.vl L, .vl (.lst (made.map T.tup)), .vl (.lst l),y,z]= .nx [.vl L, .vl (.lst (made.map T.tup)), .vl (.lst l), .ow [],z]:=rfl
   have e1:WN (JK (vE 1)) (zG 4) X6 [.vl L, .vl (.lst (made.map T.tup)), .vl (.lst l), .ow [],z]= .nx [.vl L, .vl (.lst (made.map T.tup)), .vl (.lst l), .ow ((made.flatMap fun a=>l.map fun x=>a++[x]).map T.tup),w]:=er
   unfold yX
   rw [zD,e0]
   dsimp only
   rw [zD,e1]
   rfl
  obtain ⟨x',y',z',ih⟩:=yY (L:=L) m ls (made.flatMap fun a=>l.map fun x=>a++[x]) (k+1) (.vl (.lst l)) (.vl (.lst ((made.flatMap fun a=>l.map fun x=>a++[x]).map T.tup))) w (fun a ha=>by
   obtain ⟨b,hb,hx⟩:=List.mem_flatMap.mp ha
   obtain ⟨u,_,rfl⟩:=List.mem_map.mp hx
   have:=hk b hb
   rw [List.length_append,List.length_singleton]; omega) (by omega) (fun l' hl' =>hpos l' (List.mem_cons_of_mem _ hl')) (by
    rw [uh _ l.length made fun a _=>List.length_map ..]; exact hb) (by
    rw [uh _ l.length made fun a _=>List.length_map ..]; exact Nat.mul_pos hm (hpos l List.mem_cons_self))
  refine ⟨x',y',z', ?_⟩
  have e:Jl (zG 2) yX ((l :: ls).map T.lst) [.vl L, .vl (.lst (made.map T.tup)),x,y,z]=match yX [.vl L, .vl (.lst (made.map T.tup)), .vl (.lst l),y,z] with
   | .nx ρ2=>Jl (zG 2) yX (ls.map T.lst) ρ2
   | .ct ρ2=>Jl (zG 2) yX (ls.map T.lst) ρ2
   | .bk ρ2=> .nx ρ2
   | r=>r:=rfl
  rw [e,es]
  exact ih
theorem V1 (ls:List (List T)) (hl:ls.length<=1000) (hpos:∀ l∈ls,1<=l.length) (hb:prd (ls.map (·.length))<=bnd):zg [.lst (ls.map T.lst)]= .ok (.lst (YS ls)):=by
 obtain ⟨x',y',z',er⟩:=yY (L:= .lst (ls.map T.lst)) 0 ls [[]] 0 .un .un .un (fun a ha=>by rw [List.mem_singleton.mp ha]; exact Nat.le_refl _) (by omega) hpos (by rw [List.length_singleton,Nat.one_mul]; exact hb) (Nat.le_refl _)
 have e:zg [.lst (ls.map T.lst)]=zp (jD [.vl (.lst (ls.map T.lst)), .un, .un, .un, .un]):=rfl
 have e0:Z3 1 (Jo (z9 (jh (zh)) (zh))) [.vl (.lst (ls.map T.lst)), .un, .un, .un, .un]= .nx [.vl (.lst (ls.map T.lst)), .vl (.lst [.tup []]), .un, .un, .un]:=rfl
 have e1:WN (JK (vE 0)) (zG 2) yX [.vl (.lst (ls.map T.lst)), .vl (.lst [.tup []]), .un, .un, .un]= .nx [.vl (.lst (ls.map T.lst)), .vl (.lst (YS ls)),x',y',z']:=er
 rw [e,jD,zD,e0]
 dsimp only
 rw [zD,e1]
 rfl
end G
namespace G
open PySem L2 PV
theorem UX (n:Nat):∀ m:Nat,prd (List.replicate m n)=n ^ m
 | 0=>rfl
 | m+1=>by rw [List.replicate_succ,prd,UX n m,Nat.pow_succ,Nat.mul_comm]
theorem UY (ls:List (List T)):(YS ls).length=prd (ls.map (·.length)):=by
 unfold YS
 rw [List.length_map,yW,List.length_singleton,Nat.one_mul]
noncomputable def pw (n lo hi:Nat):Nat:=((List.range (hi+1 - lo)).map fun i=>n ^ (lo+i)).sum
theorem ui (k:Kd) (lo hi:Nat):(Kd.many k lo hi).all.length=pw k.all.length lo hi:=by
 rw [Kd.all,List.length_flatMap,pw]
 congr 1
 refine List.map_congr_left fun i _=> ?_
 rw [UY,List.map_replicate,UX]
theorem UZ (ks:List Kd):(Kd.row ks).all.length=prd (ks.map fun k=>k.all.length):=by
 rw [Kd.all,UY,Kd.alls_map,List.map_map]; rfl
theorem uF (lo hi:Int):(Kd.whole lo hi).all.length=(hi+1 - lo).toNat:=by
 rw [Kd.all,List.length_map,List.length_range]
theorem qF (cs:List (Str×Int)):(Kd.pick cs).all.length=cs.length:=by
 rw [Kd.all,List.length_map]
theorem kI {lo hi:Nat} (h:lo<=hi) (h3:hi<=3):(lo=0/\hi=0)\/(lo=0/\hi=1)\/(lo=0/\hi=2)\/(lo=0/\hi=3)\/(lo=1/\hi=1)\/(lo=1/\hi=2)\/(lo=1/\hi=3)\/(lo=2/\hi=2)\/(lo=2/\hi=3)\/(lo=3/\hi=3):=by omega
noncomputable def iv (b:Bool):Nat:=if b then 1 else 0
theorem kJ (n:Nat) {lo hi:Nat} (h:lo<=hi) (h3:hi<=3):pw n lo hi=iv (lo == 0)+n*iv (decide (lo<=1) && decide (1<=hi))+n*n*iv (decide (lo<=2) && decide (2<=hi))+n*n*n*iv (hi == 3):=by
 rcases kI h h3 with ⟨rfl,rfl⟩ | ⟨rfl,rfl⟩ | ⟨rfl,rfl⟩ | ⟨rfl,rfl⟩ | ⟨rfl,rfl⟩ | ⟨rfl,rfl⟩ | ⟨rfl,rfl⟩ | ⟨rfl,rfl⟩ | ⟨rfl,rfl⟩ | ⟨rfl,rfl⟩ <;>
  simp [pw,List.range_succ,iv,Nat.pow_succ]
 all_goals omega
theorem gE {n:Nat} (hn:1<=n) {lo hi:Nat} (h:lo<=hi) (h3:hi<=3):1<=pw n lo hi:=by
 have h2:1<=n*n:=Nat.mul_pos hn hn
 have h1:1<=n*n*n:=Nat.mul_pos h2 hn
 rw [kJ n h h3]
 rcases kI h h3 with ⟨rfl,rfl⟩ | ⟨rfl,rfl⟩ | ⟨rfl,rfl⟩ | ⟨rfl,rfl⟩ | ⟨rfl,rfl⟩ | ⟨rfl,rfl⟩ | ⟨rfl,rfl⟩ | ⟨rfl,rfl⟩ | ⟨rfl,rfl⟩ | ⟨rfl,rfl⟩ <;>
  simp [iv] <;> omega
theorem z01 {n N:Nat} (hn:n<=N) {lo hi:Nat} (h:lo<=hi) (h3:hi<=3):pw n lo hi<=1+N+N*N+N*N*N:=by
 have h2:n*n<=N*N:=Nat.mul_le_mul hn hn
 have h1:n*n*n<=N*N*N:=Nat.mul_le_mul h2 hn
 rw [kJ n h h3]
 rcases kI h h3 with ⟨rfl,rfl⟩ | ⟨rfl,rfl⟩ | ⟨rfl,rfl⟩ | ⟨rfl,rfl⟩ | ⟨rfl,rfl⟩ | ⟨rfl,rfl⟩ | ⟨rfl,rfl⟩ | ⟨rfl,rfl⟩ | ⟨rfl,rfl⟩ | ⟨rfl,rfl⟩ <;>
  simp [iv] <;> omega
theorem X7 {N:Nat} (hN:1<=N):∀ (ns:List Nat),(∀ n∈ns,n<=N)->prd ns<=N ^ ns.length
 | [],_=>Nat.le_refl _
 | n :: ns,h=>by
  rw [prd,List.length_cons,Nat.pow_succ,Nat.mul_comm]
  exact Nat.mul_le_mul (X7 hN ns fun m hm=>h m (List.mem_cons_of_mem _ hm)) (h n List.mem_cons_self)
theorem wY:∀ (d:Nat) (k:Kd),k.Ok d->1<=k.all.length
 | 0,_,h=>h.elim
 | d+1, .whole lo hi,h=>by
  obtain ⟨_,h2,_⟩:=h
  rw [uF]; omega
 | d+1, .pick cs,h=>by
  rw [qF]; exact h.1
 | d+1, .row ks,h=>by
  rw [UZ]
  refine UW fun n hn=> ?_
  obtain ⟨k,hk,rfl⟩:=List.mem_map.mp hn
  exact wY d k (h.2.2 k hk)
 | d+1, .many k lo hi,h=>by
  rw [ui]
  exact gE (wY d k h.2.2) h.1 h.2.1
noncomputable def mx:Nat->Nat
 | 0=>0
 | 1=>41
 | d+1=>1+mx d+mx d*mx d+mx d*mx d*mx d
theorem X8 (d:Nat):41<=mx (d+1):=by
 induction d with
 | zero=>exact Nat.le_refl _
 | succ d ih=>
  show 41<=1+mx (d+1)+mx (d+1)*mx (d+1)+mx (d+1)*mx (d+1)*mx (d+1)
  omega
theorem V2 (d:Nat) (n:Nat) (h:n<=41):n<=mx (d+1):=Nat.le_trans h (X8 d)
theorem kK {N m:Nat} (hN:1<=N) (h:m<=3):N ^ m<=1+N+N*N+N*N*N:=by
 have:m=0\/m=1\/m=2\/m=3:=by omega
 rcases this with rfl | rfl | rfl | rfl <;> simp [Nat.pow_succ] <;> omega
theorem Uw:∀ (d:Nat) (k:Kd),k.Ok d->k.all.length<=mx d
 | 0,_,h=>h.elim
 | d+1, .whole lo hi,h=>by
  obtain ⟨h1,h2,h3⟩:=h
  rw [uF]; exact V2 d _ (by omega)
 | d+1, .pick cs,h=>by
  rw [qF]; exact V2 d _ (Nat.le_trans h.2.1 (by omega))
 | 1, .row ks,h=>by
  obtain ⟨h1,h2,h3⟩:=h
  match ks,h1,h3 with
  | k :: _,_,h3=>exact (h3 k List.mem_cons_self).elim
 | d+2, .row ks,h=>by
  obtain ⟨h1,h2,h3⟩:=h
  rw [UZ]
  have hp:=Nat.le_trans (by omega:1<=41) (X8 d)
  have:=X7 hp (ks.map fun k=>k.all.length) fun n hn=>by
   obtain ⟨k,hk,rfl⟩:=List.mem_map.mp hn
   exact Uw (d+1) k (h3 k hk)
  rw [List.length_map] at this
  exact Nat.le_trans this (kK hp h2)
 | 1, .many k lo hi,h=>h.2.2.elim
 | d+2, .many k lo hi,h=>by
  rw [ui]
  exact z01 (Uw (d+1) k h.2.2) h.1 h.2.1
end G
namespace G
open PySem L2 PV
theorem zI {f g:En->RS} {ρ ρ' :En} (h:f ρ= .nx ρ'):zR f g ρ=g ρ' :=by rw [zD,h]
theorem cs0 {x w:Str} {r:List T} {ρ:En}:Zl eqC (zf ixT (vE 0) (cE (.int 0))) (cE (.str w)) (.vl (.tup (.str x :: r)) :: ρ)= .ok (x == w):=by
 rw [ZX,zn,v0,bOk,ZE,bOk,at0,bOk,ZE,bOk,eqS]; rfl
theorem V3 {a b:T} {r:List T} {ρ:En}:zf ixT (vE 0) (cE (.int 1)) (.vl (.tup (a :: b :: r)) :: ρ)= .ok b:=by
 rw [zn,v0,bOk,ZE,bOk,at1]
theorem kL {a b c:T} {r:List T} {ρ:En}:zf ixT (vE 0) (cE (.int 2)) (.vl (.tup (a :: b :: c :: r)) :: ρ)= .ok c:=by
 rw [zn,v0,bOk,ZE,bOk,at2]
theorem gF {a b c d:T} {r:List T} {ρ:En}:zf ixT (vE 0) (cE (.int 3)) (.vl (.tup (a :: b :: c :: d :: r)) :: ρ)= .ok d:=by
 rw [zn,v0,bOk,ZE,bOk,at3]
theorem gG {f:En->R T} {ρ:En} {i:Int} (h:f ρ= .ok (.int i)):zf zA f (cE (.int 1)) ρ= .ok (.int (i+1)):=by
 rw [zn,h,bOk,ZE,bOk,ZR]
theorem V4 {f g:En->R T} {ρ:En} {i j:Int} (hf:f ρ= .ok (.int i)) (hg:g ρ= .ok (.int j)) (h: -1000000 < i/\i < 1000000/\ -1000000 < j/\j < 1000000):U7 f g ρ= .ok (rng i (j - i).toNat):=by
 unfold U7
 rw [hf,bOk,hg,bOk]
 exact if_pos h
theorem V5:∀ (cs:List (Str×Int)) (x y:Sl),zY (jI 0 1) j4 (vE 0) (cs.map WT) [x,y]= .ok (cs.map fun c=>T.str c.1)
 | [],_,_=>rfl
 | c :: cs,x,y=>by
  have e:zY (jI 0 1) j4 (vE 0) ((c :: cs).map WT) [x,y]=(zY (jI 0 1) j4 (vE 0) (cs.map WT) [.vl (.str c.1), .vl (.int c.2)]).bind fun vs=> .ok (.str c.1 :: vs):=rfl
  rw [e,V5 cs]; rfl
theorem X9 {x:T} {m:Nat} (h:m<=3):Zw (.lst [x]) (.int (m:Int))= .ok (.lst (List.replicate m [x]).flatten):=by
 unfold Zw
 dsimp only
 have c:0<=(m:Int)/\(m:Int) < 1000000/\[x].length*(m:Int).toNat<=bnd:=by
  have hb:3<=bnd:=by decide
  refine ⟨by omega,by omega, ?_⟩
  rw [List.length_singleton,Int.toNat_natCast,Nat.one_mul]
  exact Nat.le_trans h hb
 rw [if_pos c,Int.toNat_natCast]
theorem y0 {α:Type} (x:α):∀ m:Nat,(List.replicate m [x]).flatten=List.replicate m x
 | 0=>rfl
 | m+1=>by rw [List.replicate_succ,List.replicate_succ,List.flatten_cons,y0 x m]; rfl
noncomputable abbrev Ud (ca cr:List T->R T):En->RS:=VM 1 (zd 1 cr (z9 (zf Zw (Jo (z9 (zd 1 ca (z9 (zf ixT (vE 0) (cE (.int 1))) (zh))) (zh))) (vE 2)) (zh)))
theorem lst1 {f:En->R T} {ρ:En} {x:T} (hf:f ρ= .ok x):Jo (z9 f zh) ρ= .ok (.lst [x]):=by
 unfold Jo z9 zh
 rw [hf]; rfl
theorem yZ {ca:List T->R T} {k:Kd} {t:T} {lo:Nat} {ws:List T} (hw:ca [t]= .ok (.lst ws)) (hpos:1<=ws.length) {a b c:T}:∀ (js:List Nat) (acc:List T) (x:Sl),(∀ j∈js,lo+j<=3)->acc.length+(js.map fun j=>ws.length ^ (lo+j)).sum<=bnd->
  ∃ y,Jl (zG 2) (Ud ca zg) (js.map fun (j:Nat)=>T.int ((lo:Int)+(j:Int))) [.vl (.tup [a,t,b,c]), .ow acc,x]= .nx [.vl (.tup [a,t,b,c]), .ow (acc++js.flatMap fun j=>YS (List.replicate (lo+j) ws)),y]
 | [],acc,x,_,_=>⟨x,by simp [Jl]⟩
 | j :: js,acc,x,hj,hb=>by
  have hj1:=hj j List.mem_cons_self
  have hb1:bnd=16777216:=rfl
  rw [List.map_cons,List.sum_cons] at hb
  have er:zg [.lst ((List.replicate (lo+j) ws).map T.lst)]= .ok (.lst (YS (List.replicate (lo+j) ws))):=V1 _ (by rw [List.length_replicate]; omega) (fun l hl=>by rw [List.eq_of_mem_replicate hl]; exact hpos) (by rw [List.map_replicate,UX]; omega)
  have hlen:(YS (List.replicate (lo+j) ws)).length=ws.length ^ (lo+j):=by rw [UY,List.map_replicate,UX]
  have em:Zw (.lst [.lst ws]) (.int ((lo:Int)+(j:Int)))= .ok (.lst ((List.replicate (lo+j) ws).map T.lst)):=by
   have e1:(lo:Int)+(j:Int)=((lo+j:Nat):Int):=by omega
   rw [e1,X9 (by omega),y0,List.map_replicate]
  have eb:Ud ca zg [.vl (.tup [a,t,b,c]), .ow acc, .vl (.int ((lo:Int)+(j:Int)))]= .nx [.vl (.tup [a,t,b,c]), .ow (acc++YS (List.replicate (lo+j) ws)), .vl (.int ((lo:Int)+(j:Int)))]:=by
   have e1:zd 1 zg (z9 (zf Zw (Jo (z9 (zd 1 ca (z9 (zf ixT (vE 0) (cE (.int 1))) (zh))) (zh))) (vE 2)) (zh)) [.vl (.tup [a,t,b,c]), .ow acc, .vl (.int ((lo:Int)+(j:Int)))]= .ok (.lst (YS (List.replicate (lo+j) ws))):=by
    have e0:zd 1 ca (z9 (zf ixT (vE 0) (cE (.int 1))) (zh)) [.vl (.tup [a,t,b,c]), .ow acc, .vl (.int ((lo:Int)+(j:Int)))]= .ok (.lst ws):=by
     rw [JT,V3,bOk,hw]
    rw [JT,zn,lst1 e0,bOk,v2,bOk,em,bOk,er]
   show ((zd 1 zg _ _).s fun t=>match t with | .lst us=>if acc.length+us.length<=bnd then RS.nx _ else .bad | _=> .bad)=_
   rw [e1,ZK]
   show (if _ then _ else _)=_
   rw [if_pos (by rw [hlen]; omega)]
   rfl
  obtain ⟨y,ih⟩:=yZ (k:=k) hw hpos (a:=a) (b:=b) (c:=c) js (acc++YS (List.replicate (lo+j) ws)) (.vl (.int ((lo:Int)+(j:Int)))) (fun i hi=>hj i (List.mem_cons_of_mem _ hi)) (by rw [List.length_append,hlen]; omega)
  refine ⟨y, ?_⟩
  have e:Jl (zG 2) (Ud ca zg) ((j :: js).map fun (j:Nat)=>T.int ((lo:Int)+(j:Int))) [.vl (.tup [a,t,b,c]), .ow acc,x]=match Ud ca zg [.vl (.tup [a,t,b,c]), .ow acc, .vl (.int ((lo:Int)+(j:Int)))] with
   | .nx ρ2=>Jl (zG 2) (Ud ca zg) (js.map fun (j:Nat)=>T.int ((lo:Int)+(j:Int))) ρ2
   | .ct ρ2=>Jl (zG 2) (Ud ca zg) (js.map fun (j:Nat)=>T.int ((lo:Int)+(j:Int))) ρ2
   | .bk ρ2=> .nx ρ2
   | r=>r:=rfl
  rw [e,eb]
  dsimp only
  rw [ih,List.flatMap_cons,List.append_assoc]
theorem xr {ca:List T->R T} {a t:T} {lo hi:Nat} (h1:lo<=hi) (h2:hi<=3) {x:Sl} {acc:List T} {r:RS}
  (el:Jl (zG 2) (Ud ca zg) ((List.range (hi+1 - lo)).map fun (j:Nat)=>T.int ((lo:Int)+(j:Int))) [.vl (.tup [a,t, .int (lo:Int), .int (hi:Int)]), .ow acc,x]=r):
  WN (U7 (zf ixT (vE 0) (cE (.int 2))) (zf zA (zf ixT (vE 0) (cE (.int 3))) (cE (.int 1)))) (zG 2) (Ud ca zg) [.vl (.tup [a,t, .int (lo:Int), .int (hi:Int)]), .ow acc,x]=r:=by
 have hn:((hi:Int)+1 - (lo:Int)).toNat=hi+1 - lo:=by omega
 have hc: -1000000 < (lo:Int)/\(lo:Int) < 1000000/\ -1000000 < (hi:Int)+1/\(hi:Int)+1 < 1000000:=by omega
 have e:WN (U7 (zf ixT (vE 0) (cE (.int 2))) (zf zA (zf ixT (vE 0) (cE (.int 3))) (cE (.int 1)))) (zG 2) (Ud ca zg) [.vl (.tup [a,t, .int (lo:Int), .int (hi:Int)]), .ow acc,x]=(U7 (zf ixT (vE 0) (cE (.int 2))) (zf zA (zf ixT (vE 0) (cE (.int 3))) (cE (.int 1))) [.vl (.tup [a,t, .int (lo:Int), .int (hi:Int)]), .ow acc,x]).s fun ts=>Jl (zG 2) (Ud ca zg) ts [.vl (.tup [a,t, .int (lo:Int), .int (hi:Int)]), .ow acc,x]:=rfl
 rw [e,V4 kL (gG gF) hc,ZK,hn]
 exact el
theorem gH {n L lo hi:Nat} (e:L=pw n lo hi) (h:L<=1000000):([]:List T).length+((List.range (hi+1 - lo)).map fun j=>n ^ (lo+j)).sum<=bnd:=by
 have h' :pw n lo hi<=bnd:=Nat.le_trans (e ▸ h) (by decide)
 unfold pw at h'
 rw [List.length_nil,Nat.zero_add]
 exact h'
theorem V6 {ca:List T->R T} (d:Nat) (lo hi:Int) (h:(Kd.whole lo hi).Ok (d+1)) (hl:(Kd.whole lo hi).all.length<=1000000) (H:∀ k' :Kd,k'.Ok d->ca [k'.t]= .ok (.lst k'.all)):zp (zx ca zg (en0 3 [(Kd.whole lo hi).t]))= .ok (.lst (Kd.whole lo hi).all):=by
 have hb1:bnd=16777216:=rfl
 have e:zp (zx ca zg (en0 3 [(Kd.whole lo hi).t]))=zp (zx ca zg [.vl (Kd.whole lo hi).t, .un, .un]):=rfl
 rw [e,zx,zD,jp]
 obtain ⟨h1,h2,h3⟩:=h
 simp only [Kd.t]
 rw [cs0,ZK,show (("whole":Str) == "whole")=true from rfl,if_pos rfl,Zd,jK,WE,WE,JB]
 unfold G7
 rw [V4 V3 (gG kL) ⟨by omega,by omega,by omega,by omega⟩]
 rw [Kd.all]
 rfl
theorem xt {ca:List T->R T} (d:Nat) (cs:List (Str×Int)) (h:(Kd.pick cs).Ok (d+1)) (hl:(Kd.pick cs).all.length<=1000000) (H:∀ k' :Kd,k'.Ok d->ca [k'.t]= .ok (.lst k'.all)):zp (zx ca zg (en0 3 [(Kd.pick cs).t]))= .ok (.lst (Kd.pick cs).all):=by
 have hb1:bnd=16777216:=rfl
 have e:zp (zx ca zg (en0 3 [(Kd.pick cs).t]))=zp (zx ca zg [.vl (Kd.pick cs).t, .un, .un]):=rfl
 rw [e,zx,zD,jp]
 simp only [Kd.t]
 rw [cs0,ZK,show (("pick":Str) == "whole")=false from rfl,if_neg Bool.false_ne_true,Uv]
 dsimp only
 rw [zD,jp,cs0,ZK,show (("pick":Str) == "pick")=true from rfl,if_pos rfl,Zd,jK,WE,WE,JB,Zg,JU,V3,bOk]
 have hc:cs.length<=4:=h.2.1
 have ec:zT (jI 0 1) j4 (vE 0) 2 [] [.vl (.tup [.str "pick", .tup (cs.map WT)]), .un, .un] (cs.map WT)= .ok (cs.map fun c=>T.str c.1):=by
  unfold zT
  rw [if_pos (by rw [List.length_map]; omega)]
  show quiet (zY (jI 0 1) j4 (vE 0) (cs.map WT) [.un, .un])=_
  rw [V5]; rfl
 show zp (match ((((R.ok (cs.map WT)).bind fun ts=>(zT (jI 0 1) j4 (vE 0) 2 [] [.vl (.tup [.str "pick", .tup (cs.map WT)]), .un, .un] ts).bind fun vs=> .ok (.lst vs))).s fun t=> .rt t) with | .nx ρ' =>_ | r=>r)=_
 rw [bOk,ec]
 rw [Kd.all]
 rfl
theorem kM {ca:List T->R T} (d:Nat) (ks:List Kd) (h:(Kd.row ks).Ok (d+1)) (hl:(Kd.row ks).all.length<=1000000) (H:∀ k' :Kd,k'.Ok d->ca [k'.t]= .ok (.lst k'.all)):zp (zx ca zg (en0 3 [(Kd.row ks).t]))= .ok (.lst (Kd.row ks).all):=by
 have hb1:bnd=16777216:=rfl
 have e:zp (zx ca zg (en0 3 [(Kd.row ks).t]))=zp (zx ca zg [.vl (Kd.row ks).t, .un, .un]):=rfl
 rw [e,zx,zD,jp]
 obtain ⟨h1,h2,h3⟩:=h
 simp only [Kd.t]
 rw [cs0,ZK,show (("row":Str) == "whole")=false from rfl,if_neg Bool.false_ne_true,Uv]
 dsimp only
 rw [zD,jp,cs0,ZK,show (("row":Str) == "pick")=false from rfl,if_neg Bool.false_ne_true,Uv]
 dsimp only
 rw [zD,jp,cs0,ZK,show (("row":Str) == "row")=true from rfl,if_pos rfl,Zd,jK,WE,WE,JB,JT,Zg,JU,V3,bOk,Kd.ts_map]
 have ec:zT (zG 0) j4 (zd 1 ca (z9 (vE 0) (zh))) 1 [] [.vl (.tup [.str "row", .tup (ks.map Kd.t)]), .un, .un] (ks.map Kd.t)= .ok ((ks.map Kd.all).map T.lst):=by
  unfold zT
  rw [if_pos (by rw [List.length_map]; omega)]
  show quiet (zY (zG 0) j4 _ (ks.map Kd.t) [.un])=_
  have:∀ (ks:List Kd) (x:Sl),(∀ k∈ks,k.Ok d)->zY (zG 0) j4 (zd 1 ca (z9 (vE 0) (zh))) (ks.map Kd.t) [x]= .ok ((ks.map Kd.all).map T.lst):=by
   intro ks
   induction ks with
   | nil=>intro _ _; rfl
   | cons k ks ih=>
    intro x hk
    have e1:zY (zG 0) j4 (zd 1 ca (z9 (vE 0) (zh))) ((k :: ks).map Kd.t) [x]=(zd 1 ca (z9 (vE 0) (zh)) [.vl k.t]).bind fun v=>(zY (zG 0) j4 (zd 1 ca (z9 (vE 0) (zh))) (ks.map Kd.t) [.vl k.t]).bind fun vs=> .ok (v :: vs):=rfl
    rw [e1,JT,v0,bOk,H k (hk k List.mem_cons_self),bOk,ih _ fun k' hk' =>hk k' (List.mem_cons_of_mem _ hk')]
    rfl
  rw [this ks .un h3]; rfl
 have hrow:=UZ ks
 have er:zg [.lst ((ks.map Kd.all).map T.lst)]= .ok (.lst (YS (ks.map Kd.all))):=V1 _ (by rw [List.length_map]; omega) (fun l hl=>by
  obtain ⟨k,hk,rfl⟩:=List.mem_map.mp hl
  exact wY d k (h3 k hk)) (by
  rw [List.map_map]
  show prd (ks.map fun k=>k.all.length)<=bnd
  omega)
 show zp (match ((((R.ok (ks.map Kd.t)).bind fun ts=>(zT (zG 0) j4 (zd 1 ca (z9 (vE 0) (zh))) 1 [] [.vl (.tup [.str "row", .tup (ks.map Kd.t)]), .un, .un] ts).bind fun vs=> .ok (.lst vs)).bind fun x=>zg [x]).s fun t=> .rt t) with | .nx ρ' =>_ | r=>r)=_
 rw [bOk,ec,bOk,bOk,er,Kd.all,Kd.alls_map]
 rfl
theorem xu {ca:List T->R T} (d:Nat) (k:Kd) (lo hi:Nat) (h:(Kd.many k lo hi).Ok (d+1)) (hl:(Kd.many k lo hi).all.length<=1000000) (H:∀ k' :Kd,k'.Ok d->ca [k'.t]= .ok (.lst k'.all)):zp (zx ca zg (en0 3 [(Kd.many k lo hi).t]))= .ok (.lst (Kd.many k lo hi).all):=by
 have hb1:bnd=16777216:=rfl
 have e:zp (zx ca zg (en0 3 [(Kd.many k lo hi).t]))=zp (zx ca zg [.vl (Kd.many k lo hi).t, .un, .un]):=rfl
 rw [e,zx,zD,jp]
 obtain ⟨h1,h2,h3⟩:=h
 have hml:=ui k lo hi
 simp only [Kd.t]
 rw [cs0,ZK,show (("many":Str) == "whole")=false from rfl,if_neg Bool.false_ne_true,Uv]
 dsimp only
 rw [zD,jp,cs0,ZK,show (("many":Str) == "pick")=false from rfl,if_neg Bool.false_ne_true,Uv]
 dsimp only
 rw [zD,jp,cs0,ZK,show (("many":Str) == "row")=false from rfl,if_neg Bool.false_ne_true,Uv]
 dsimp only
 have e0:vm 1 (zh) [.vl (.tup [.str "many",k.t, .int (lo:Int), .int (hi:Int)]), .un, .un]= .nx [.vl (.tup [.str "many",k.t, .int (lo:Int), .int (hi:Int)]), .ow [], .un]:=rfl
 rw [zD,e0]
 dsimp only
 obtain ⟨y,el⟩:=yZ (k:=k) (lo:=lo) (H k h3) (wY d k h3) (a:= .str "many") (b:= .int (lo:Int)) (c:= .int (hi:Int)) (List.range (hi+1 - lo)) [] .un (fun j hj=>by have:=List.mem_range.mp hj; omega) (gH hml hl)
 have e1:=xr (ca:=ca) (t:=k.t) h1 h2 el
 rw [List.nil_append] at e1
 rw [zI e1,Kd.all]
 rfl
theorem xv {ca:List T->R T} (d:Nat) (k:Kd) (h:k.Ok (d+1)) (hl:k.all.length<=1000000) (H:∀ k' :Kd,k'.Ok d->ca [k'.t]= .ok (.lst k'.all)):zp (zx ca zg (en0 3 [k.t]))= .ok (.lst k.all):=by
 cases k with
 | whole lo hi=>exact V6 d lo hi h hl H
 | pick cs=>exact xt d cs h hl H
 | row ks=>exact kM d ks h hl H
 | many k lo hi=>exact xu d k lo hi h hl H
theorem V7:∀ (d n:Nat),d<=n->d<=3->∀ k:Kd,k.Ok d->k.all.length<=1000000->jV n 0 [k.t]= .ok (.lst k.all)
 | 0,_,_,_,_,h,_=>h.elim
 | d+1,0,hn,_,_,_,_=>by omega
 | d+1,n+1,hn,hd,k,h,hl=>by
  have e:jV (n+1) 0 [k.t]=zp (zx (jV n 0) zg (en0 3 [k.t])):=rfl
  rw [e]
  refine xv d k h hl fun k' hk' =>V7 d n (by omega) (by omega) k' hk' ?_
  have h1:=Uw d k' hk'
  have:mx d<=1000000:=by
   have:d=0\/d=1\/d=2:=by omega
   rcases this with rfl | rfl | rfl <;> decide
  omega
end G
namespace G
open PySem L2 PV
theorem in2 {x a b:Str} {r:List T} {ρ:En}:Zl inC (zf ixT (vE 0) (cE (.int 0))) (jh (z9 (cE (.str a)) (z9 (cE (.str b)) (zh)))) (.vl (.tup (.str x :: r)) :: ρ)=inC (.str x) (.tup [.str a, .str b]):=by
 rw [ZX,zn,v0,bOk,ZE,bOk,at0,bOk,kB ZE ZE,bOk]
theorem K2 {g:En->R Bool} {f1 f2:En->RS} {ρ:En} (h:g ρ= .ok true):ifS g f1 f2 ρ=f1 ρ:=by rw [jp,h,ZK,if_pos rfl]
theorem if_f {g:En->R Bool} {f1 f2:En->RS} {ρ:En} (h:g ρ= .ok false):ifS g f1 f2 ρ=f2 ρ:=by rw [jp,h,ZK,if_neg Bool.false_ne_true]
theorem y3 {g:En->R Bool} {f1:En->RS} {ρ:En} (h:g ρ= .ok false):ifS g f1 nxS ρ= .nx ρ:=by rw [if_f h]; rfl
theorem jx {i:Nat} {f:En->R T} {ρ:En} {t:T} (h:f ρ= .ok t):Z3 i f ρ= .nx (ρ.set i (.vl t)):=by rw [jL,h,ZK]
theorem Jb {f:En->R T} {ρ:En} {t:T} (h:f (frz ρ)= .ok t):Zc f ρ= .rt t:=by rw [Zd,h,ZK]
theorem V8 {g:T->En->R En} {fb:En->RS} {t:T} {ts:List T} {ρ ρ1 ρ2:En} (hg:g t ρ= .ok ρ1) (hb:fb ρ1= .nx ρ2):Jl g fb (t :: ts) ρ=Jl g fb ts ρ2:=by
 rw [Jl,hg]
 dsimp only
 rw [hb]
theorem WU {f g:En->RS} {ρ:En} {t:T} (h:f ρ= .rt t):zR f g ρ= .rt t:=by rw [zD,h]
theorem Xa {i j:Nat} (h:i < 2 ^ 60):Zw (.int (i:Int)) (.int (j:Int))= .ok (.int ((i*j:Nat):Int)):=by
 rw [Qa _ _ (.inl ⟨by omega,by omega⟩),Int.natCast_mul]
theorem z02 {d n:Nat} (h:n<=mx d) (hd:d<=3):n < 2 ^ 60:=by
 have:d=0\/d=1\/d=2\/d=3:=by omega
 have h3:mx 3 < 2 ^ 60:=by decide
 have h2:mx 2 < 2 ^ 60:=by decide
 have h1:mx 1 < 2 ^ 60:=by decide
 have h0:mx 0 < 2 ^ 60:=by decide
 rcases this with rfl | rfl | rfl | rfl <;> omega
theorem qG {a b:Sl}:∀ (ns:List Nat) (m:Nat) (x y:Sl),(∀ n∈ns,1<=n)->m*prd ns < 2 ^ 60->∃ x',Jl (zG 3) (Z3 2 (zf Zw (vE 2) (vE 3))) (ns.map fun (n:Nat)=>T.int (n:Int)) [a,b, .vl (.int (m:Int)),x,y]= .nx [a,b, .vl (.int ((m*prd ns:Nat):Int)),x',y]
 | [],m,x,y,_,_=>⟨x,by simp [Jl,prd]⟩
 | n :: ns,m,x,y,hp,hb=>by
  have hpr:=UW (ns:=ns) fun k hk=>hp k (List.mem_cons_of_mem _ hk)
  have hn:=hp n List.mem_cons_self
  have hmm:m<=m*prd (n :: ns):=Nat.le_mul_of_pos_right _ (Nat.mul_pos hn hpr)
  have hb2:m < 2 ^ 60:=Nat.lt_of_le_of_lt hmm hb
  rw [prd,← Nat.mul_assoc] at hb
  obtain ⟨x',ih⟩:=qG (a:=a) (b:=b) ns (m*n) (.vl (.int (n:Int))) y (fun k hk=>hp k (List.mem_cons_of_mem _ hk)) hb
  refine ⟨x', ?_⟩
  have es:Z3 2 (zf Zw (vE 2) (vE 3)) [a,b, .vl (.int (m:Int)), .vl (.int (n:Int)),y]= .nx [a,b, .vl (.int ((m*n:Nat):Int)), .vl (.int (n:Int)),y]:=by
   rw [jL,zn,v2,bOk,v3,bOk,Xa hb2,ZK]; rfl
  have s3:zG 3 (T.int (n:Int)) [a,b, .vl (.int (m:Int)),x,y]= .ok [a,b, .vl (.int (m:Int)), .vl (.int (n:Int)),y]:=rfl
  rw [List.map_cons,V8 s3 es,prd,← Nat.mul_assoc]
  exact ih
theorem xw:∀ (d:Nat) (lo hi:Int),(Kd.whole lo hi).Ok (d+1)->(Kd.whole lo hi).Ok 1
 | _,_,_,h=>h
theorem xx:∀ (d:Nat) (cs:List (Str×Int)),(Kd.pick cs).Ok (d+1)->(Kd.pick cs).Ok 1
 | _,_,h=>h
theorem Y0 {cs:List T->R T} (k:Kd) (h:k.Ok 1) {x:Str} {r:List T} (ht:k.t= .tup (.str x :: r)) (hx:inC (.str x) (.tup [.str "whole", .str "pick"])= .ok true):zp (zH (zE 8) cs (en0 5 [k.t]))= .ok (.int (k.all.length:Int)):=by
 have ha:zE 8 [k.t]= .ok (.lst k.all):=V7 1 8 (by omega) (by omega) k h (Nat.le_trans (Uw 1 k h) (by decide))
 have e:zp (zH (zE 8) cs (en0 5 [k.t]))=zp (zH (zE 8) cs [.vl k.t, .un, .un, .un, .un]):=rfl
 have e1:Zl inC (zf ixT (vE 0) (cE (.int 0))) (jh (z9 (cE (.str "whole")) (z9 (cE (.str "pick")) (zh)))) [.vl k.t, .un, .un, .un, .un]= .ok true:=by
  rw [ht,in2,hx]
 have e2:Zc (ap1 ZI (zd 1 (zE 8) (z9 (vE 0) (zh)))) [.vl k.t, .un, .un, .un, .un]= .rt (.int (k.all.length:Int)):=by
  refine Jb ?_
  rw [jK,jA,JT,v0,bOk,ha,bOk,vJ]
 rw [e,zH,WU (by rw [K2 e1,e2])]
 rfl
theorem z03 (b:Bool):b2 b=(iv b:Int):=by cases b <;> rfl
theorem xy {cs:List T->R T} {d:Nat} (hd:d+1<=3) (ks:List Kd) (h:(Kd.row ks).Ok (d+1)) (H:∀ k:Kd,k.Ok d->cs [k.t]= .ok (.int (k.all.length:Int))):zp (zH (zE 8) cs (en0 5 [(Kd.row ks).t]))= .ok (.int ((Kd.row ks).all.length:Int)):=by
 have hlt:=z02 (Uw (d+1) (.row ks) h) hd
 rw [UZ] at hlt ⊢
 obtain ⟨h1,h2,h3⟩:=h
 simp only [Kd.t,Kd.ts_map]
 have e:zp (zH (zE 8) cs (en0 5 [.tup [.str "row", .tup (ks.map Kd.t)]]))=zp (zH (zE 8) cs [.vl (.tup [.str "row", .tup (ks.map Kd.t)]), .un, .un, .un, .un]):=rfl
 have e1:Zl inC (zf ixT (vE 0) (cE (.int 0))) (jh (z9 (cE (.str "whole")) (z9 (cE (.str "pick")) (zh)))) [.vl (.tup [.str "row", .tup (ks.map Kd.t)]), .un, .un, .un, .un]= .ok false:=by
  rw [in2]; rfl
 have ec:zT (zG 0) j4 (zd 1 cs (z9 (vE 0) (zh))) 1 [] [.vl (.tup [.str "row", .tup (ks.map Kd.t)]), .un, .un, .un, .un] (ks.map Kd.t)= .ok ((ks.map fun k=>k.all.length).map fun (n:Nat)=>T.int (n:Int)):=by
  unfold zT
  rw [if_pos (by rw [List.length_map]; exact Nat.le_trans h2 (by decide))]
  have:∀ (ks:List Kd) (x:Sl),(∀ k∈ks,k.Ok d)->zY (zG 0) j4 (zd 1 cs (z9 (vE 0) (zh))) (ks.map Kd.t) [x]= .ok ((ks.map fun k=>k.all.length).map fun (n:Nat)=>T.int (n:Int)):=by
   intro ks
   induction ks with
   | nil=>intro _ _; rfl
   | cons k ks ih=>
    intro x hk
    have e1:zY (zG 0) j4 (zd 1 cs (z9 (vE 0) (zh))) ((k :: ks).map Kd.t) [x]=(zd 1 cs (z9 (vE 0) (zh)) [.vl k.t]).bind fun v=>(zY (zG 0) j4 (zd 1 cs (z9 (vE 0) (zh))) (ks.map Kd.t) [.vl k.t]).bind fun vs=> .ok (v :: vs):=rfl
    rw [e1,JT,v0,bOk,H k (hk k List.mem_cons_self),bOk,ih _ fun k' hk' =>hk k' (List.mem_cons_of_mem _ hk')]
    rfl
  show quiet (zY (zG 0) j4 _ (ks.map Kd.t) [.un])=_
  rw [this ks .un h3]; rfl
 have e2:ifE (Zl eqC (zf ixT (vE 0) (cE (.int 0))) (cE (.str "row"))) (Zf (JK (zf ixT (vE 0) (cE (.int 1)))) (zG 0) (j4) (zd 1 cs (z9 (vE 0) (zh))) 1 []) (Jo (zh)) [.vl (.tup [.str "row", .tup (ks.map Kd.t)]), .un, .un, .un, .un]= .ok (.lst ((ks.map fun k=>k.all.length).map fun (n:Nat)=>T.int (n:Int))):=by
  unfold ifE
  rw [cs0,bOk,show (("row":Str) == "row")=true from rfl,if_pos rfl,Zg,JU,V3,bOk]
  show ((R.ok (ks.map Kd.t)).bind _)=_
  rw [bOk,ec,bOk]
 obtain ⟨x',el⟩:=qG (a:= .vl (.tup [.str "row", .tup (ks.map Kd.t)])) (b:= .vl (.lst ((ks.map fun k=>k.all.length).map fun (n:Nat)=>T.int (n:Int)))) (ks.map fun k=>k.all.length) 1 .un .un (fun n hn=>by
  obtain ⟨k,hk,rfl⟩:=List.mem_map.mp hn
  exact wY d k (h3 k hk)) (by rw [Nat.one_mul]; exact hlt)
 rw [Nat.one_mul] at el
 have e3:WN (JK (vE 1)) (zG 3) (Z3 2 (zf Zw (vE 2) (vE 3))) [.vl (.tup [.str "row", .tup (ks.map Kd.t)]), .vl (.lst ((ks.map fun k=>k.all.length).map fun (n:Nat)=>T.int (n:Int))), .vl (.int 1), .un, .un]=_:=el
 have e4:Zl eqC (zf ixT (vE 0) (cE (.int 0))) (cE (.str "many")) [.vl (.tup [.str "row", .tup (ks.map Kd.t)]), .vl (.lst ((ks.map fun k=>k.all.length).map fun (n:Nat)=>T.int (n:Int))), .vl (.int ((prd (ks.map fun k=>k.all.length):Nat):Int)),x', .un]= .ok false:=by
  rw [cs0]; rfl
 rw [e,zH,zI (y3 e1),zI (jx e2)]
 have s1:([.vl (.tup [.str "row", .tup (ks.map Kd.t)]), .un, .un, .un, .un]:En).set 1 (.vl (.lst ((ks.map fun k=>k.all.length).map fun (n:Nat)=>T.int (n:Int))))=[.vl (.tup [.str "row", .tup (ks.map Kd.t)]), .vl (.lst ((ks.map fun k=>k.all.length).map fun (n:Nat)=>T.int (n:Int))), .un, .un, .un]:=rfl
 rw [s1,zI (jx ZE)]
 have s2:([.vl (.tup [.str "row", .tup (ks.map Kd.t)]), .vl (.lst ((ks.map fun k=>k.all.length).map fun (n:Nat)=>T.int (n:Int))), .un, .un, .un]:En).set 2 (.vl (.int 1))=[.vl (.tup [.str "row", .tup (ks.map Kd.t)]), .vl (.lst ((ks.map fun k=>k.all.length).map fun (n:Nat)=>T.int (n:Int))), .vl (.int 1), .un, .un]:=rfl
 rw [s2,zI e3,zI (y3 e4)]
 rfl
end G
namespace G
open PySem L2 PV
theorem gI {f g:En->R T} {ρ:En} {i j c:Int} (hf:f ρ= .ok (.int i)) (hg:g ρ= .ok (.int j)):chE leC leC f (cE (.int c)) g ρ= .ok (.bl (decide (i<=c) && decide (c<=j))):=by
 rw [xb,hf,bOk,ZE,bOk,YF,bOk,hg]
 cases decide (i<=c) <;> rfl
theorem Y1 (a b:Nat):decide ((a:Int)<=(b:Int))=decide (a<=b):=by
 by_cases h:a<=b
 ·rw [decide_eq_true h]; exact decide_eq_true (by omega)
 ·rw [decide_eq_false h]; exact decide_eq_false (by omega)
theorem V9 (a b:Nat):((a:Int) == (b:Int))=(a == b):=by
 by_cases h:a=b
 ·subst h; simp
 ·rw [beq_eq_false_iff_ne.mpr h,beq_eq_false_iff_ne]; omega
theorem Gc {f:En->R T} {ρ:En} {b:Bool} (h:f ρ= .ok (.bl b)):ap1 yj f ρ= .ok (.int ((iv b:Nat):Int)):=by
 rw [jA,h,bOk]
 show R.ok (T.int (b2 b))=_
 rw [z03]
theorem Va {f g:En->R T} {ρ:En} {i j:Nat} (hf:f ρ= .ok (.int (i:Int))) (hg:g ρ= .ok (.int (j:Int))):zf zA f g ρ= .ok (.int ((i+j:Nat):Int)):=by
 rw [zn,hf,bOk,hg,bOk,ZR,Int.natCast_add]
theorem WG {f g:En->R T} {ρ:En} {i j:Nat} (h:i < 2 ^ 60) (hf:f ρ= .ok (.int (i:Int))) (hg:g ρ= .ok (.int (j:Int))):zf Zw f g ρ= .ok (.int ((i*j:Nat):Int)):=by
 rw [zn,hf,bOk,hg,bOk,Xa h]
theorem kN {d n:Nat} (h:n<=mx d) (hd:d+1<=3) (h0:1<=d):n*n*n < 2 ^ 60/\n*n < 2 ^ 60/\n < 2 ^ 60:=by
 have h1:n<=70644:=by
  have:d=1\/d=2:=by omega
  have h2:mx 2=70644:=by decide
  have h1:mx 1=41:=by decide
  rcases this with rfl | rfl <;> omega
 have h2:n*n<=70644*70644:=Nat.mul_le_mul h1 h1
 have h3:n*n*n<=70644*70644*70644:=Nat.mul_le_mul h2 h1
 have h4:70644*70644*70644 < 2 ^ 60:=by decide
 have h5:70644*70644 < 2 ^ 60:=by decide
 have h6:70644 < 2 ^ 60:=by decide
 exact ⟨Nat.lt_of_le_of_lt h3 h4,Nat.lt_of_le_of_lt h2 h5,Nat.lt_of_le_of_lt h1 h6⟩
noncomputable abbrev mt (t:T) (lo hi:Nat):T:= .tup [.str "many",t, .int (lo:Int), .int (hi:Int)]
theorem v4' {t:T} {a b c d:Sl} {ρ:En}:vE 4 (a :: b :: c :: d :: .vl t :: ρ)= .ok t:=rfl
theorem Vb {t:T} {a x:Sl} {lo hi n:Nat} (h3:n*n*n < 2 ^ 60) (h2:n*n < 2 ^ 60) (h1:n < 2 ^ 60):
  zR (Z3 2 (zf zA (ap1 yj (wg eqC (zf ixT (vE 0) (cE (.int 2))) (cE (.int 0)))) (zf Zw (vE 4) (ap1 yj (chE leC leC (zf ixT (vE 0) (cE (.int 2))) (cE (.int 1)) (zf ixT (vE 0) (cE (.int 3))))))))
  (zR (Z3 2 (zf zA (vE 2) (zf Zw (zf Zw (vE 4) (vE 4)) (ap1 yj (chE leC leC (zf ixT (vE 0) (cE (.int 2))) (cE (.int 2)) (zf ixT (vE 0) (cE (.int 3))))))))
  (Z3 2 (zf zA (vE 2) (zf Zw (zf Zw (zf Zw (vE 4) (vE 4)) (vE 4)) (ap1 yj (wg eqC (zf ixT (vE 0) (cE (.int 3))) (cE (.int 3))))))))
  [.vl (mt t lo hi),a, .vl (.int 1),x, .vl (.int (n:Int))]= .nx [.vl (mt t lo hi),a, .vl (.int ((iv (lo == 0)+n*iv (decide (lo<=1) && decide (1<=hi))+n*n*iv (decide (lo<=2) && decide (2<=hi))+n*n*n*iv (hi == 3):Nat):Int)),x, .vl (.int (n:Int))]:=by
 have le1:∀ {p q r s:Sl},ap1 yj (chE leC leC (zf ixT (vE 0) (cE (.int 2))) (cE (.int 1)) (zf ixT (vE 0) (cE (.int 3)))) [.vl (mt t lo hi),p,q,r,s]= .ok (.int ((iv (decide (lo<=1) && decide (1<=hi)):Nat):Int)):=fun {p q r s}=>Gc (by
  rw [gI (c:=1) kL gF]
  rw [show decide ((lo:Int)<=1)=decide (lo<=1) from Y1 lo 1,show decide ((1:Int)<=(hi:Int))=decide (1<=hi) from Y1 1 hi])
 have le2:∀ {p q r s:Sl},ap1 yj (chE leC leC (zf ixT (vE 0) (cE (.int 2))) (cE (.int 2)) (zf ixT (vE 0) (cE (.int 3)))) [.vl (mt t lo hi),p,q,r,s]= .ok (.int ((iv (decide (lo<=2) && decide (2<=hi)):Nat):Int)):=fun {p q r s}=>Gc (by
  rw [gI (c:=2) kL gF]
  rw [show decide ((lo:Int)<=2)=decide (lo<=2) from Y1 lo 2,show decide ((2:Int)<=(hi:Int))=decide (2<=hi) from Y1 2 hi])
 have eq0:∀ {p q r s:Sl},ap1 yj (wg eqC (zf ixT (vE 0) (cE (.int 2))) (cE (.int 0))) [.vl (mt t lo hi),p,q,r,s]= .ok (.int ((iv (lo == 0):Nat):Int)):=fun {p q r s}=>Gc (by
  rw [jB,kL,bOk,ZE,bOk,eqI,bOk,show ((lo:Int) == 0)=(lo == 0) from V9 lo 0])
 have eq3:∀ {p q r s:Sl},ap1 yj (wg eqC (zf ixT (vE 0) (cE (.int 3))) (cE (.int 3))) [.vl (mt t lo hi),p,q,r,s]= .ok (.int ((iv (hi == 3):Nat):Int)):=fun {p q r s}=>Gc (by
  rw [jB,gF,bOk,ZE,bOk,eqI,bOk,show ((hi:Int) == 3)=(hi == 3) from V9 hi 3])
 have a1:=jx (i:=2) (Va (eq0 (p:=a) (q:= .vl (.int 1)) (r:=x) (s:= .vl (.int (n:Int)))) (WG h1 v4' le1))
 have a1:Z3 2 (zf zA (ap1 yj (wg eqC (zf ixT (vE 0) (cE (.int 2))) (cE (.int 0)))) (zf Zw (vE 4) (ap1 yj (chE leC leC (zf ixT (vE 0) (cE (.int 2))) (cE (.int 1)) (zf ixT (vE 0) (cE (.int 3))))))) [.vl (mt t lo hi),a, .vl (.int 1),x, .vl (.int (n:Int))]= .nx [.vl (mt t lo hi),a, .vl (.int ((iv (lo == 0)+n*iv (decide (lo<=1) && decide (1<=hi)):Nat):Int)),x, .vl (.int (n:Int))]:=a1
 rw [zI a1]
 generalize iv (lo == 0)+n*iv (decide (lo<=1) && decide (1<=hi))=m1
 have a2:=jx (i:=2) (Va (v2 (t:= .int (m1:Int)) (a:= .vl (mt t lo hi)) (b:=a) (ρ:=[x, .vl (.int (n:Int))])) (WG h2 (WG h1 v4' v4') le2))
 have a2:Z3 2 (zf zA (vE 2) (zf Zw (zf Zw (vE 4) (vE 4)) (ap1 yj (chE leC leC (zf ixT (vE 0) (cE (.int 2))) (cE (.int 2)) (zf ixT (vE 0) (cE (.int 3))))))) [.vl (mt t lo hi),a, .vl (.int (m1:Int)),x, .vl (.int (n:Int))]= .nx [.vl (mt t lo hi),a, .vl (.int ((m1+n*n*iv (decide (lo<=2) && decide (2<=hi)):Nat):Int)),x, .vl (.int (n:Int))]:=a2
 rw [zI a2]
 generalize m1+n*n*iv (decide (lo<=2) && decide (2<=hi))=m2
 have a3:=jx (i:=2) (Va (v2 (t:= .int (m2:Int)) (a:= .vl (mt t lo hi)) (b:=a) (ρ:=[x, .vl (.int (n:Int))])) (WG h3 (WG h2 (WG h1 v4' v4') v4') eq3))
 exact a3
theorem Vc {cs:List T->R T} {d:Nat} (hd:d+1<=3) (k:Kd) (lo hi:Nat) (h:(Kd.many k lo hi).Ok (d+1)) (H:∀ k:Kd,k.Ok d->cs [k.t]= .ok (.int (k.all.length:Int))):zp (zH (zE 8) cs (en0 5 [(Kd.many k lo hi).t]))= .ok (.int ((Kd.many k lo hi).all.length:Int)):=by
 obtain ⟨h1,h2,h3⟩:=h
 have hd0:1<=d:=by
  cases d with
  | zero=>exact h3.elim
  | succ d=>omega
 obtain ⟨c3,c2,c1⟩:=kN (Uw d k h3) hd hd0
 rw [ui,kJ _ h1 h2]
 simp only [Kd.t]
 have hk:=H k h3
 generalize k.all.length=n at*
 generalize k.t=t at*
 have e:zp (zH (zE 8) cs (en0 5 [mt t lo hi]))=zp (zH (zE 8) cs [.vl (mt t lo hi), .un, .un, .un, .un]):=rfl
 have e1:Zl inC (zf ixT (vE 0) (cE (.int 0))) (jh (z9 (cE (.str "whole")) (z9 (cE (.str "pick")) (zh)))) [.vl (mt t lo hi), .un, .un, .un, .un]= .ok false:=by
  rw [in2]; rfl
 have e2:ifE (Zl eqC (zf ixT (vE 0) (cE (.int 0))) (cE (.str "row"))) (Zf (JK (zf ixT (vE 0) (cE (.int 1)))) (zG 0) (j4) (zd 1 cs (z9 (vE 0) (zh))) 1 []) (Jo (zh)) [.vl (mt t lo hi), .un, .un, .un, .un]= .ok (.lst []):=by
  unfold ifE
  rw [cs0,bOk,show (("many":Str) == "row")=false from rfl,if_neg Bool.false_ne_true]
  rfl
 have s1:([.vl (mt t lo hi), .un, .un, .un, .un]:En).set 1 (.vl (.lst []))=[.vl (mt t lo hi), .vl (.lst []), .un, .un, .un]:=rfl
 have s2:([.vl (mt t lo hi), .vl (.lst []), .un, .un, .un]:En).set 2 (.vl (.int 1))=[.vl (mt t lo hi), .vl (.lst []), .vl (.int 1), .un, .un]:=rfl
 have e3:WN (JK (vE 1)) (zG 3) (Z3 2 (zf Zw (vE 2) (vE 3))) [.vl (mt t lo hi), .vl (.lst []), .vl (.int 1), .un, .un]= .nx [.vl (mt t lo hi), .vl (.lst []), .vl (.int 1), .un, .un]:=rfl
 have e4:Zl eqC (zf ixT (vE 0) (cE (.int 0))) (cE (.str "many")) [.vl (mt t lo hi), .vl (.lst []), .vl (.int 1), .un, .un]= .ok true:=by
  rw [cs0]; rfl
 have e5:zd 1 cs (z9 (zf ixT (vE 0) (cE (.int 1))) (zh)) [.vl (mt t lo hi), .vl (.lst []), .vl (.int 1), .un, .un]= .ok (.int (n:Int)):=by
  rw [JT,V3,bOk,hk]
 have s5:([.vl (mt t lo hi), .vl (.lst []), .vl (.int 1), .un, .un]:En).set 4 (.vl (.int (n:Int)))=[.vl (mt t lo hi), .vl (.lst []), .vl (.int 1), .un, .vl (.int (n:Int))]:=rfl
 have e6:=Vb (t:=t) (a:= .vl (.lst [])) (x:= .un) (lo:=lo) (hi:=hi) c3 c2 c1
 rw [e,zH,zI (y3 e1),zI (jx e2),s1,zI (jx ZE),s2,zI e3]
 have e7:∀ (P:En->RS),ifS (Zl eqC (zf ixT (vE 0) (cE (.int 0))) (cE (.str "many"))) (zR (Z3 4 (zd 1 cs (z9 (zf ixT (vE 0) (cE (.int 1))) (zh)))) P) nxS [.vl (mt t lo hi), .vl (.lst []), .vl (.int 1), .un, .un]=P [.vl (mt t lo hi), .vl (.lst []), .vl (.int 1), .un, .vl (.int (n:Int))]:=fun P=>by
  rw [K2 e4,zI (jx e5),s5]
 rw [zI (Eq.trans (e7 _) e6)]
 rfl
theorem Vd:∀ (d n:Nat),d<=n->d<=3->∀ k:Kd,k.Ok d->j9 n 0 [k.t]= .ok (.int (k.all.length:Int))
 | 0,_,_,_,_,h=>h.elim
 | d+1,0,hn,_,_,_=>by omega
 | d+1,n+1,hn,hd,k,h=>by
  have e:j9 (n+1) 0 [k.t]=zp (zH (zE 8) (j9 n 0) (en0 5 [k.t])):=rfl
  rw [e]
  have H:∀ k:Kd,k.Ok d->j9 n 0 [k.t]= .ok (.int (k.all.length:Int)):=fun k' hk' =>Vd d n (by omega) (by omega) k' hk'
  cases k with
  | whole lo hi=>exact Y0 (.whole lo hi) (xw d lo hi h) (x:="whole") (r:=[.int lo, .int hi]) (by simp only [Kd.t]) rfl
  | pick cs=>exact Y0 (.pick cs) (xx d cs h) (x:="pick") (r:=[.tup (cs.map WT)]) (by simp only [Kd.t]) rfl
  | row ks=>exact xy (by omega) ks h H
  | many k lo hi=>exact Vc (by omega) k lo hi h H
end G
namespace G
open PySem L2 PV
theorem Ok.mono:∀ (d:Nat) (k:Kd),k.Ok d->k.Ok (d+1)
 | 0,_,h=>h.elim
 | d+1, .whole _ _,h=>h
 | d+1, .pick _,h=>h
 | d+1, .row ks,h=>⟨h.1,h.2.1,fun k hk=>Ok.mono d k (h.2.2 k hk)⟩
 | d+1, .many k _ _,h=>⟨h.1,h.2.1,Ok.mono d k h.2.2⟩
theorem kO (j:Int):Zw (.int 700) (.int j)= .ok (.int (700*j)):=Qa _ _ (.inl ⟨by decide,by decide⟩)
theorem gJ (ns:List Int) (d:Nat) (h1:1<=d) (h8:d<=8) (k:Int) (h0:0<=k):∃ q:Kd,Zt 8 [scr ns, .int k, .int (d:Int)]= .ok q.t/\q.Ok d:=by
 obtain ⟨t,ht,hi⟩:=YJ ns d 8 h8 h1 k h0
 obtain ⟨q,rfl,hq⟩:=YR d t hi
 exact ⟨q,ht,hq⟩
noncomputable abbrev smB:En->RS:=zR (ifS (Zl leC (zd 1 (ja 8) (z9 (vE 3) (zh))) (vB 2)) (Zc (vE 3)) (nxS))
  (Z3 3 (zd 3 (Zt 8) (z9 (vE 0) (z9 (zf zA (zf zA (vE 1) (cE (.int 500))) (zf Zw (cE (.int 700)) (vE 4))) (z9 (cE (.int 2)) (zh))))))
noncomputable abbrev en5 (ns:List Int) (a:Int) (m:Nat) (k:Kd) (x:Sl):En:=[.vl (scr ns), .vl (.int a), .vl (.int (m:Int)), .vl k.t,x]
theorem Ve {ns:List Int} {a:Int} {m:Nat} {k:Kd} {x:Sl} (hk:k.Ok 3):Zl leC (zd 1 (ja 8) (z9 (vE 3) (zh))) (vB 2) (en5 ns a m k x)= .ok (decide (k.all.length<=m)):=by
 have e:ja 8 [k.t]= .ok (.int (k.all.length:Int)):=Vd 3 8 (by omega) (by omega) k hk
 rw [ZX,JT,v3,bOk,e,bOk,w2,bOk,YF,Y1]
theorem kP (ns:List Int) {a:Int} {m:Nat} (ha:0<=a) {k:Kd} (hk:k.Ok 3) (j:Nat):(k.all.length<=m/\smB (en5 ns a m k (.vl (.int (0+(j:Int)))))= .rt k.t)\/∃ k' :Kd,k'.Ok 3/\smB (en5 ns a m k (.vl (.int (0+(j:Int)))))= .nx (en5 ns a m k' (.vl (.int (0+(j:Int))))):=by
 by_cases h:k.all.length<=m
 ·refine .inl ⟨h, ?_⟩
  unfold smB
  refine WU ?_
  rw [K2 (by rw [Ve hk,decide_eq_true h])]
  exact Jb rfl
 ·obtain ⟨q,hq,ho⟩:=gJ ns 2 (by omega) (by omega) (a+500+700*(0+(j:Int))) (by omega)
  refine .inr ⟨q,Ok.mono 2 q ho, ?_⟩
  unfold smB
  rw [zI (y3 (by rw [Ve hk,decide_eq_false h]))]
  have hq:Zt 8 [scr ns, .int (a+500+700*(0+(j:Int))), .int 2]= .ok q.t:=hq
  have e:zd 3 (Zt 8) (z9 (vE 0) (z9 (zf zA (zf zA (vE 1) (cE (.int 500))) (zf Zw (cE (.int 700)) (vE 4))) (z9 (cE (.int 2)) (zh)))) (en5 ns a m k (.vl (.int (0+(j:Int)))))= .ok q.t:=by
   rw [ZW,v0,bOk,zn,zn,v1,bOk,ZE,bOk,ZR,bOk,zn,ZE,bOk,v4,bOk,kO,bOk,ZR,bOk,ZE,bOk,hq]
  rw [jx e]
  rfl
theorem gK {g:T->En->R En} {fb:En->RS} {t:T} {ts:List T} {ρ ρ1:En} {r:T} (hg:g t ρ= .ok ρ1) (hb:fb ρ1= .rt r):Jl g fb (t :: ts) ρ= .rt r:=by
 rw [Jl,hg]
 dsimp only
 rw [hb]
theorem Vf (ns:List Int) {a:Int} {m:Nat} (ha:0<=a):∀ (js:List Nat) (k:Kd) (x:Sl),k.Ok 3->(∃ k' :Kd,k'.Ok 3/\k'.all.length<=m/\Jl (zG 4) smB (js.map fun (j:Nat)=>T.int (0+(j:Int))) (en5 ns a m k x)= .rt k'.t)\/
  ∃ (k' :Kd) (x' :Sl),k'.Ok 3/\Jl (zG 4) smB (js.map fun (j:Nat)=>T.int (0+(j:Int))) (en5 ns a m k x)= .nx (en5 ns a m k' x')
 | [],k,x,hk=> .inr ⟨k,x,hk,rfl⟩
 | j :: js,k,x,hk=>by
  have s3:zG 4 (T.int (0+(j:Int))) (en5 ns a m k x)= .ok (en5 ns a m k (.vl (.int (0+(j:Int))))):=rfl
  rw [List.map_cons]
  rcases kP ns ha (m:=m) hk j with ⟨h1,h2⟩ | ⟨k',h1,h2⟩
  ·exact .inl ⟨k,hk,h1,gK s3 h2⟩
  ·rw [V8 s3 h2]
   exact Vf ns ha js k' _ h1
theorem xz (ns:List Int) (a:Int) (ha:0<=a) (m:Nat) (hm:4<=m):∃ k:Kd,k.Ok 3/\k.all.length<=m/\ZN [scr ns, .int a, .int (m:Int)]= .ok k.t:=by
 obtain ⟨q,hq,ho⟩:=gJ ns 3 (by omega) (by omega) a ha
 have hq:Zt 8 [scr ns, .int a, .int 3]= .ok q.t:=hq
 have e:ZN [scr ns, .int a, .int (m:Int)]=zp (Jq (Zt 8) (ja 8) [.vl (scr ns), .vl (.int a), .vl (.int (m:Int)), .un, .un]):=rfl
 have e1:zd 3 (Zt 8) (z9 (vE 0) (z9 (vE 1) (z9 (cE (.int 3)) (zh)))) [.vl (scr ns), .vl (.int a), .vl (.int (m:Int)), .un, .un]= .ok q.t:=by
  rw [ZW,v0,bOk,v1,bOk,ZE,bOk,hq]
 have s1:([.vl (scr ns), .vl (.int a), .vl (.int (m:Int)), .un, .un]:En).set 3 (.vl q.t)=en5 ns a m q .un:=rfl
 rw [e,Jq,zI (jx e1),s1]
 rcases Vf ns ha (m:=m) (List.range 3) q .un ho with ⟨k,h1,h2,h3⟩ | ⟨k,x,h1,h3⟩
 ·refine ⟨k,h1,h2, ?_⟩
  have e2:WN (jH (cE (.int 3))) (zG 4) smB (en5 ns a m q .un)= .rt k.t:=h3
  rw [WU e2]
  rfl
 ·have e2:WN (jH (cE (.int 3))) (zG 4) smB (en5 ns a m q .un)= .nx (en5 ns a m k x):=h3
  rw [zI e2]
  have ec:Zl leC (zd 1 (ja 8) (z9 (vE 3) (zh))) (vB 2) (frz (en5 ns a m k x))= .ok (decide (k.all.length<=m)):=Ve (x:=Wv x) h1
  by_cases h:k.all.length<=m
  ·refine ⟨k,h1,h, ?_⟩
   rw [Jb (t:=k.t)]
   ·rfl
   ·unfold ifE
    rw [ec,bOk,decide_eq_true h,if_pos rfl]
    rfl
  ·refine ⟨.whole (-1) 2,⟨by omega,by omega,by omega⟩,by rw [uF]; exact hm, ?_⟩
   rw [Jb (t:=(Kd.whole (-1) 2).t)]
   ·rfl
   ·unfold ifE
    rw [ec,bOk,decide_eq_false h,if_neg Bool.false_ne_true,Kd.t]
    rfl
end G
namespace G
open PySem L2 PV
mutual
noncomputable def Kd.has:Kd->T->Bool
 | .whole lo hi=>fun t=>inR lo hi t
 | .pick cs=>fun t=>match t with | .str x=>cs.any fun c=>c.1 == x | _=>false
 | .row ks=>fun t=>match t with | .tup xs=>xs.length == ks.length && Kd.hass ks xs | _=>false
 | .many k lo hi=>fun t=>match t with | .tup xs=>decide (lo<=xs.length) && decide (xs.length<=hi) && xs.all k.has | _=>false
noncomputable def Kd.hass:List Kd->List T->Bool
 | []=>fun _=>true
 | k :: ks=>fun xs=>match xs with | []=>true | x :: xs=>k.has x && Kd.hass ks xs
end
theorem qH:∀ (ks:List Kd) (xs:List T),Kd.hass ks xs=(ks.zip xs).all fun q=>q.1.has q.2
 | [],_=>by simp [Kd.hass]
 | k :: ks,[]=>by simp [Kd.hass]
 | k :: ks,x :: xs=>by simp [Kd.hass,qH ks xs]
noncomputable def Qh:List (List T)->List T->Prop
 | [],[]=>True
 | l :: ls,x :: xs=>x∈l/\Qh ls xs
 | _,_=>False
theorem uG:∀ (ls made:List (List T)) (xs:List T),xs∈Uc made ls↔∃ a∈made,∃ b,Qh ls b/\xs=a++b
 | [],made,xs=>by
  rw [Uc]
  constructor
  ·exact fun h=>⟨xs,h,[],trivial,by simp⟩
  ·rintro ⟨a,ha,b,hb,rfl⟩
   cases b with
   | nil=>simpa using ha
   | cons=>exact hb.elim
 | l :: ls,made,xs=>by
  rw [Uc,uG ls]
  constructor
  ·rintro ⟨a',ha',b,hb,rfl⟩
   obtain ⟨a,ha,hx⟩:=List.mem_flatMap.mp ha'
   obtain ⟨x,hl,e⟩:=List.mem_map.mp hx
   exact ⟨a,ha,x :: b,⟨hl,hb⟩,by rw [← e]; simp⟩
  ·rintro ⟨a,ha,b,hb,rfl⟩
   cases b with
   | nil=>exact hb.elim
   | cons x b=>exact ⟨a++[x],List.mem_flatMap.mpr ⟨a,ha,List.mem_map.mpr ⟨x,hb.1,rfl⟩⟩,b,hb.2,by simp⟩
theorem y6 (ls:List (List T)) (t:T):t∈YS ls↔∃ xs,Qh ls xs/\t= .tup xs:=by
 unfold YS
 rw [List.mem_map]
 constructor
 ·rintro ⟨xs,h,rfl⟩
  obtain ⟨a,ha,b,hb,rfl⟩:=(uG ls [[]] xs).mp h
  rw [List.mem_singleton.mp ha]
  exact ⟨b,hb,rfl⟩
 ·rintro ⟨xs,h,rfl⟩
  exact ⟨xs,(uG ls [[]] xs).mpr ⟨[],List.mem_singleton.mpr rfl,xs,h,rfl⟩,rfl⟩
theorem y7 (l:List T):∀ (m:Nat) (xs:List T),Qh (List.replicate m l) xs↔xs.length=m/\∀ x∈xs,x∈l
 | 0,[]=>by simp [Qh]
 | 0,x :: xs=>by simp [Qh]
 | m+1,[]=>by simp [Qh,List.replicate_succ]
 | m+1,x :: xs=>by
  rw [List.replicate_succ]
  show x∈l/\Qh _ xs↔_
  rw [y7 l m xs]
  simp
  constructor
  ·rintro ⟨a,b,c⟩; exact ⟨b,a,c⟩
  ·rintro ⟨a,b,c⟩; exact ⟨b,a,c⟩
theorem Y2:∀ (ks:List Kd),(∀ k∈ks,∀ x,x∈k.all↔k.has x=true)->∀ xs,Qh (ks.map Kd.all) xs↔(xs.length == ks.length && Kd.hass ks xs)=true
 | [],_,[]=>by simp [Qh,Kd.hass]
 | [],_,x :: xs=>by simp [Qh]
 | k :: ks,h,[]=>by simp [Qh]
 | k :: ks,h,x :: xs=>by
  show x∈k.all/\Qh (ks.map Kd.all) xs↔_
  rw [Y2 ks (fun k' hk' =>h k' (List.mem_cons_of_mem _ hk')) xs,h k List.mem_cons_self x]
  simp [Kd.hass]
  constructor
  ·rintro ⟨a,b,c⟩; exact ⟨b,a,c⟩
  ·rintro ⟨a,b,c⟩; exact ⟨b,a,c⟩
mutual
theorem wv:∀ (k:Kd) (x:T),x∈k.all↔k.has x=true
 | .whole lo hi,x=>by
  rw [Kd.all,Kd.has,List.mem_map]
  constructor
  ·rintro ⟨i,hi',rfl⟩
   rw [List.mem_range] at hi'
   simp [inR]; omega
  ·intro h
   obtain ⟨i,rfl⟩:=YK h
   simp [inR] at h
   exact ⟨(i - lo).toNat,by rw [List.mem_range]; omega,by congr 1; omega⟩
 | .pick cs,x=>by
  rw [Kd.all,Kd.has,List.mem_map]
  constructor
  ·rintro ⟨c,hc,rfl⟩
   simp only [List.any_eq_true]
   exact ⟨c,hc,by simp⟩
  ·intro h
   dsimp only at h
   split at h
   ·rw [List.any_eq_true] at h
    obtain ⟨c,hc,e⟩:=h
    exact ⟨c,hc,by rw [eq_of_beq e]⟩
   ·cases h
 | .row ks,x=>by
  rw [Kd.all,Kd.has,y6,Kd.alls_map]
  have:=Y2 ks (qI ks)
  constructor
  ·rintro ⟨xs,h,rfl⟩
   exact (this xs).mp h
  ·intro h
   dsimp only at h
   split at h
   ·rename_i xs
    exact ⟨xs,(this xs).mpr h,rfl⟩
   ·cases h
 | .many k lo hi,x=>by
  rw [Kd.all,Kd.has,List.mem_flatMap]
  constructor
  ·rintro ⟨i,hi',h⟩
   rw [y6] at h
   obtain ⟨xs,h,rfl⟩:=h
   rw [y7] at h
   rw [List.mem_range] at hi'
   simp only [Bool.and_eq_true,decide_eq_true_eq,List.all_eq_true]
   exact ⟨⟨by omega,by omega⟩,fun y hy=>(wv k y).mp (h.2 y hy)⟩
  ·intro h
   dsimp only at h
   split at h
   ·rename_i xs
    simp only [Bool.and_eq_true,decide_eq_true_eq,List.all_eq_true] at h
    refine ⟨xs.length - lo,by rw [List.mem_range]; omega, ?_⟩
    rw [y6]
    exact ⟨xs,(y7 _ _ _).mpr ⟨by omega,fun y hy=>(wv k y).mpr (h.2 y hy)⟩,rfl⟩
   ·cases h
theorem qI:∀ (ks:List Kd),∀ k∈ks,∀ x,x∈k.all↔k.has x=true
 | [],_,h=>nomatch h
 | k :: ks,k',h=>by
  rcases List.mem_cons.mp h with e | h
  ·intro x
   rw [e]
   exact wv k x
  ·exact qI ks k' h
end
end G
namespace G
open PySem L2 PV
theorem Ux {c:List T->R T}:∀ (qs:List (Kd×T)) (x y:Sl),(∀ q∈qs,c [q.1.t,q.2]= .ok (.bl (q.1.has q.2)))->zY (jI 0 1) j4 (zd 2 c (z9 (vE 0) (z9 (vE 1) (zh)))) (qs.map fun q=>T.tup [q.1.t,q.2]) [x,y]= .ok (qs.map fun q=>T.bl (q.1.has q.2))
 | [],_,_,_=>rfl
 | q :: qs,x,y,h=>by
  have e:zd 2 c (z9 (vE 0) (z9 (vE 1) (zh))) [.vl q.1.t, .vl q.2]= .ok (.bl (q.1.has q.2)):=by
   rw [Jm,v0,bOk,v1,bOk,h q List.mem_cons_self]
  have ih:=Ux qs (.vl q.1.t) (.vl q.2) fun r hr=>h r (List.mem_cons_of_mem _ hr)
  have e0:zY (jI 0 1) j4 (zd 2 c (z9 (vE 0) (z9 (vE 1) (zh)))) ((q :: qs).map fun q=>T.tup [q.1.t,q.2]) [x,y]=
   (zd 2 c (z9 (vE 0) (z9 (vE 1) (zh))) [.vl q.1.t, .vl q.2]).bind fun v=>(zY (jI 0 1) j4 (zd 2 c (z9 (vE 0) (z9 (vE 1) (zh)))) (qs.map fun q=>T.tup [q.1.t,q.2]) [.vl q.1.t, .vl q.2]).bind fun vs=> .ok (v :: vs):=rfl
  rw [e0,e,bOk,ih,bOk,List.map_cons]
theorem y8 {α:Type} (p:α->Bool):∀ qs:List α,yC (qs.map fun q=>T.bl (p q))=some (qs.all p)
 | []=>rfl
 | q :: qs=>by
  have e:yC ((q :: qs).map fun q=>T.bl (p q))=match yC (qs.map fun q=>T.bl (p q)) with | some j=>some (p q && j) | none=>none:=rfl
  rw [e,y8 p qs]
  rfl
theorem z04 (ks:List Kd) (xs:List T):x3 (ks.map Kd.t) xs=(ks.zip xs).map fun q=>T.tup [q.1.t,q.2]:=by
 unfold x3
 rw [List.zip_map_left,List.map_map]
 rfl
theorem qJ {c:List T->R T} {s:T} (ks:List Kd) (xs:List T) (hs:yJ s= .ok (ks.map Kd.t)) (hl:ks.length<=3) (H:∀ q∈ks.zip xs,c [q.1.t,q.2]= .ok (.bl (q.1.has q.2))):
  zp (jJ c (en0 2 [s, .tup xs]))= .ok (.bl ((ks.zip xs).all fun q=>q.1.has q.2)):=by
 have e:en0 2 [s, .tup xs]=[.vl s, .vl (.tup xs)]:=rfl
 have ez:km (vE 0) (vE 1) [.vl s, .vl (.tup xs)]= .ok ((ks.zip xs).map fun q=>T.tup [q.1.t,q.2]):=by
  show (yJ s).bind _=_
  rw [hs,bOk,← z04]
  rfl
 have hb:((ks.zip xs).map fun q=>T.tup [q.1.t,q.2]).length<=bnd:=by
  rw [List.length_map,List.length_zip]
  exact Nat.le_trans (Nat.min_le_left _ _) (Nat.le_trans hl (by decide))
 have ec:zT (jI 0 1) j4 (zd 2 c (z9 (vE 0) (z9 (vE 1) (zh)))) 2 [] [.vl s, .vl (.tup xs)] ((ks.zip xs).map fun q=>T.tup [q.1.t,q.2])= .ok ((ks.zip xs).map fun q=>T.bl (q.1.has q.2)):=by
  unfold zT
  rw [if_pos hb]
  show quiet (zY _ _ _ _ [.un, .un])=_
  rw [Ux _ _ _ H]
  rfl
 rw [e,jJ,Jb (t:= .bl ((ks.zip xs).all fun q=>q.1.has q.2))]
 ·rfl
 ·show ap1 _ _ [.vl s, .vl (.tup xs)]=_
  rw [jA,Zg,ez,bOk,ec,bOk,bOk]
  show (match yC ((ks.zip xs).map fun q=>T.bl (q.1.has q.2)) with | some k=>_ | none=>_)=_
  rw [y8]
theorem xA (cs:List (Str×Int)) (h:cs.length<=4):zL [(Kd.pick cs).t]= .ok (.lst (cs.map fun c=>T.str c.1)):=by
 have e:zL [(Kd.pick cs).t]=zp (jn [.vl (.tup [.str "pick", .tup (cs.map WT)])]):=by rw [Kd.t]; rfl
 have hb:(cs.map WT).length<=bnd:=by rw [List.length_map]; exact Nat.le_trans h (by decide)
 have ec:zT (zG 0) j4 (zf ixT (vE 0) (cE (.int 0))) 1 [] [.vl (.tup [.str "pick", .tup (cs.map WT)])] (cs.map WT)= .ok ((cs.map WT).map fun c=>match c with | .tup (w :: _)=>w | _=>c):=
  jo _ hb fun t ht=>by
   obtain ⟨c,_,rfl⟩:=List.mem_map.mp ht
   rfl
 rw [e,jn,Jb (t:= .lst (cs.map fun c=>T.str c.1))]
 ·rfl
 ·show Zf _ _ _ _ _ _ [.vl (.tup [.str "pick", .tup (cs.map WT)])]=_
  rw [Zg,JU,V3,bOk]
  show ((zT _ _ _ _ _ _ (cs.map WT)).bind _)=_
  rw [ec,bOk,List.map_map]
  rfl
theorem qK (t:T):∀ cs:List (Str×Int),qr (fun y=>eqF 30 y t) (cs.map fun c=>T.str c.1)=some ((Kd.pick cs).has t)
 | []=>by rw [Kd.has]; cases t <;> rfl
 | c :: cs=>by
  have ih:=qK t cs
  rw [Kd.has] at ih ⊢
  have e:qr (fun y=>eqF 30 y t) ((c :: cs).map fun c=>T.str c.1)=match eqF 30 (.str c.1) t with
   | none=>none
   | some b=>match qr (fun y=>eqF 30 y t) (cs.map fun c=>T.str c.1) with
    | none=>none
    | some d=>some (b || d):=rfl
  rw [e,ih]
  cases t <;> rfl
end G
namespace G
open PySem L2 PV
noncomputable abbrev en2 (a b:T):En:=[.vl a, .vl b]
theorem K3 {x w:Str} {r:List T} {b:T} (h:(x == w)=false) {f:En->RS}:ifS (Zl eqC (zf ixT (vE 0) (cE (.int 0))) (cE (.str w))) f nxS (en2 (.tup (.str x :: r)) b)= .nx (en2 (.tup (.str x :: r)) b):=
 y3 (by rw [cs0,h])
theorem z05 {x:Str} {r:List T} {b:T} {f:En->RS}:ifS (Zl eqC (zf ixT (vE 0) (cE (.int 0))) (cE (.str x))) f nxS (en2 (.tup (.str x :: r)) b)=f (en2 (.tup (.str x :: r)) b):=
 K2 (by rw [cs0,beq_self_eq_true])
theorem Vg {cp:List T->R T} (lo hi:Int) (x:T):zp (zZ Z7 zr zL cp (en0 2 [(Kd.whole lo hi).t,x]))= .ok (.bl ((Kd.whole lo hi).has x)):=by
 have e:en0 2 [(Kd.whole lo hi).t,x]=en2 (.tup [.str "whole", .int lo, .int hi]) x:=by rw [Kd.t]; rfl
 rw [e,zZ,WU (t:= .bl (inR lo hi x))]
 ·rw [Kd.has]; rfl
 ·rw [z05,Jb]
  show wo _ _ (en2 _ x)=_
  rw [wd,JT,v1,bOk,qy,ZD]
  cases x with
  | int i=>
   rw [show isW (T.int i)=true from rfl,if_pos rfl,xb,V3,bOk,w1,bOk,YF,bOk,kL,bOk,YF,bOk]
   show _=R.ok (T.bl (decide (lo<=i) && decide (i<=hi)))
   cases decide (lo<=i) <;> rfl
  | _=>rfl
theorem xB {cp:List T->R T} (cs:List (Str×Int)) (h4:cs.length<=4) (x:T):zp (zZ Z7 zr zL cp (en0 2 [(Kd.pick cs).t,x]))= .ok (.bl ((Kd.pick cs).has x)):=by
 have e:en0 2 [(Kd.pick cs).t,x]=en2 (.tup [.str "pick", .tup (cs.map WT)]) x:=by rw [Kd.t]; rfl
 have hw:=xA cs h4
 rw [Kd.t] at hw
 rw [e,zZ,zI (K3 (by decide)),WU (t:= .bl ((Kd.pick cs).has x))]
 ·rfl
 ·rw [z05,Jb]
  show wg _ _ _ (en2 _ x)=_
  rw [jB,w1,bOk,JT,v0,bOk,hw,bOk]
  show ((match qr (fun y=>eqF 30 y x) (cs.map fun (c:Str×Int)=>T.str c.1) with | some b=>R.ok b | none=> .bad).bind _)=_
  rw [qK]
  rfl
theorem kQ {cp:List T->R T} (ks:List Kd) (h3:ks.length<=3) (x:T) (H:∀ xs,x= .tup xs->cp [.tup (ks.map Kd.t),x]= .ok (.bl ((ks.zip xs).all fun q=>q.1.has q.2))):zp (zZ Z7 zr zL cp (en0 2 [(Kd.row ks).t,x]))= .ok (.bl ((Kd.row ks).has x)):=by
 have e:en0 2 [(Kd.row ks).t,x]=en2 (.tup [.str "row", .tup (ks.map Kd.t)]) x:=by rw [Kd.t,Kd.ts_map]; rfl
 rw [e,zZ,zI (K3 (by decide)),zI (K3 (by decide)),WU (t:= .bl ((Kd.row ks).has x))]
 ·rfl
 ·rw [z05,Jb]
  show wo _ _ (en2 _ x)=_
  have el:ap1 ZI (zf ixT (vE 0) (cE (.int 1))) (en2 (.tup [.str "row", .tup (ks.map Kd.t)]) x)= .ok (.int (ks.length:Nat)):=by
   rw [jA,V3,bOk,JC,List.length_map]
  rw [wd,ZW,v1,bOk,el,bOk,bOk,J8,ZD,Jm,V3,bOk,v1,bOk,Kd.has]
  cases x with
  | tup xs=>
   rw [H xs rfl]
   show (if (decide (ks.length<=xs.length) && decide (xs.length<=ks.length))=true then _ else _)=R.ok (T.bl (xs.length == ks.length && Kd.hass ks xs))
   rw [qH]
   by_cases h:xs.length=ks.length
   ·rw [if_pos (by simp [h])]
    simp [h]
   ·rw [if_neg (by simp; omega)]
    simp [h]
  | _=>rfl
theorem Vh (k:Kd):∀ xs:List T,((List.replicate xs.length k).zip xs).all (fun q=>q.1.has q.2)=xs.all k.has
 | []=>rfl
 | x :: xs=>by
  rw [List.length_cons,List.replicate_succ,List.zip_cons_cons,List.all_cons,List.all_cons,Vh k xs]
theorem xC {cp:List T->R T} (k:Kd) (lo hi:Nat) (h3:hi<=3) (x:T) (H:∀ xs,x= .tup xs->xs.length<=3->cp [.lst ((List.replicate xs.length k).map Kd.t),x]= .ok (.bl (((List.replicate xs.length k).zip xs).all fun q=>q.1.has q.2))):zp (zZ Z7 zr zL cp (en0 2 [(Kd.many k lo hi).t,x]))= .ok (.bl ((Kd.many k lo hi).has x)):=by
 have e:en0 2 [(Kd.many k lo hi).t,x]=en2 (.tup [.str "many",k.t, .int (lo:Int), .int (hi:Int)]) x:=by rw [Kd.t]; rfl
 rw [e,zZ,zI (K3 (by decide)),zI (K3 (by decide)),zI (K3 (by decide)),Jb (t:= .bl ((Kd.many k lo hi).has x))]
 ·rfl
 ·show wo _ _ (en2 _ x)=_
  rw [wd,ZW,v1,bOk,kL,bOk,gF,bOk,J8,ZD,Kd.has]
  cases x with
  | tup xs=>
   show (if (decide (lo<=xs.length) && decide (xs.length<=hi))=true then _ else _)=R.ok (T.bl (decide (lo<=xs.length) && decide (xs.length<=hi) && xs.all k.has))
   cases hh:(decide (lo<=xs.length) && decide (xs.length<=hi)) with
   | false=>rfl
   | true=>
    rw [Bool.and_eq_true,decide_eq_true_eq,decide_eq_true_eq] at hh
    have hx:xs.length<=3:=by omega
    have em:zf Zw (Jo (z9 (zf ixT (vE 0) (cE (.int 1))) (zh))) (ap1 ZI (vB 1)) (en2 (.tup [.str "many",k.t, .int (lo:Int), .int (hi:Int)]) (.tup xs))= .ok (.lst ((List.replicate xs.length k).map Kd.t)):=by
     rw [zn,lst1 V3,bOk,jA,w1,bOk,JC,bOk,X9 hx,y0,List.map_replicate]
    rw [if_pos rfl,Jm,em,bOk,v1,bOk,H xs rfl hx,Vh]
    rfl
  | _=>rfl
theorem Xb:∀ (d n:Nat),2*d<=n->∀ (k:Kd) (x:T),k.Ok d->zQ n 0 [k.t,x]= .ok (.bl (k.has x))
 | 0,_,_,_,_,h=>h.elim
 | d+1,n+2,hn,k,x,h=>by
  have ih:=Xb d n (by omega)
  have e:zQ (n+2) 0 [k.t,x]=zp (zZ Z7 zr zL (zQ (n+1) 1) (en0 2 [k.t,x])):=by rw [zQ]
  have e1:∀ s y,zQ (n+1) 1 [s,y]=zp (jJ (zQ n 0) (en0 2 [s,y])):=fun s y=>by rw [zQ]; intro h; cases h
  rw [e]
  cases k with
  | whole lo hi=>exact Vg lo hi x
  | pick cs=>exact xB cs h.2.1 x
  | row ks=>
   refine kQ ks h.2.1 x fun xs hx=> ?_
   rw [e1,hx,qJ ks xs rfl h.2.1 fun q hq=>ih q.1 q.2 (h.2.2 q.1 (List.of_mem_zip hq).1)]
  | many k lo hi=>
   refine xC k lo hi h.2.1 x fun xs hx h3=> ?_
   rw [e1,hx,qJ (List.replicate xs.length k) xs rfl (by rw [List.length_replicate]; exact h3) fun q hq=>ih q.1 q.2 (by
    rw [List.eq_of_mem_replicate (List.of_mem_zip hq).1]; exact h.2.2)]
end G
namespace G
open PySem L2 PV
theorem qL:∀ (d:Nat) (k:Kd),k.Ok d->isK d k.t=true
 | 0,_,h=>h.elim
 | d+1, .whole lo hi,h=>by
  have e:isK (d+1) (Kd.whole lo hi).t=(decide (-20<=lo) && decide (lo<=hi) && decide (hi<=20)):=by rw [Kd.t]; rfl
  obtain ⟨h1,h2,h3⟩:=h
  rw [e]; simp; omega
 | d+1, .pick cs,h=>by
  have e:isK (d+1) (Kd.pick cs).t=(decide (1<=(cs.map WT).length) && decide ((cs.map WT).length<=4) && (cs.map WT).all zo && decide ((dd [] ((cs.map WT).map Z4)).length=(cs.map WT).length)):=by rw [Kd.t]; rfl
  obtain ⟨h1,h2,h3,h4⟩:=h
  have e1:(cs.map WT).map Z4=cs.map (·.1):=by rw [List.map_map]; rfl
  have e2:=(uA (cs.map (·.1)) []).mpr fun k w hw=>by simpa using h4 k w hw
  rw [e,e1,e2,List.length_map,List.length_map]
  simp only [Bool.and_eq_true,decide_eq_true_eq,List.all_eq_true]
  refine ⟨⟨⟨h1,h2⟩,fun c hc=> ?_⟩,by simp⟩
  obtain ⟨p,hp,rfl⟩:=List.mem_map.mp hc
  obtain ⟨a,b,c⟩:=h3 p hp
  show (Zy (.str p.1) && decide (1<=p.2) && decide (p.2<=20))=true
  rw [a]; simp; omega
 | d+1, .row ks,h=>by
  have e:isK (d+1) (Kd.row ks).t=(decide (1<=(ks.map Kd.t).length) && decide ((ks.map Kd.t).length<=3) && (ks.map Kd.t).all (isK d)):=by rw [Kd.t,Kd.ts_map]; rfl
  obtain ⟨h1,h2,h3⟩:=h
  rw [e,List.length_map]
  simp only [Bool.and_eq_true,decide_eq_true_eq,List.all_eq_true]
  refine ⟨⟨h1,h2⟩,fun c hc=> ?_⟩
  obtain ⟨k,hk,rfl⟩:=List.mem_map.mp hc
  exact qL d k (h3 k hk)
 | d+1, .many k lo hi,h=>by
  have e:isK (d+1) (Kd.many k lo hi).t=((decide ((0:Int)<=(lo:Int)) && decide ((lo:Int)<=(hi:Int)) && decide ((hi:Int)<=3)) && isK d k.t):=by rw [Kd.t]; rfl
  obtain ⟨h1,h2,h3⟩:=h
  rw [e,qL d k h3]; simp; omega
theorem y9:∀ (ks:List Kd) (xs:List T),xs.length=ks.length->Kd.hass ks xs=true->∀ x∈xs,∃ k∈ks,k.has x=true
 | [],[],_,_,_,h=>nomatch h
 | k :: ks,[],h,_,_,_=>by cases h
 | [],x :: xs,h,_,_,_=>by cases h
 | k :: ks,x :: xs,hl,h,y,hy=>by
  rw [Kd.hass] at h
  have h:(k.has x && Kd.hass ks xs)=true:=h
  rw [Bool.and_eq_true] at h
  rcases List.mem_cons.mp hy with rfl | hy
  ·exact ⟨k,List.mem_cons_self,h.1⟩
  ·obtain ⟨k',hk,hh⟩:=y9 ks xs (by simpa using hl) h.2 y hy
   exact ⟨k',List.mem_cons_of_mem _ hk,hh⟩
theorem Vi {d:Nat} {xs:List T} (h:∀ x∈xs,Fit d (4 ^ d) x) (h3:xs.length<=3):Fit (d+1) (4 ^ (d+1)) (.tup xs):=by
 obtain ⟨a,b,c⟩:=Gb h
 have hp:1<=4 ^ d:=Nat.pow_pos (by omega)
 have h3:4 ^ d*xs.length<=4 ^ d*3:=Nat.mul_le_mul_left _ h3
 refine ⟨?_, ?_, ?_⟩
 ·simp only [sOk]; exact a
 ·simp only [dep]; omega
 ·simp only [siz,Nat.pow_succ]; omega
theorem uH:∀ (d:Nat) (k:Kd) (x:T),k.Ok d->k.has x=true->Fit d (4 ^ d) x
 | 0,_,_,h,_=>h.elim
 | d+1, .whole lo hi,x,h,hx=>by
  rw [Kd.has] at hx
  obtain ⟨i,rfl⟩:=YK hx
  have hp:1<=4 ^ (d+1):=Nat.pow_pos (by omega)
  exact ⟨by simp only [sOk],by simp only [dep]; omega,by simp only [siz]; omega⟩
 | d+1, .pick cs,x,h,hx=>by
  rw [Kd.has] at hx
  have hp:1<=4 ^ (d+1):=Nat.pow_pos (by omega)
  dsimp only at hx
  split at hx
  ·rename_i y
   rw [List.any_eq_true] at hx
   obtain ⟨c,hc,e⟩:=hx
   have hw:(decide (1<=c.1.length) && decide (c.1.length<=3) && c.1.cps.toList.all Zm)=true:=(h.2.2.1 c hc).1
   rw [Bool.and_eq_true,Bool.and_eq_true,decide_eq_true_eq,decide_eq_true_eq] at hw
   rw [← eq_of_beq e]
   exact ⟨by simp only [sOk]; exact Nat.le_trans hw.1.2 (by decide),by simp only [dep]; omega,by simp only [siz]; omega⟩
  ·cases hx
 | d+1, .row ks,x,h,hx=>by
  rw [Kd.has] at hx
  dsimp only at hx
  split at hx
  ·rename_i xs
   rw [Bool.and_eq_true,beq_iff_eq] at hx
   refine Vi (fun y hy=> ?_) (by rw [hx.1]; exact h.2.1)
   obtain ⟨k,hk,hh⟩:=y9 ks xs hx.1 hx.2 y hy
   exact uH d k y (h.2.2 k hk) hh
  ·cases hx
 | d+1, .many k lo hi,x,h,hx=>by
  rw [Kd.has] at hx
  dsimp only at hx
  split at hx
  ·rename_i xs
   rw [Bool.and_eq_true,Bool.and_eq_true,decide_eq_true_eq,decide_eq_true_eq,List.all_eq_true] at hx
   exact Vi (fun y hy=>uH d k y h.2.2 (hx.2 y hy)) (Nat.le_trans hx.1.2 h.2.1)
  ·cases hx
theorem WV (t:T) (ht:sOk t):ZO [t]=if isK 3 t=true then .ok .non else .ex 0:=by
 have e:ZO [t]=zp (w8 JS [.vl t]):=rfl
 have ec:Wg (jg (zd 1 JS (z9 (vE 0) (zh)))) [.vl t]= .ok (!isK 3 t):=by
  rw [Ur,wQ,JT,v0,bOk,Q8 t ht,bOk,jw,bOk]
 rw [e,w8,jp,ec,ZK]
 cases isK 3 t <;> rfl
theorem YT (k:Kd) (hk:k.Ok 3) (x:T):Z8 [k.t,x]= .ok (.bl (k.has x)):=by
 have hi:=qL 3 k hk
 have e:Z8 [k.t,x]=zp (jX ZO (J7 20) (en2 k.t x)):=rfl
 have e1:VL (zd 1 ZO (z9 (vE 0) (zh))) (en2 k.t x)= .nx (en2 k.t x):=by
  show (zd 1 _ _ _).s _=_
  rw [JT,v0,bOk,WV _ (uf 3 _ hi).so,hi,if_pos rfl,ZK]
 have hh:J7 20 [k.t,x]= .ok (.bl (k.has x)):=Xb 3 20 (by omega) k x hk
 rw [e,jX,zI e1,Jb (t:= .bl (k.has x))]
 ·rfl
 ·show zd 2 _ _ (en2 k.t x)=_
  rw [Jm,v0,bOk,v1,bOk,hh]
theorem gL {f g:En->RS} {ρ:En} {c:Nat} (h:f ρ= .ex c):zR f g ρ= .ex c:=by rw [zD,h]
theorem YU (t:T) (ht:sOk t) (hi:isK 3 t=false) (x:T):Z8 [t,x]= .ex 0:=by
 have e:Z8 [t,x]=zp (jX ZO (J7 20) (en2 t x)):=rfl
 have e1:VL (zd 1 ZO (z9 (vE 0) (zh))) (en2 t x)= .ex 0:=by
  show (zd 1 _ _ _).s _=_
  rw [JT,v0,bOk,WV _ ht,hi]; rfl
 rw [e,jX,gL e1]
 rfl
theorem gM:jz 0= .ok (.str "no kind"):=by rfl
theorem qM (k:Kd) (hk:k.Ok 3) (x:T):zC [k.t,x]= .ok (.bl (k.has x)):=by
 have e:zC [k.t,x]=zp (je Z8 jz [.vl k.t, .vl x, .un, .un, .un]):=rfl
 have e1:Z3 2 (cE .non) [.vl k.t, .vl x, .un, .un, .un]= .nx [.vl k.t, .vl x, .vl .non, .un, .un]:=rfl
 have e2:Z3 3 (cE .non) [.vl k.t, .vl x, .vl .non, .un, .un]= .nx [.vl k.t, .vl x, .vl .non, .vl .non, .un]:=rfl
 have e3:Z3 3 (zd 2 Z8 (z9 (vE 0) (z9 (vE 1) (zh)))) [.vl k.t, .vl x, .vl .non, .vl .non, .un]= .nx [.vl k.t, .vl x, .vl .non, .vl (.bl (k.has x)), .un]:=by
  rw [jx (t:= .bl (k.has x))]
  ·rfl
  ·rw [Jm,v0,bOk,v1,bOk,YT k hk x]
 have e4:k6 2 okX (Z3 3 (zd 2 Z8 (z9 (vE 0) (z9 (vE 1) (zh))))) [.vl k.t, .vl x, .vl .non, .vl .non, .un]= .nx [.vl k.t, .vl x, .vl .non, .vl (.bl (k.has x)), .un]:=by
  unfold k6
  rw [e3]
 have e5:g9 2 [.vl k.t, .vl x, .vl .non, .vl (.bl (k.has x)), .un]= .ok true:=rfl
 rw [e,je,zI e1,zI e2,zI e4,WU (t:= .bl (k.has x))]
 ·rfl
 ·rw [K2 e5]; rfl
theorem qN (t:T) (ht:sOk t) (hi:isK 3 t=false) (x:T):zC [t,x]= .ok (.str "no kind"):=by
 have e:zC [t,x]=zp (je Z8 jz [.vl t, .vl x, .un, .un, .un]):=rfl
 have e1:Z3 2 (cE .non) [.vl t, .vl x, .un, .un, .un]= .nx [.vl t, .vl x, .vl .non, .un, .un]:=rfl
 have e2:Z3 3 (cE .non) [.vl t, .vl x, .vl .non, .un, .un]= .nx [.vl t, .vl x, .vl .non, .vl .non, .un]:=rfl
 have e3:Z3 3 (zd 2 Z8 (z9 (vE 0) (z9 (vE 1) (zh)))) [.vl t, .vl x, .vl .non, .vl .non, .un]= .ex 0:=by
  rw [jL,Jm,v0,bOk,v1,bOk,YU t ht hi x]; rfl
 have e4:k6 2 okX (Z3 3 (zd 2 Z8 (z9 (vE 0) (z9 (vE 1) (zh))))) [.vl t, .vl x, .vl .non, .vl .non, .un]= .nx [.un, .un, .xc 0, .un, .un]:=by
  unfold k6
  rw [e3]
  rfl
 have e5:g9 2 [.un, .un, .xc 0, .un, .un]= .ok false:=rfl
 rw [e,je,zI e1,zI e2,zI e4,zI (y3 e5),Jb (t:= .str "no kind")]
 ·rfl
 ·show jz 0=_
  exact gM
end G
namespace G
open PySem L2 PV
noncomputable def okB:R T->Bool
 | .ok (.bl b)=>b
 | _=>false
theorem Y3 {c:List T->R T}:∀ (qs:List (T×T)) (x y:Sl),(∀ q∈qs,∃ b,c [q.1,q.2]= .ok (.bl b))->zY (jI 0 1) j4 (zd 2 c (z9 (vE 0) (z9 (vE 1) (zh)))) (qs.map fun q=>T.tup [q.1,q.2]) [x,y]= .ok (qs.map fun q=>T.bl (okB (c [q.1,q.2])))
 | [],_,_,_=>rfl
 | q :: qs,x,y,h=>by
  obtain ⟨b,hb⟩:=h q List.mem_cons_self
  have e:zd 2 c (z9 (vE 0) (z9 (vE 1) (zh))) [.vl q.1, .vl q.2]= .ok (.bl (okB (c [q.1,q.2]))):=by
   rw [Jm,v0,bOk,v1,bOk,hb]; rfl
  have ih:=Y3 qs (.vl q.1) (.vl q.2) fun r hr=>h r (List.mem_cons_of_mem _ hr)
  have e0:zY (jI 0 1) j4 (zd 2 c (z9 (vE 0) (z9 (vE 1) (zh)))) ((q :: qs).map fun q=>T.tup [q.1,q.2]) [x,y]=
   (zd 2 c (z9 (vE 0) (z9 (vE 1) (zh))) [.vl q.1, .vl q.2]).bind fun v=>(zY (jI 0 1) j4 (zd 2 c (z9 (vE 0) (z9 (vE 1) (zh)))) (qs.map fun q=>T.tup [q.1,q.2]) [.vl q.1, .vl q.2]).bind fun vs=> .ok (v :: vs):=rfl
  rw [e0,e,bOk,ih,bOk,List.map_cons]
theorem Xc:∀ (xs ys:List T),xs.length=ys.length->(∀ q∈xs.zip ys,q.1=q.2)->xs=ys
 | [],[],_,_=>rfl
 | x :: xs,y :: ys,h,H=>by
  have h1:x=y:=H (x,y) (by simp)
  rw [h1,Xc xs ys (by simpa using h) fun q hq=>H q (List.mem_cons_of_mem _ hq)]
theorem qO:∀ (xs:List T),∀ q∈xs.zip xs,q.1=q.2
 | [],_,h=>nomatch h
 | x :: xs,q,h=>by
  rcases List.mem_cons.mp h with rfl | h
  ·rfl
  ·exact qO xs q h
noncomputable abbrev smeT (c:List T->R T):En->R T:=wo (wg eqC (ap1 ZI (vB 0)) (ap1 ZI (vB 1))) (ap1 vg (Zf (km (vE 0) (vE 1)) (jI 0 1) (j4) (zd 2 c (z9 (vE 0) (z9 (vE 1) (zh)))) 2 []))
theorem xD {c:List T->R T} (xs ys:List T) (hb:xs.length<=3) (H:∀ q∈xs.zip ys,∃ b,c [q.1,q.2]= .ok (.bl b)/\(b=true↔q.1=q.2)):∃ b,zp (ZP c (en0 2 [.tup xs, .tup ys]))= .ok (.bl b)/\(b=true↔T.tup xs=T.tup ys):=by
 have e:en0 2 [.tup xs, .tup ys]=en2 (.tup xs) (.tup ys):=rfl
 have ec:U5 (jg (ap1 (Jk "tuple") (vB 0))) (jg (ap1 (Jk "tuple") (vB 1))) (en2 (.tup xs) (.tup ys))= .ok true:=rfl
 have hl:wg eqC (ap1 ZI (vB 0)) (ap1 ZI (vB 1)) (en2 (.tup xs) (.tup ys))= .ok (.bl (xs.length == ys.length)):=by
  rw [jB,jA,w0,bOk,JC,bOk,jA,w1,bOk,JC,bOk,eqI,bOk,V9]
 have hb1:((xs.zip ys).map fun q=>T.tup [q.1,q.2]).length<=bnd:=by
  rw [List.length_map,List.length_zip]
  exact Nat.le_trans (Nat.min_le_left _ _) (Nat.le_trans hb (by decide))
 have hc:zT (jI 0 1) j4 (zd 2 c (z9 (vE 0) (z9 (vE 1) (zh)))) 2 [] (en2 (.tup xs) (.tup ys)) ((xs.zip ys).map fun q=>T.tup [q.1,q.2])= .ok ((xs.zip ys).map fun q=>T.bl (okB (c [q.1,q.2]))):=by
  unfold zT
  rw [if_pos hb1]
  show quiet (zY _ _ _ _ [.un, .un])=_
  rw [Y3 _ _ _ fun q hq=>(H q hq).imp fun b h=>h.1]
  rfl
 have hz:km (vE 0) (vE 1) (en2 (.tup xs) (.tup ys))= .ok ((xs.zip ys).map fun q=>T.tup [q.1,q.2]):=rfl
 have ha:ap1 vg (Zf (km (vE 0) (vE 1)) (jI 0 1) (j4) (zd 2 c (z9 (vE 0) (z9 (vE 1) (zh)))) 2 []) (en2 (.tup xs) (.tup ys))= .ok (.bl ((xs.zip ys).all fun q=>okB (c [q.1,q.2]))):=by
  rw [jA,Zg,hz,bOk,hc,bOk,bOk]
  show (match yC ((xs.zip ys).map fun q=>T.bl (okB (c [q.1,q.2]))) with | some k=>R.ok (T.bl k) | none=>_)=_
  rw [y8]
 have hs:smeT c (en2 (.tup xs) (.tup ys))= .ok (.bl (xs.length == ys.length && (xs.zip ys).all fun q=>okB (c [q.1,q.2]))):=by
  unfold smeT
  rw [wd,hl,ZD,ha]
  cases (xs.length == ys.length) <;> rfl
 refine ⟨xs.length == ys.length && (xs.zip ys).all fun q=>okB (c [q.1,q.2]), ?_, ?_⟩
 ·rw [e,ZP,WU (t:= .bl (xs.length == ys.length && (xs.zip ys).all fun q=>okB (c [q.1,q.2])))]
  ·rfl
  ·rw [K2 ec]
   exact Jb hs
 ·rw [Bool.and_eq_true,beq_iff_eq,List.all_eq_true]
  constructor
  ·rintro ⟨h1,h2⟩
   rw [Xc xs ys h1 fun q hq=>by
    obtain ⟨b,h3,h4⟩:=H q hq
    have:=h2 q hq
    rw [h3] at this
    exact h4.mp this]
  ·intro h
   have h:xs=ys:=by injection h
   subst h
   refine ⟨rfl,fun q hq=> ?_⟩
   obtain ⟨b,h3,h4⟩:=H q hq
   rw [h3]
   exact h4.mpr (qO xs q hq)
theorem ww {c:List T->R T} {w x:T} (h:isT "tuple" w=false\/isT "tuple" x=false) {b1:Bool} (he:eqC w x= .ok b1):zp (ZP c (en0 2 [w,x]))= .ok (.bl (b1 && (isT "bool" w == isT "bool" x))):=by
 have e:en0 2 [w,x]=en2 w x:=rfl
 have ec:U5 (jg (ap1 (Jk "tuple") (vB 0))) (jg (ap1 (Jk "tuple") (vB 1))) (en2 w x)= .ok false:=by
  show (R.ok (isT "tuple" w)).bind _=_
  rw [bOk]
  rcases h with h | h
  ·rw [h]; rfl
  ·show (if isT "tuple" w=true then R.ok (isT "tuple" x) else _)=_
   rw [h]
   cases isT "tuple" w <;> rfl
 rw [e,ZP,zI (y3 ec),Jb (t:= .bl (b1 && (isT "bool" w == isT "bool" x)))]
 ·rfl
 ·show wo _ _ (en2 w x)=_
  rw [wd,jB,w0,bOk,w1,bOk,he,bOk,ZD]
  have:wg eqC (ap1 (Jk "bool") (vB 0)) (ap1 (Jk "bool") (vB 1)) (en2 w x)= .ok (.bl (isT "bool" w == isT "bool" x)):=rfl
  rw [this]
  cases b1 <;> rfl
noncomputable def Wk:Nat->T->Prop
 | _, .int _=>True
 | _, .str _=>True
 | n+1, .tup xs=>xs.length<=3/\∀ x∈xs,Wk n x
 | _,_=>False
theorem kR:∀ (n:Nat) (w x:T),Wk n w->∃ b,ZQ (n+1) 0 [w,x]= .ok (.bl b)/\(b=true↔w=x):=by
 intro n
 induction n with
 | zero=>
  intro w x h
  have e:ZQ 1 0 [w,x]=zp (ZP (ZQ 0 0) (en0 2 [w,x])):=rfl
  rw [e]
  cases w with
  | int i=>
   refine ⟨_,ww (.inl rfl) (b1:=okB (((eqC (.int i) x).bind fun b=> .ok (.bl b)))) ?_, ?_⟩
   ·cases x <;> rfl
   ·cases x <;> simp [okB,eqC,eqF,R.bind,isT,tyN]
  | str s=>
   refine ⟨_,ww (.inl rfl) (b1:=okB (((eqC (.str s) x).bind fun b=> .ok (.bl b)))) ?_, ?_⟩
   ·cases x <;> rfl
   ·cases x <;> simp [okB,eqC,eqF,R.bind,isT,tyN]
  | _=>exact h.elim
 | succ n ih=>
  intro w x h
  have e:ZQ (n+2) 0 [w,x]=zp (ZP (ZQ (n+1) 0) (en0 2 [w,x])):=rfl
  rw [e]
  cases w with
  | int i=>
   refine ⟨_,ww (.inl rfl) (b1:=okB (((eqC (.int i) x).bind fun b=> .ok (.bl b)))) ?_, ?_⟩
   ·cases x <;> rfl
   ·cases x <;> simp [okB,eqC,eqF,R.bind,isT,tyN]
  | str s=>
   refine ⟨_,ww (.inl rfl) (b1:=okB (((eqC (.str s) x).bind fun b=> .ok (.bl b)))) ?_, ?_⟩
   ·cases x <;> rfl
   ·cases x <;> simp [okB,eqC,eqF,R.bind,isT,tyN]
  | tup xs=>
   cases x with
   | tup ys=>exact xD xs ys h.1 fun q hq=>ih q.1 q.2 (h.2 q.1 (List.of_mem_zip hq).1)
   | _=>exact ⟨_,ww (.inr rfl) (b1:=false) rfl,by simp⟩
  | _=>exact h.elim
theorem kS:∀ (d:Nat) (k:Kd) (x:T),k.Ok d->k.has x=true->Wk d x
 | 0,_,_,h,_=>h.elim
 | d+1, .whole lo hi,x,h,hx=>by
  rw [Kd.has] at hx
  obtain ⟨i,rfl⟩:=YK hx
  trivial
 | d+1, .pick cs,x,h,hx=>by
  rw [Kd.has] at hx
  dsimp only at hx
  split at hx
  ·trivial
  ·cases hx
 | d+1, .row ks,x,h,hx=>by
  rw [Kd.has] at hx
  dsimp only at hx
  split at hx
  ·rename_i xs
   rw [Bool.and_eq_true,beq_iff_eq] at hx
   refine ⟨by rw [hx.1]; exact h.2.1,fun y hy=> ?_⟩
   obtain ⟨k,hk,hh⟩:=y9 ks xs hx.1 hx.2 y hy
   exact kS d k y (h.2.2 k hk) hh
  ·cases hx
 | d+1, .many k lo hi,x,h,hx=>by
  rw [Kd.has] at hx
  dsimp only at hx
  split at hx
  ·rename_i xs
   rw [Bool.and_eq_true,Bool.and_eq_true,decide_eq_true_eq,decide_eq_true_eq,List.all_eq_true] at hx
   exact ⟨Nat.le_trans hx.1.2 h.2.1,fun y hy=>kS d k y h.2.2 (hx.2 y hy)⟩
  ·cases hx
theorem Wk.mono:∀ (n:Nat) (w:T),Wk n w->Wk (n+1) w:=by
 intro n
 induction n with
 | zero=>intro w h; cases w <;> first | trivial | exact h.elim
 | succ n ih=>
  intro w h
  cases w with
  | int | str=>trivial
  | tup xs=>exact ⟨h.1,fun x hx=>ih x (h.2 x hx)⟩
  | _=>exact h.elim
theorem gN (n m:Nat) (w:T) (h:Wk n w):Wk (n+m) w:=by
 induction m with
 | zero=>exact h
 | succ m ih=>exact Wk.mono _ _ ih
theorem YV {k:Kd} (hk:k.Ok 3) {w:T} (hw:k.has w=true) (x:T):∃ b,zM 40 [w,x]= .ok (.bl b)/\(b=true↔w=x):=
 kR 39 w x (gN 3 36 w (kS 3 k w hk hw))
end G
namespace G
open PySem L2 PV
theorem gO (j:Int):Zw (.int 10) (.int j)= .ok (.int (10*j)):=Qa _ _ (.inl ⟨by decide,by decide⟩)
theorem kT (xs:List T):neC (.lst xs) (.lst [])= .ok (!xs.isEmpty):=by cases xs <;> rfl
theorem gP (b:Bool):neC (.bl b) (.bl b)= .ok false:=by cases b <;> rfl
theorem WW {ft:En->R Bool} {fe:En->R T} {p:T->Bool} {h:T->T} {k:Nat} {js:List Nat} {ρ:En} (ts:List T) (hl:ts.length<=bnd) (H:∀ t∈ts,ft ((Uo k js ρ).set 0 (.vl t))= .ok (p t)/\(p t=true->fe ((Uo k js ρ).set 0 (.vl t))= .ok (h t))):zT (zG 0) ft fe k js ρ ts= .ok ((ts.filter p).map h):=by
 unfold zT
 rw [if_pos hl,Zp ts _ H]
 rfl
noncomputable abbrev en8 (ns:List Int) (k:Kd) (a b c d e:Sl):En:=[.vl (scr ns), .vl k.t, .vl (.lst k.all),a,b,c,d,e]
noncomputable abbrev wkB:En->RS:=(zR (Z3 4 (zf ixT (vE 2) (zd 3 zl (z9 (vE 0) (z9 (zf zA (cE (.int 4000)) (zf Zw (cE (.int 10)) (vE 3))) (z9 (ap1 ZI (vB 2)) (zh)))))))
  (zR (Z3 5 (zd 3 zy (z9 (vE 0) (z9 (zf zA (cE (.int 4001)) (zf Zw (cE (.int 10)) (vE 3))) (z9 (vE 4) (zh))))))
  (zR (Z3 6 (wg neC (Zf (JK (vE 2)) (zG 0) (jg (zd 2 (zM 40) (z9 (vE 0) (z9 (vE 1) (zh))))) (vE 0) 1 [5]) (Jo (zh))))
  (zR (Z3 7 (zd 2 zC (z9 (vE 1) (z9 (vE 5) (zh)))))
  (ifS (orT (Zl neC (vB 7) (vB 6)) (Wg (jg (ap1 (Jk "bool") (vB 7))))) (Zc (cE (.bl false))) (nxS))))))
theorem gQ {ns:List Int} {k:Kd} {b c' d e:Sl} {j c:Int}:zf zA (cE (.int c)) (zf Zw (cE (.int 10)) (vE 3)) (en8 ns k (.vl (.int j)) b c' d e)= .ok (.int (c+10*j)):=by
 rw [zn,ZE,bOk,zn,ZE,bOk,v3,bOk,gO,bOk,ZR]
theorem gR {ns:List Int} {k:Kd} (hk:k.Ok 3) (h60:k.all.length<=60) {a b d e:Sl} (x:T):wg neC (Zf (JK (vE 2)) (zG 0) (jg (zd 2 (zM 40) (z9 (vE 0) (z9 (vE 1) (zh))))) (vE 0) 1 [5]) (Jo (zh)) (en8 ns k a b (.vl x) d e)= .ok (.bl (k.has x)):=by
 have ec:zT (zG 0) (jg (zd 2 (zM 40) (z9 (vE 0) (z9 (vE 1) (zh))))) (vE 0) 1 [5] (en8 ns k a b (.vl x) d e) k.all= .ok ((k.all.filter fun w=>okB (zM 40 [w,x])).map fun t=>t):=
  WW k.all (Nat.le_trans h60 (by decide)) fun t ht=>by
   obtain ⟨b,hb,_⟩:=YV hk ((wv k t).mp ht) x
   refine ⟨?_,fun _=>rfl⟩
   show jg (zd 2 (zM 40) (z9 (vE 0) (z9 (vE 1) (zh)))) (en2 t x)=_
   rw [wQ,Jm,v0,bOk,v1,bOk,hb]
   rfl
 have en:Jo zh (en8 ns k a b (.vl x) d e)= .ok (.lst []):=rfl
 have ei:JK (vE 2) (en8 ns k a b (.vl x) d e)= .ok k.all:=rfl
 rw [jB,Zg,ei,bOk,ec,bOk,bOk,en,bOk,kT,bOk,List.map_id']
 congr 2
 rw [Bool.eq_iff_iff]
 constructor
 ·intro h
  cases hf:k.all.filter (fun w=>okB (zM 40 [w,x])) with
  | nil=>rw [hf] at h; cases h
  | cons w ws=>
   have hw:w∈k.all.filter (fun w=>okB (zM 40 [w,x])):=by rw [hf]; exact List.mem_cons_self
   rw [List.mem_filter] at hw
   have h1:=(wv k w).mp hw.1
   obtain ⟨b,hb,hbb⟩:=YV hk h1 x
   have h2:=hw.2
   rw [hb] at h2
   rw [← hbb.mp h2]
   exact h1
 ·intro h
  have hx:x∈k.all.filter (fun w=>okB (zM 40 [w,x])):=by
   rw [List.mem_filter]
   obtain ⟨b,hb,hbb⟩:=YV hk h x
   exact ⟨(wv k x).mpr h,by rw [hb]; exact hbb.mpr rfl⟩
  cases hf:k.all.filter (fun w=>okB (zM 40 [w,x])) with
  | nil=>rw [hf] at hx; cases hx
  | cons w ws=>rfl
theorem w7 {t:T} {a b c d e f g:Sl} {ρ:En}:vB 7 (a :: b :: c :: d :: e :: f :: g :: .vl t :: ρ)= .ok t:=rfl
theorem w6 {t:T} {a b c d e f:Sl} {ρ:En}:vB 6 (a :: b :: c :: d :: e :: f :: .vl t :: ρ)= .ok t:=rfl
theorem v5 {t:T} {a b c d e:Sl} {ρ:En}:vE 5 (a :: b :: c :: d :: e :: .vl t :: ρ)= .ok t:=rfl
theorem v2' {t:T} {a b:Sl} {ρ:En}:vE 2 (a :: b :: .vl t :: ρ)= .ok t:=rfl
theorem w2' {t:T} {a b:Sl} {ρ:En}:vB 2 (a :: b :: .vl t :: ρ)= .ok t:=rfl
theorem kU (ns:List Int) {k:Kd} (hk:k.Ok 3) (h60:k.all.length<=60) (j:Nat) (b c d e:Sl):∃ b' c' d' e',wkB (en8 ns k (.vl (.int (0+(j:Int)))) b c d e)= .nx (en8 ns k (.vl (.int (0+(j:Int)))) b' c' d' e'):=by
 generalize hj:(0+(j:Int))=jj
 have hj0:0<=jj:=by omega
 have hpos:=wY 3 k hk
 obtain ⟨q,hq,q0,q1⟩:=Zv ns (4000+10*jj) (k.all.length:Int) (by omega) (by omega)
 obtain ⟨w,hw,hm⟩:=ixl (xs:=k.all) q0 q1
 have hh:=(wv k w).mp hm
 obtain ⟨r,hr,hF⟩:=yV ns (4001+10*jj) (by omega) (by omega) (by decide) (uH 3 k w hk hh)
 have e1:Z3 4 (zf ixT (vE 2) (zd 3 zl (z9 (vE 0) (z9 (zf zA (cE (.int 4000)) (zf Zw (cE (.int 10)) (vE 3))) (z9 (ap1 ZI (vB 2)) (zh)))))) (en8 ns k (.vl (.int jj)) b c d e)= .nx (en8 ns k (.vl (.int jj)) (.vl w) c d e):=by
  rw [jx (t:=w)]
  ·rfl
  ·rw [zn,v2',bOk,ZW,v0,bOk,gQ,bOk,jA,w2',bOk,vJ,bOk,hq,bOk,hw]
 have e2:Z3 5 (zd 3 zy (z9 (vE 0) (z9 (zf zA (cE (.int 4001)) (zf Zw (cE (.int 10)) (vE 3))) (z9 (vE 4) (zh))))) (en8 ns k (.vl (.int jj)) (.vl w) c d e)= .nx (en8 ns k (.vl (.int jj)) (.vl w) (.vl r) d e):=by
  rw [jx (t:=r)]
  ·rfl
  ·rw [ZW,v0,bOk,gQ,bOk,v4,bOk,hr]
 have e3:Z3 6 (wg neC (Zf (JK (vE 2)) (zG 0) (jg (zd 2 (zM 40) (z9 (vE 0) (z9 (vE 1) (zh))))) (vE 0) 1 [5]) (Jo (zh))) (en8 ns k (.vl (.int jj)) (.vl w) (.vl r) d e)= .nx (en8 ns k (.vl (.int jj)) (.vl w) (.vl r) (.vl (.bl (k.has r))) e):=by
  rw [jx (gR hk h60 r)]
  rfl
 have e4:Z3 7 (zd 2 zC (z9 (vE 1) (z9 (vE 5) (zh)))) (en8 ns k (.vl (.int jj)) (.vl w) (.vl r) (.vl (.bl (k.has r))) e)= .nx (en8 ns k (.vl (.int jj)) (.vl w) (.vl r) (.vl (.bl (k.has r))) (.vl (.bl (k.has r)))):=by
  rw [jx (t:= .bl (k.has r))]
  ·rfl
  ·rw [Jm,v1,bOk,v5,bOk,qM k hk r]
 have e5:orT (Zl neC (vB 7) (vB 6)) (Wg (jg (ap1 (Jk "bool") (vB 7)))) (en8 ns k (.vl (.int jj)) (.vl w) (.vl r) (.vl (.bl (k.has r))) (.vl (.bl (k.has r))))= .ok false:=by
  rw [Q6,ZX,w7,bOk,w6,bOk,gP,bOk,if_neg Bool.false_ne_true]
  rfl
 refine ⟨.vl w, .vl r, .vl (.bl (k.has r)), .vl (.bl (k.has r)), ?_⟩
 unfold wkB
 rw [zI e1,zI e2,zI e3,zI e4,y3 e5]
theorem Vj (ns:List Int) {k:Kd} (hk:k.Ok 3) (h60:k.all.length<=60):∀ (js:List Nat) (a b c d e:Sl),∃ a' b' c' d' e',Jl (zG 3) wkB (js.map fun (j:Nat)=>T.int (0+(j:Int))) (en8 ns k a b c d e)= .nx (en8 ns k a' b' c' d' e')
 | [],a,b,c,d,e=>⟨a,b,c,d,e,rfl⟩
 | j :: js,a,b,c,d,e=>by
  have s3:zG 3 (T.int (0+(j:Int))) (en8 ns k a b c d e)= .ok (en8 ns k (.vl (.int (0+(j:Int)))) b c d e):=rfl
  obtain ⟨b',c',d',e',h⟩:=kU ns hk h60 j b c d e
  rw [List.map_cons,V8 s3 h]
  exact Vj ns hk h60 js _ _ _ _ _
theorem law_ok (ns:List Int) (h:ns.length<=63):U9 [.fz (ns.map T.int)]= .ok (.bl true):=by
 obtain ⟨k,hk,h60,hs⟩:=xz ns 0 (by omega) 60 (by omega)
 have hs:ZN [scr ns, .int 0, .int 60]= .ok k.t:=hs
 have hi:=qL 3 k hk
 have hpos:=wY 3 k hk
 have ha:zE 8 [k.t]= .ok (.lst k.all):=V7 3 8 (by omega) (by omega) k hk (by omega)
 obtain ⟨r,hr,hF⟩:=yV ns 4100 (by omega) (by omega) (by decide) (uf 3 k.t hi)
 have e:U9 [.fz (ns.map T.int)]=zp (xa zl (zE 8) ZN (j1 12) zy zC (zM 40) [.vl (scr ns), .un, .un, .un, .un, .un, .un, .un]):=rfl
 have e1:Z3 1 (zd 3 ZN (z9 (vE 0) (z9 (cE (.int 0)) (z9 (cE (.int 60)) (zh))))) [.vl (scr ns), .un, .un, .un, .un, .un, .un, .un]= .nx [.vl (scr ns), .vl k.t, .un, .un, .un, .un, .un, .un]:=by
  rw [jx (t:=k.t)]
  ·rfl
  ·rw [ZW,v0,bOk,ZE,bOk,ZE,bOk,hs]
 have e2:Z3 2 (zd 1 (zE 8) (z9 (vE 1) (zh))) [.vl (scr ns), .vl k.t, .un, .un, .un, .un, .un, .un]= .nx (en8 ns k .un .un .un .un .un):=by
  rw [jx (t:= .lst k.all)]
  ·rfl
  ·rw [JT,v1,bOk,ha]
 have ec:zT (zG 0) (Zl U4 (zd 2 zC (z9 (vE 1) (z9 (vE 0) (zh)))) (cE (.bl true))) (vE 0) 1 [1] (en8 ns k .un .un .un .un .un) k.all= .ok ((k.all.filter fun _=>false).map fun t=>t):=
  WW k.all (Nat.le_trans h60 (by decide)) fun t ht=>by
   refine ⟨?_,fun h=>by cases h⟩
   show Zl U4 (zd 2 zC (z9 (vE 1) (z9 (vE 0) (zh)))) (cE (.bl true)) (en2 t k.t)=_
   rw [ZX,Jm,v1,bOk,v0,bOk,qM k hk t,(wv k t).mp ht]
   rfl
 have ef:k.all.filter (fun _=>false)=[]:=by simp
 have e3:Zl neC (Zf (JK (vE 2)) (zG 0) (Zl U4 (zd 2 zC (z9 (vE 1) (z9 (vE 0) (zh)))) (cE (.bl true))) (vE 0) 1 [1]) (Jo (zh)) (en8 ns k .un .un .un .un .un)= .ok false:=by
  have ei:JK (vE 2) (en8 ns k .un .un .un .un .un)= .ok k.all:=rfl
  rw [ZX,Zg,ei,bOk,ec,bOk,bOk,ef]
  rfl
 obtain ⟨a',b',c',d',e',el⟩:=Vj ns hk h60 (List.range 6) .un .un .un .un .un
 have e4:WN (jH (cE (.int 6))) (zG 3) wkB (en8 ns k .un .un .un .un .un)= .nx (en8 ns k a' b' c' d' e'):=el
 have e5:Z3 5 (zd 3 zy (z9 (vE 0) (z9 (cE (.int 4100)) (z9 (vE 1) (zh))))) (en8 ns k a' b' c' d' e')= .nx (en8 ns k a' b' (.vl r) d' e'):=by
  rw [jx (t:=r)]
  ·rfl
  ·rw [ZW,v0,bOk,ZE,bOk,v1,bOk,hr]
 rw [e,xa,zI e1,zI e2,zI (y3 e3),zI e4,zI e5,Jb (t:= .bl true)]
 ·rfl
 ·show orE _ _ (en8 ns k (Wv a') (Wv b') (.vl r) (Wv d') (Wv e'))=_
  generalize Wv a' =a1
  generalize Wv b' =b1
  generalize Wv d' =d1
  generalize Wv e' =e1
  have ek:zd 2 (j1 12) (z9 (vE 5) (z9 (cE (.int 3)) (zh))) (en8 ns k a1 b1 (.vl r) d1 e1)= .ok (.bl (isK 3 r)):=by
   rw [Jm,v5,bOk,ZE,bOk,Ua r hF.so]
  unfold orE
  rw [ek,bOk]
  cases hkr:isK 3 r with
  | true=>rfl
  | false=>
   dsimp only
   obtain ⟨w,hw,hm⟩:=ixl (xs:=k.all) (i:=0) (by omega) (by omega)
   have t1:wg eqC (zd 2 zC (z9 (vE 5) (z9 (zf ixT (vE 2) (cE (.int 0))) (zh)))) (cE (.str "no kind")) (en8 ns k a1 b1 (.vl r) d1 e1)= .ok (.bl true):=by
    rw [jB,Jm,v5,bOk,zn,v2',bOk,ZE,bOk,hw,bOk,qN r hF.so hkr w]
    rfl
   have t2:wg eqC (zd 2 zC (z9 (vE 5) (z9 (cE .non) (zh)))) (cE (.str "no kind")) (en8 ns k a1 b1 (.vl r) d1 e1)= .ok (.bl true):=by
    rw [jB,Jm,v5,bOk,ZE,bOk,qN r hF.so hkr .non]
    rfl
   rw [wd,t1,ZD,if_pos rfl,t2]
end G
namespace G
open PySem PySem.Spec PyProof.Rows L2 PV
noncomputable def top (i:Nat):Stmt:=PySem.Challenge.pw_worthkinds_k02_whole_worths.main.body.getD i (.Pass ⟨0,0,0,0⟩)
noncomputable abbrev uI:Stmt:=top 25
noncomputable abbrev YW:List Str:=["_law_script","_law_k"]
theorem Y4:zv YW ["_law_script","_law_k"] (ze uI):=by refine ⟨rfl,rfl,rfl, ?_,rfl, ?_, ?_⟩ <;> decide+kernel
noncomputable abbrev uJ:Stmt:=top 26
noncomputable abbrev YX:List Str:=["_law_script","_law_k","_law_many","_law_drawn"]
theorem WX:zv YX ["_law_script","_law_k","_law_many"] (ze uJ):=by refine ⟨rfl,rfl,rfl, ?_,rfl, ?_, ?_⟩ <;> decide+kernel
noncomputable abbrev JD:Stmt:=top 27
noncomputable abbrev wR:List Str:=["_law_script","_law_at_here","_law_letters"]
theorem wx:zv wR ["_law_script","_law_at_here"] (ze JD):=by refine ⟨rfl,rfl,rfl, ?_,rfl, ?_, ?_⟩ <;> decide+kernel
noncomputable abbrev jN:Stmt:=top 28
noncomputable abbrev we:List Str:=["_law_script","_law_at_here","_law_low","_law_words","_law_k","_law_word_here"]
theorem zX:zv we ["_law_script","_law_at_here"] (ze jN):=by refine ⟨rfl,rfl,rfl, ?_,rfl, ?_, ?_⟩ <;> decide+kernel
noncomputable abbrev wZ:Stmt:=top 29
noncomputable abbrev uK:List Str:=["_law_script","_law_at_here","_law_deep","_law_way","_law_some","_law_low"]
theorem Js:zv uK ["_law_script","_law_at_here","_law_deep"] (ze wZ):=by refine ⟨rfl,rfl,rfl, ?_,rfl, ?_, ?_⟩ <;> decide+kernel
noncomputable abbrev JE:Stmt:=top 31
noncomputable abbrev wS:List Str:=["_law_lists","_law_made","_law_some","_law_longer","_law_ahead"]
theorem Zn:zv wS ["_law_lists"] (ze JE):=by refine ⟨rfl,rfl,rfl, ?_,rfl, ?_, ?_⟩ <;> decide+kernel
noncomputable abbrev wM:Stmt:=top 30
noncomputable abbrev WH:List Str:=["_law_kind_here","_law_made","_law_size_here"]
theorem W0:zv WH ["_law_kind_here"] (ze wM):=by refine ⟨rfl,rfl,rfl, ?_,rfl, ?_, ?_⟩ <;> decide+kernel
noncomputable abbrev W1:Stmt:=top 32
noncomputable abbrev uL:List Str:=["_law_kind_here","_law_sizes","_law_made","_law_size_here","_law_inner"]
theorem Ze:zv uL ["_law_kind_here"] (ze W1):=by refine ⟨rfl,rfl,rfl, ?_,rfl, ?_, ?_⟩ <;> decide+kernel
noncomputable abbrev WY:Stmt:=top 33
noncomputable abbrev Y5:List Str:=["_law_script","_law_at_here","_law_most","_law_kind_here","_law_k"]
theorem jT:zv Y5 ["_law_script","_law_at_here","_law_most"] (ze WY):=by refine ⟨rfl,rfl,rfl, ?_,rfl, ?_, ?_⟩ <;> decide+kernel
noncomputable abbrev w9:Stmt:=top 37
noncomputable abbrev Ws:List Str:=["_law_thing","_law_made","_law_k"]
theorem JF:zv Ws ["_law_thing"] (ze w9):=by refine ⟨rfl,rfl,rfl, ?_,rfl, ?_, ?_⟩ <;> decide+kernel
noncomputable abbrev Y6:Stmt:=top 38
noncomputable abbrev Vk:List Str:=["_law_thing","_law_place","_law_k"]
theorem WI:zv Vk ["_law_thing","_law_place"] (ze Y6):=by refine ⟨rfl,rfl,rfl, ?_,rfl, ?_, ?_⟩ <;> decide+kernel
noncomputable abbrev Uy:Stmt:=top 39
noncomputable abbrev Qi:List Str:=["_law_thing","_law_place","_law_new","_law_k"]
theorem uM:zv Qi ["_law_thing","_law_place","_law_new"] (ze Uy):=by refine ⟨rfl,rfl,rfl, ?_,rfl, ?_, ?_⟩ <;> decide+kernel
noncomputable abbrev Jc:Stmt:=top 40
noncomputable abbrev W2:List Str:=["_law_script","_law_at_here","_law_thing","_law_places_here","_law_place","_law_here","_law_some","_law_way","_law_k"]
theorem zB:zv W2 ["_law_script","_law_at_here","_law_thing"] (ze Jc):=by refine ⟨rfl,rfl,rfl, ?_,rfl, ?_, ?_⟩ <;> decide+kernel
noncomputable abbrev uN:Stmt:=top 41
noncomputable abbrev YY:List Str:=["_law_kept","_law_kinds"]
theorem WZ:zv YY ["_law_kept"] (ze uN):=by refine ⟨rfl,rfl,rfl, ?_,rfl, ?_, ?_⟩ <;> decide+kernel
noncomputable abbrev Uz:Stmt:=top 13
noncomputable abbrev Qj:List Str:=["thing"]
theorem YZ:zv Qj ["thing"] (ze Uz):=by refine ⟨rfl,rfl,rfl, ?_,rfl, ?_, ?_⟩ <;> decide+kernel
noncomputable abbrev Y7:Stmt:=top 16
noncomputable abbrev Vl:List Str:=["low","high","least","most"]
theorem Qk:zv Vl ["low","high","least","most"] (ze Y7):=by refine ⟨rfl,rfl,rfl, ?_,rfl, ?_, ?_⟩ <;> decide+kernel
noncomputable abbrev Wt:Stmt:=top 14
noncomputable abbrev ya:List Str:=["thing","least","most"]
theorem Ue:zv ya ["thing","least","most"] (ze Wt):=by refine ⟨rfl,rfl,rfl, ?_,rfl, ?_, ?_⟩ <;> decide+kernel
noncomputable abbrev uO:Stmt:=top 15
noncomputable abbrev Y8:List Str:=["thing"]
theorem Ql:zv Y8 ["thing"] (ze uO):=by refine ⟨rfl,rfl,rfl, ?_,rfl, ?_, ?_⟩ <;> decide+kernel
noncomputable abbrev uP:Stmt:=top 19
noncomputable abbrev qa:List Str:=["thing"]
theorem Y9:zv qa ["thing"] (ze uP):=by refine ⟨rfl,rfl,rfl, ?_,rfl, ?_, ?_⟩ <;> decide+kernel
noncomputable abbrev jU:Stmt:=top 18
noncomputable abbrev wa:List Str:=["thing","words"]
theorem wT:zv wa ["thing"] (ze jU):=by refine ⟨rfl,rfl,rfl, ?_,rfl, ?_, ?_⟩ <;> decide+kernel
noncomputable abbrev wf:Stmt:=top 17
noncomputable abbrev u6:List Str:=["thing","levels"]
theorem WJ:zv u6 ["thing","levels"] (ze wf):=by refine ⟨rfl,rfl,rfl, ?_,rfl, ?_, ?_⟩ <;> decide+kernel
noncomputable abbrev jq:Stmt:=top 20
noncomputable abbrev Jt:List Str:=["thing","levels"]
theorem W3:zv Jt ["thing","levels"] (ze jq):=by refine ⟨rfl,rfl,rfl, ?_,rfl, ?_, ?_⟩ <;> decide+kernel
noncomputable abbrev Ya:Stmt:=top 10
noncomputable abbrev Vm:List Str:=["thing"]
theorem Qm:zv Vm ["thing"] (ze Ya):=by refine ⟨rfl,rfl,rfl, ?_,rfl, ?_, ?_⟩ <;> decide+kernel
noncomputable abbrev uQ:Stmt:=top 12
noncomputable abbrev qb:List Str:=["kind"]
theorem Yb:zv qb ["kind"] (ze uQ):=by refine ⟨rfl,rfl,rfl, ?_,rfl, ?_, ?_⟩ <;> decide+kernel
noncomputable abbrev Jd:Stmt:=top 21
noncomputable abbrev wy:List Str:=["kind"]
theorem u7:zv wy ["kind"] (ze Jd):=by refine ⟨rfl,rfl,rfl, ?_,rfl, ?_, ?_⟩ <;> decide+kernel
noncomputable abbrev uR:Stmt:=top 22
noncomputable abbrev qc:List Str:=["kind","thing"]
theorem Yc:zv qc ["kind","thing"] (ze uR):=by refine ⟨rfl,rfl,rfl, ?_,rfl, ?_, ?_⟩ <;> decide+kernel
noncomputable abbrev wz:Stmt:=top 23
noncomputable abbrev u0:List Str:=["kinds","parts"]
theorem yb:zv u0 ["kinds","parts"] (ze wz):=by refine ⟨rfl,rfl,rfl, ?_,rfl, ?_, ?_⟩ <;> decide+kernel
noncomputable abbrev UA:Stmt:=top 11
noncomputable abbrev Qn:List Str:=["kind","thing"]
theorem qd:zv Qn ["kind","thing"] (ze UA):=by refine ⟨rfl,rfl,rfl, ?_,rfl, ?_, ?_⟩ <;> decide+kernel
noncomputable abbrev u3:Stmt:=top 42
noncomputable abbrev Yd:List Str:=["_law_kind_here","_law_thing","_law_kept","_law_answer","e"]
theorem jr:zv Yd ["_law_kind_here","_law_thing"] (ze u3):=by refine ⟨rfl,rfl,rfl, ?_,rfl, ?_, ?_⟩ <;> decide+kernel
noncomputable abbrev u4:Stmt:=top 34
noncomputable abbrev Ye:List Str:=["_law_thing","_law_low","_law_high"]
theorem yc:zv Ye ["_law_thing","_law_low","_law_high"] (ze u4):=by refine ⟨rfl,rfl,rfl, ?_,rfl, ?_, ?_⟩ <;> decide+kernel
noncomputable abbrev JG:Stmt:=top 35
noncomputable abbrev wU:List Str:=["_law_thing"]
theorem uS:zv wU ["_law_thing"] (ze JG):=by refine ⟨rfl,rfl,rfl, ?_,rfl, ?_, ?_⟩ <;> decide+kernel
noncomputable abbrev ZB:Stmt:=top 36
noncomputable abbrev j2:List Str:=["_law_thing","_law_deep","_law_word_here","_law_rest","_law_some","_law_words"]
theorem jt:zv j2 ["_law_thing","_law_deep"] (ze ZB):=by refine ⟨rfl,rfl,rfl, ?_,rfl, ?_, ?_⟩ <;> decide+kernel
noncomputable abbrev W4:Stmt:=top 43
noncomputable abbrev uT:List Str:=["_law_one","_law_other"]
theorem Yf:zv uT ["_law_one","_law_other"] (ze W4):=by refine ⟨rfl,rfl,rfl, ?_,rfl, ?_, ?_⟩ <;> decide+kernel
noncomputable abbrev xE:Stmt:=top 44
noncomputable abbrev kW:List Str:=["_law_script","_law_kind_here","_law_every","_law_k","_law_worth","_law_thing","_law_due","_law_told"]
theorem Wu:zv kW ["_law_script"] (ze xE):=by refine ⟨rfl,rfl,rfl, ?_,rfl, ?_, ?_⟩ <;> decide+kernel
structure Fn (K:PySem.W.Frag) (mg:Str->Option Value) (x:Str) (st:Stmt) (ps:List Str) (f:Addr) (fd:FuncData):Prop where
 F:Fun K x x st f fd
 b:L2.Binds K fd ps []
 m:mg x=some (.ref f)
noncomputable abbrev bmVE:List Value:=[.type "ValueError", .type "Exception", .type "BaseException", .type "object"]
set_option genInjectivity false in
set_option genSizeOf false in
structure Tx (K:PySem.W.Frag) (mg:Str->Option Value) where
 a__law_cell:Addr
 d__law_cell:FuncData
 C__law_cell:Fn K mg "_law_cell" uI ["_law_script","_law_k"] a__law_cell d__law_cell
 a__law_pick:Addr
 d__law_pick:FuncData
 C__law_pick:Fn K mg "_law_pick" uJ ["_law_script","_law_k","_law_many"] a__law_pick d__law_pick
 a__law_word_of:Addr
 d__law_word_of:FuncData
 C__law_word_of:Fn K mg "_law_word_of" JD ["_law_script","_law_at_here"] a__law_word_of d__law_word_of
 a__law_leaf_kind:Addr
 d__law_leaf_kind:FuncData
 C__law_leaf_kind:Fn K mg "_law_leaf_kind" jN ["_law_script","_law_at_here"] a__law_leaf_kind d__law_leaf_kind
 a__law_kind:Addr
 d__law_kind:FuncData
 C__law_kind:Fn K mg "_law_kind" wZ ["_law_script","_law_at_here","_law_deep"] a__law_kind d__law_kind
 a__law_rows_of:Addr
 d__law_rows_of:FuncData
 C__law_rows_of:Fn K mg "_law_rows_of" JE ["_law_lists"] a__law_rows_of d__law_rows_of
 a__law_all:Addr
 d__law_all:FuncData
 C__law_all:Fn K mg "_law_all" wM ["_law_kind_here"] a__law_all d__law_all
 a__law_size:Addr
 d__law_size:FuncData
 C__law_size:Fn K mg "_law_size" W1 ["_law_kind_here"] a__law_size d__law_size
 a__law_small:Addr
 d__law_small:FuncData
 C__law_small:Fn K mg "_law_small" WY ["_law_script","_law_at_here","_law_most"] a__law_small d__law_small
 a__law_places:Addr
 d__law_places:FuncData
 C__law_places:Fn K mg "_law_places" w9 ["_law_thing"] a__law_places d__law_places
 a__law_at:Addr
 d__law_at:FuncData
 C__law_at:Fn K mg "_law_at" Y6 ["_law_thing","_law_place"] a__law_at d__law_at
 a__law_put:Addr
 d__law_put:FuncData
 C__law_put:Fn K mg "_law_put" Uy ["_law_thing","_law_place","_law_new"] a__law_put d__law_put
 a__law_spoilt_thing:Addr
 d__law_spoilt_thing:FuncData
 C__law_spoilt_thing:Fn K mg "_law_spoilt_thing" Jc ["_law_script","_law_at_here","_law_thing"] a__law_spoilt_thing d__law_spoilt_thing
 a__law_word:Addr
 d__law_word:FuncData
 C__law_word:Fn K mg "_law_word" uN ["_law_kept"] a__law_word d__law_word
 a_is_whole:Addr
 d_is_whole:FuncData
 C_is_whole:Fn K mg "is_whole" Uz ["thing"] a_is_whole d_is_whole
 a_is_span:Addr
 d_is_span:FuncData
 C_is_span:Fn K mg "is_span" Y7 ["low","high","least","most"] a_is_span d_is_span
 a_is_tuple_of:Addr
 d_is_tuple_of:FuncData
 C_is_tuple_of:Fn K mg "is_tuple_of" Wt ["thing","least","most"] a_is_tuple_of d_is_tuple_of
 a_is_word:Addr
 d_is_word:FuncData
 C_is_word:Fn K mg "is_word" uO ["thing"] a_is_word d_is_word
 a_is_choice:Addr
 d_is_choice:FuncData
 C_is_choice:Fn K mg "is_choice" uP ["thing"] a_is_choice d_is_choice
 a_are_choices:Addr
 d_are_choices:FuncData
 C_are_choices:Fn K mg "are_choices" jU ["thing"] a_are_choices d_are_choices
 a_is_kind_within:Addr
 d_is_kind_within:FuncData
 C_is_kind_within:Fn K mg "is_kind_within" wf ["thing","levels"] a_is_kind_within d_is_kind_within
 a_are_kinds_within:Addr
 d_are_kinds_within:FuncData
 C_are_kinds_within:Fn K mg "are_kinds_within" jq ["thing","levels"] a_are_kinds_within d_are_kinds_within
 a_is_kind:Addr
 d_is_kind:FuncData
 C_is_kind:Fn K mg "is_kind" Ya ["thing"] a_is_kind d_is_kind
 a_need_kind:Addr
 d_need_kind:FuncData
 C_need_kind:Fn K mg "need_kind" uQ ["kind"] a_need_kind d_need_kind
 a_words_of_pick:Addr
 d_words_of_pick:FuncData
 C_words_of_pick:Fn K mg "words_of_pick" Jd ["kind"] a_words_of_pick d_words_of_pick
 a_has_worth:Addr
 d_has_worth:FuncData
 C_has_worth:Fn K mg "has_worth" uR ["kind","thing"] a_has_worth d_has_worth
 a_have_parts:Addr
 d_have_parts:FuncData
 C_have_parts:Fn K mg "have_parts" wz ["kinds","parts"] a_have_parts d_have_parts
 a_is_worth:Addr
 d_is_worth:FuncData
 C_is_worth:Fn K mg "is_worth" UA ["kind","thing"] a_is_worth d_is_worth
 a__law_tried:Addr
 d__law_tried:FuncData
 C__law_tried:Fn K mg "_law_tried" u3 ["_law_kind_here","_law_thing"] a__law_tried d__law_tried
 a__law_whole:Addr
 d__law_whole:FuncData
 C__law_whole:Fn K mg "_law_whole" u4 ["_law_thing","_law_low","_law_high"] a__law_whole d__law_whole
 a__law_is_word:Addr
 d__law_is_word:FuncData
 C__law_is_word:Fn K mg "_law_is_word" JG ["_law_thing"] a__law_is_word d__law_is_word
 a__law_is_kind:Addr
 d__law_is_kind:FuncData
 C__law_is_kind:Fn K mg "_law_is_kind" ZB ["_law_thing","_law_deep"] a__law_is_kind d__law_is_kind
 a__law_same:Addr
 d__law_same:FuncData
 C__law_same:Fn K mg "_law_same" W4 ["_law_one","_law_other"] a__law_same d__law_same
 a_law:Addr
 d_law:FuncData
 C_law:Fn K mg "law" xE ["_law_script"] a_law d_law
 z_ValueError:mg "ValueError"=none
 z_all:mg "all"=none
 z_bool:mg "bool"=none
 z_enumerate:mg "enumerate"=none
 z_int:mg "int"=none
 z_isinstance:mg "isinstance"=none
 z_len:mg "len"=none
 z_list:mg "list"=none
 z_min:mg "min"=none
 z_range:mg "range"=none
 z_set:mg "set"=none
 z_str:mg "str"=none
 z_tuple:mg "tuple"=none
 z_zip:mg "zip"=none
 c_DEEPEST:∃ u,mg "DEEPEST"=some u/\∃ t,u=Value.int 3 t
set_option genInjectivity false in
set_option genSizeOf false in
structure Tq (K:PySem.W.Frag) (mg:Str->Option Value) (base:Heap) (cl:Nat->Value) where
 q_Ended:Addr
 q_NoKind:Addr
 q_NoRule:Addr
 q_NoText:Addr
 q_NoWorth:Addr
 q_TooMany:Addr
 q_WorthError:Addr
 X_k:XK1 K cl okX
 e_WorthError:∀ c,okX c=true->PySem.W.exmOne K (cl c) (.ref q_WorthError)=some true
 l_NoKind:cl 0= .ref q_NoKind
 m_Ended:mg "Ended"=some (.ref q_Ended)
 m_NoKind:mg "NoKind"=some (.ref q_NoKind)
 m_NoRule:mg "NoRule"=some (.ref q_NoRule)
 m_NoText:mg "NoText"=some (.ref q_NoText)
 m_NoWorth:mg "NoWorth"=some (.ref q_NoWorth)
 m_TooMany:mg "TooMany"=some (.ref q_TooMany)
 m_WorthError:mg "WorthError"=some (.ref q_WorthError)
 o_NoKind:OwnCls "NoKind" q_NoKind bmVE "ValueError.__new__" mg base
 t_Ended:∀ c,okX c=true->PySem.W.kitOne K (cl c) (.ref q_Ended)=some (uu c)
 t_NoKind:∀ c,okX c=true->PySem.W.kitOne K (cl c) (.ref q_NoKind)=some (WB c)
 t_NoRule:∀ c,okX c=true->PySem.W.kitOne K (cl c) (.ref q_NoRule)=some (WC c)
 t_NoText:∀ c,okX c=true->PySem.W.kitOne K (cl c) (.ref q_NoText)=some (WD c)
 t_NoWorth:∀ c,okX c=true->PySem.W.kitOne K (cl c) (.ref q_NoWorth)=some (wV c)
 t_TooMany:∀ c,okX c=true->PySem.W.kitOne K (cl c) (.ref q_TooMany)=some (wW c)
 t_ValueError:∀ c,okX c=true->PySem.W.kitOne K (cl c) (.type "ValueError")=some (JA c)
section
variable (P:Program) (w:World) {K:PySem.W.Frag} {mg:Str->Option Value} (base:Heap) (cl:Nat->Value) (tx:Tx K mg) (k:Nat) (c:List T->R T)
noncomputable abbrev W5:Prop:=jF P w K mg base CX0 k tx.a__law_cell tx.d__law_cell ["_law_script","_law_k"] (spP cl 2 c)
noncomputable abbrev jc:Prop:=jF P w K mg base CX0 k tx.a__law_pick tx.d__law_pick ["_law_script","_law_k","_law_many"] (spP cl 3 c)
noncomputable abbrev JH:Prop:=jF P w K mg base CX0 k tx.a__law_word_of tx.d__law_word_of ["_law_script","_law_at_here"] (spP cl 2 c)
noncomputable abbrev jO:Prop:=jF P w K mg base CX0 k tx.a__law_leaf_kind tx.d__law_leaf_kind ["_law_script","_law_at_here"] (spP cl 2 c)
noncomputable abbrev Je:Prop:=jF P w K mg base CX0 k tx.a__law_kind tx.d__law_kind ["_law_script","_law_at_here","_law_deep"] (spP cl 3 c)
noncomputable abbrev JI:Prop:=jF P w K mg base CX0 k tx.a__law_rows_of tx.d__law_rows_of ["_law_lists"] (spP cl 1 c)
noncomputable abbrev jY:Prop:=jF P w K mg base CX0 k tx.a__law_all tx.d__law_all ["_law_kind_here"] (spP cl 1 c)
noncomputable abbrev Jf:Prop:=jF P w K mg base CX0 k tx.a__law_size tx.d__law_size ["_law_kind_here"] (spP cl 1 c)
noncomputable abbrev wA:Prop:=jF P w K mg base CX0 k tx.a__law_small tx.d__law_small ["_law_script","_law_at_here","_law_most"] (spP cl 3 c)
noncomputable abbrev ju:Prop:=jF P w K mg base CX0 k tx.a__law_places tx.d__law_places ["_law_thing"] (spP cl 1 c)
noncomputable abbrev uU:Prop:=jF P w K mg base CX0 k tx.a__law_at tx.d__law_at ["_law_thing","_law_place"] (spP cl 2 c)
noncomputable abbrev JV:Prop:=jF P w K mg base CX0 k tx.a__law_put tx.d__law_put ["_law_thing","_law_place","_law_new"] (spP cl 3 c)
noncomputable abbrev jd:Prop:=jF P w K mg base CX0 k tx.a__law_spoilt_thing tx.d__law_spoilt_thing ["_law_script","_law_at_here","_law_thing"] (spP cl 3 c)
noncomputable abbrev W6 (c:Nat->R T):Prop:=jF P w K mg base CX0 k tx.a__law_word tx.d__law_word ["_law_kept"] (spC cl c)
noncomputable abbrev JW:Prop:=jF P w K mg base CX0 k tx.a_is_whole tx.d_is_whole ["thing"] (spP cl 1 c)
noncomputable abbrev uV:Prop:=jF P w K mg base CX0 k tx.a_is_span tx.d_is_span ["low","high","least","most"] (spP cl 4 c)
noncomputable abbrev ZT:Prop:=jF P w K mg base CX0 k tx.a_is_tuple_of tx.d_is_tuple_of ["thing","least","most"] (spP cl 3 c)
noncomputable abbrev uW:Prop:=jF P w K mg base CX0 k tx.a_is_word tx.d_is_word ["thing"] (spP cl 1 c)
noncomputable abbrev W7:Prop:=jF P w K mg base CX0 k tx.a_is_choice tx.d_is_choice ["thing"] (spP cl 1 c)
noncomputable abbrev wb:Prop:=jF P w K mg base CX0 k tx.a_are_choices tx.d_are_choices ["thing"] (spP cl 1 c)
noncomputable abbrev Z9:Prop:=jF P w K mg base CX0 k tx.a_is_kind_within tx.d_is_kind_within ["thing","levels"] (spP cl 2 c)
noncomputable abbrev ZH:Prop:=jF P w K mg base CX0 k tx.a_are_kinds_within tx.d_are_kinds_within ["thing","levels"] (spP cl 2 c)
noncomputable abbrev uX:Prop:=jF P w K mg base CX0 k tx.a_is_kind tx.d_is_kind ["thing"] (spP cl 1 c)
noncomputable abbrev W8:Prop:=jF P w K mg base (CX1 P w) k tx.a_need_kind tx.d_need_kind ["kind"] (spP cl 1 c)
noncomputable abbrev Jg:Prop:=jF P w K mg base CX0 k tx.a_words_of_pick tx.d_words_of_pick ["kind"] (spP cl 1 c)
noncomputable abbrev Jh:Prop:=jF P w K mg base CX0 k tx.a_has_worth tx.d_has_worth ["kind","thing"] (spP cl 2 c)
noncomputable abbrev Ju:Prop:=jF P w K mg base CX0 k tx.a_have_parts tx.d_have_parts ["kinds","parts"] (spP cl 2 c)
noncomputable abbrev WK:Prop:=jF P w K mg base (CX1 P w) k tx.a_is_worth tx.d_is_worth ["kind","thing"] (spP cl 2 c)
noncomputable abbrev wB:Prop:=jF P w K mg base CX0 k tx.a__law_tried tx.d__law_tried ["_law_kind_here","_law_thing"] (spP cl 2 c)
noncomputable abbrev wC:Prop:=jF P w K mg base CX0 k tx.a__law_whole tx.d__law_whole ["_law_thing","_law_low","_law_high"] (spP cl 3 c)
noncomputable abbrev JJ:Prop:=jF P w K mg base CX0 k tx.a__law_is_word tx.d__law_is_word ["_law_thing"] (spP cl 1 c)
noncomputable abbrev j3:Prop:=jF P w K mg base CX0 k tx.a__law_is_kind tx.d__law_is_kind ["_law_thing","_law_deep"] (spP cl 2 c)
noncomputable abbrev Ji:Prop:=jF P w K mg base CX0 k tx.a__law_same tx.d__law_same ["_law_one","_law_other"] (spP cl 2 c)
noncomputable abbrev kX:Prop:=jF P w K mg base CX0 k tx.a_law tx.d_law ["_law_script"] (spP cl 1 c)
end
theorem cZ {X:Cx} {Y:Fx} {cl:Nat->Value} {k j n:Nat} {f:Addr} {fd:FuncData} {ps:List Str} {g:List T->R T} {x:Str} {st:Stmt} {a:Expr} {es:List Expr} {ga:En->R (List T)} {p pos:Pos} (hy:Y.cl=cl) (F:jF X.prog X.w X.K X.mg X.base CX0 j f fd ps (spP cl n g)) (hr:Wx k X.A) (C:Fn X.K X.mg x st ps f fd) (ha:Yz X Y (a :: es) ga) (hj:j<=k:=by omega) (gl:Gl X x:=by rfl) (hd:(x == ("__debug__":Str))=false:=by decide)
  (hs:starEach (a :: es) X.env=(false,eval a X.env) :: starEach es X.env:=by exact ZL rfl) (hz:((backTo pos (starEach es X.env)).any fun x=>x.fst)=false:=by exact jP rfl):Snd X Y (.Call (.Name x p) (a :: es) [] pos) (zd n g ga):=XV hy F hr hj gl C.m C.F.kp C.b ha hd hs hz
theorem cX {X:Cx} {Y:Fx} {cl:Nat->Value} {k j n:Nat} {f:Addr} {fd:FuncData} {ps:List Str} {g:List T->R T} {x:Str} {st:Stmt} {a:Expr} {es:List Expr} {ga:En->R (List T)} {p pos:Pos} (hy:Y.cl=cl) (hp:wP (CX1 X.prog X.w) X Y.E) (F:jF X.prog X.w X.K X.mg X.base (CX1 X.prog X.w) j f fd ps (spP cl n g)) (hr:Wx k X.A) (C:Fn X.K X.mg x st ps f fd) (ha:Yz X Y (a :: es) ga) (hj:j<=k:=by omega) (gl:Gl X x:=by rfl) (hd:(x == ("__debug__":Str))=false:=by decide)
  (hs:starEach (a :: es) X.env=(false,eval a X.env) :: starEach es X.env:=by exact ZL rfl) (hz:((backTo pos (starEach es X.env)).any fun x=>x.fst)=false:=by exact jP rfl):Snd X Y (.Call (.Name x p) (a :: es) [] pos) (zd n g ga):=XY hy hp F hr hj gl C.m C.F.kp C.b ha hd hs hz
section
variable {P:Program} {w:World} {K:PySem.W.Frag} {mg:Str->Option Value} {base:Heap} {cl:Nat->Value} {tx:Tx K mg}
end
end G
namespace G
open PySem PySem.Spec PyProof.Rows L2 PV
section
variable {P:Program} {w:World} {K:PySem.W.Frag} {mg:Str->Option Value} {base:Heap} {cl:Nat->Value} {tx:Tx K mg}
theorem Yg:W5 P w base cl tx 1 (fun ts=>zp (uv  (en0 2 ts))):=by
 refine j8 tx.C__law_cell.F Y4 rfl (fun cdv A outer s H E Y hy hr=> ?_) (fun ts h=>rfl)
 refine zj ?_ ?_
 refine Zi ?_ ?_ ?_
 exact Za Q1 Um (zm 1 (pv 1)) (Snd.b (ZS (by rfl) tx.z_len (zm 0 (pv 0)))) (zq _)
 exact zu (zz (Zk (zb 0 (pv 0)) (zb 1 (pv 1))))
 exact Zh
 refine zj ?_ ?_
 refine Zi ?_ ?_ ?_
 exact Za Zr (zK hr.units) (zm 0 (pv 0)) (Snd.b (wm zk)) (zq _)
 exact zu (zz zc)
 exact Zh
 refine zu ?_
 refine zz ?_
 refine zS ?_ ?_
 refine Jx ?_ ?_
 exact Zk (zb 0 (pv 0)) (Q0 (zb 1 (pv 1)) (ZS (by rfl) tx.z_len (zm 0 (pv 0))))
 exact zc
 exact zb 1 (pv 1)
end
end G
namespace G
open PySem PySem.Spec PyProof.Rows L2 PV
section
variable {P:Program} {w:World} {K:PySem.W.Frag} {mg:Str->Option Value} {base:Heap} {cl:Nat->Value} {tx:Tx K mg}
theorem Yh {c__law_cell:List T->R T} (O__law_cell:W5 P w base cl tx 1 c__law_cell):jc P w base cl tx 2 (fun ts=>zp (uw c__law_cell (en0 4 ts))):=by
 refine j8 tx.C__law_pick.F WX rfl (fun cdv A outer s H E Y hy hr=> ?_) (fun ts h=>rfl)
 refine zj ?_ ?_
 refine ZJ (i:=3) WX.nd (by rfl) (.inl (by rfl)) ?_
 refine Q0 ?_ ?_
 refine Jx ?_ ?_
 refine zS ?_ ?_
 exact cZ hy O__law_cell hr tx.C__law_cell (za (zb 0 (pv 0)) (za (zb 1 (pv 1)) zk))
 exact Jx zc (zS (zb 1 (pv 1)) zc)
 exact zc
 exact zc
 refine zu ?_
 refine zz ?_
 refine Q0 ?_ ?_
 refine Q0 ?_ ?_
 exact zS (Jx (zb 3 (pv 3)) (zb 3 (pv 3))) (KG (zb 3 (pv 3)) zc)
 exact zc
 exact zb 2 (pv 2)
end
end G
namespace G
open PySem PySem.Spec PyProof.Rows L2 PV
section
variable {P:Program} {w:World} {K:PySem.W.Frag} {mg:Str->Option Value} {base:Heap} {cl:Nat->Value} {tx:Tx K mg}
theorem uY {c__law_pick:List T->R T} (O__law_pick:jc P w base cl tx 2 c__law_pick):JH P w base cl tx 3 (fun ts=>zp (jC c__law_pick (en0 3 ts))):=by
 refine j8 tx.C__law_word_of.F wx rfl (fun cdv A outer s H E Y hy hr=> ?_) (fun ts h=>rfl)
 refine zj ?_ ?_
 exact ZJ (i:=2) wx.nd (by rfl) (.inr (by rfl)) zU
 refine zj ?_ ?_
 refine Zi ?_ ?_ ?_
 refine Za KH xM ?_ ?_ (zq _)
 refine Snd.b ?_
 refine cZ hy O__law_pick hr tx.C__law_pick ?_
 exact za (zb 0 (pv 0)) (za (zb 1 (pv 1)) (za zc zk))
 exact Snd.b zc
 refine zu ?_
 refine zz ?_
 refine Zk ?_ ?_
 refine wm ?_
 refine za ?_ ?_
 exact zU
 exact za zU (za zU (za zU zk))
 refine cZ hy O__law_pick hr tx.C__law_pick ?_
 refine za ?_ ?_
 exact zb 0 (pv 0)
 exact za (zS (zb 1 (pv 1)) zc) (za zc zk)
 exact Zh
 refine zu ?_
 refine zz ?_
 refine KW ?_
 refine Snd.b ?_
 refine jk (ZV ["_law_k","_law_script","_law_at_here","_law_letters"] wR (ze JD) (by rfl) (by rfl) (by decide+kernel) (by rfl) ?_ (fun _ _ _ _ _ _=>zP (show List.Nodup (["_law_k","_law_script","_law_at_here","_law_letters"]:List Str) by decide+kernel) (by rfl) (.inl (by rfl)) (.inr (by rfl))) (Z0 0) (Z1 0) (fun Y' hy' _ _ _ _ _ _=> ?_) (fun Y' hy' _ _ _ _ _ _=> ?_))
 refine um (by rfl) tx.z_range ?_
 refine zS ?_ ?_
 exact zc
 refine cZ hy O__law_pick hr tx.C__law_pick ?_
 refine za ?_ ?_
 exact zb 0 (pv 0)
 exact za (zS (zb 1 (pv 1)) zc) (za zc zk)
 exact J0
 refine Zk ?_ ?_
 exact zb 3 (pv 3)
 refine cZ (hy'.trans hy) O__law_pick hr tx.C__law_pick ?_
 refine za ?_ ?_
 exact zb 1 (pv 1)
 refine za ?_ ?_
 exact zS (zS (zb 2 (pv 2)) zc) (zb 0 (pv 0))
 exact za zc zk
end
end G
namespace G
open PySem PySem.Spec PyProof.Rows L2 PV
section
variable {P:Program} {w:World} {K:PySem.W.Frag} {mg:Str->Option Value} {base:Heap} {cl:Nat->Value} {tx:Tx K mg}
theorem WL {c__law_pick c__law_word_of:List T->R T} (O__law_pick:jc P w base cl tx 2 c__law_pick) (O__law_word_of:JH P w base cl tx 3 c__law_word_of):jO P w base cl tx 4 (fun ts=>zp (j5 c__law_pick c__law_word_of (en0 6 ts))):=by
 refine j8 tx.C__law_leaf_kind.F zX rfl (fun cdv A outer s H E Y hy hr=> ?_) (fun ts h=>rfl)
 refine zj ?_ ?_
 refine Zi ?_ ?_ ?_
 refine Za KH xM ?_ ?_ (zq _)
 refine Snd.b ?_
 refine cZ hy O__law_pick hr tx.C__law_pick ?_
 exact za (zb 0 (pv 0)) (za (zb 1 (pv 1)) (za zc zk))
 exact Snd.b zc
 refine zj ?_ ?_
 refine ZJ (i:=2) zX.nd (by rfl) (.inl (by rfl)) ?_
 refine yA ?_ ?_
 refine cZ hy O__law_pick hr tx.C__law_pick ?_
 refine za ?_ ?_
 exact zb 0 (pv 0)
 exact za (zS (zb 1 (pv 1)) zc) (za zc zk)
 exact zc
 refine zj ?_ ?_
 refine Zi ?_ ?_ ?_
 refine Za Zr (zK hr.units) ?_ ?_ (zq _)
 refine Snd.b ?_
 refine cZ hy O__law_pick hr tx.C__law_pick ?_
 refine za ?_ ?_
 exact zb 0 (pv 0)
 exact za (zS (zb 1 (pv 1)) zc) (za zc zk)
 exact Snd.b zc
 refine zu ?_
 refine ZJ (i:=2) zX.nd (by rfl) (.inl (by rfl)) ?_
 refine Zk ?_ ?_
 refine wm ?_
 refine za ?_ ?_
 exact QY zc
 exact za zc (za zc zk)
 refine cZ hy O__law_pick hr tx.C__law_pick ?_
 refine za ?_ ?_
 exact zb 0 (pv 0)
 exact za (zS (zb 1 (pv 1)) zc) (za zc zk)
 exact Zh
 refine zu ?_
 refine zz ?_
 refine JX ?_
 refine za ?_ ?_
 exact zU
 refine za ?_ ?_
 exact zb 2 (pv 2)
 refine za ?_ ?_
 refine xP (by rfl) (by rfl) tx.z_min ?_ ?_
 exact zc
 refine zS ?_ ?_
 exact zb 2 (pv 2)
 refine cZ hy O__law_pick hr tx.C__law_pick ?_
 refine za ?_ ?_
 exact zb 0 (pv 0)
 exact za (zS (zb 1 (pv 1)) zc) (za zc zk)
 exact zk
 exact Zh
 refine zj ?_ ?_
 exact yE (i:=3) zX.nd (by rfl) (.inl (by rfl)) zk
 refine zj ?_ ?_
 refine UK PassesOwn.never (by rfl) ?_ ?_ ?_
 refine um (by rfl) tx.z_range ?_
 refine zS ?_ ?_
 exact zc
 refine cZ hy O__law_pick hr tx.C__law_pick ?_
 refine za ?_ ?_
 exact zb 0 (pv 0)
 exact za (zS (zb 1 (pv 1)) zc) (za zc zk)
 exact Wj (i:=4) zX.nd (by rfl) (.inl (by rfl))
 refine zj ?_ ?_
 refine ZJ (i:=5) zX.nd (by rfl) (.inl (by rfl)) ?_
 refine cZ hy O__law_word_of hr tx.C__law_word_of ?_
 refine za ?_ ?_
 exact zb 0 (pv 0)
 refine za ?_ ?_
 exact zS (zS (zb 1 (pv 1)) zc) (Jx zc (zb 4 (pv 4)))
 exact zk
 refine zu ?_
 refine Zi ?_ ?_ ?_
 exact Za KI (XF hr.units) (zm 5 (pv 5)) (zm 3 (pv 3)) (by rfl)
 exact zu (GJ (i:=3) (pv 3) (zb 5 (pv 5)))
 exact Zh
 refine zu ?_
 refine zz ?_
 refine JX ?_
 refine za ?_ ?_
 exact zU
 refine za ?_ ?_
 refine vc (by rfl) tx.z_tuple ?_
 refine jk (ZV ["_law_k","_law_word_here","_law_script","_law_at_here"] we (ze jN) (by rfl) (by rfl) (by decide+kernel) (by rfl) ?_ (fun _ _ _ _ _ _=>qj (by rfl) (Jn (zP (show List.Nodup (["_law_k","_law_word_here","_law_script","_law_at_here"]:List Str) by decide+kernel) (by rfl) (.inl (by rfl)) (.inr (by rfl))) (Jn (zP (show List.Nodup (["_law_k","_law_word_here","_law_script","_law_at_here"]:List Str) by decide+kernel) (by rfl) (.inl (by rfl)) (.inr (by rfl))) UD))) (ub _ 0 1) (uc 0 1) (fun Y' hy' _ _ _ _ _ _=> ?_) (fun Y' hy' _ _ _ _ _ _=> ?_))
 exact KT (by rfl) tx.z_enumerate (zb 3 (pv 3))
 exact J0
 refine JX ?_
 refine za ?_ ?_
 exact zb 1 (pv 1)
 refine za ?_ ?_
 refine zS ?_ ?_
 exact zc
 refine cZ (hy'.trans hy) O__law_pick hr tx.C__law_pick ?_
 refine za ?_ ?_
 exact zb 2 (pv 2)
 refine za ?_ ?_
 exact zS (zS (zb 3 (pv 3)) zc) (zb 0 (pv 0))
 exact za zc zk
 exact zk
 exact zk
end
end G
namespace G
open PySem PySem.Spec PyProof.Rows L2 PV
section
variable {P:Program} {w:World} {K:PySem.W.Frag} {mg:Str->Option Value} {base:Heap} {cl:Nat->Value} {tx:Tx K mg}
theorem Yi {j:Nat} (hj:4<=j) {c__law_pick c__law_leaf_kind c__law_kind:List T->R T} (O__law_pick:jc P w base cl tx 2 c__law_pick) (O__law_leaf_kind:jO P w base cl tx 4 c__law_leaf_kind) (O__law_kind:Je P w base cl tx j c__law_kind):Je P w base cl tx (j+1) (fun ts=>zp (JZ c__law_pick c__law_leaf_kind c__law_kind (en0 6 ts))):=by
 refine j8 tx.C__law_kind.F Js rfl (fun cdv A outer s H E Y hy hr=> ?_) (fun ts h=>rfl)
 refine zj ?_ ?_
 refine ZJ (i:=3) Js.nd (by rfl) (.inl (by rfl)) ?_
 refine cZ hy O__law_pick hr tx.C__law_pick ?_
 exact za (zb 0 (pv 0)) (za (zb 1 (pv 1)) (za zc zk))
 refine zj ?_ ?_
 refine Zi ?_ ?_ ?_
 refine ua.t ?_
 refine yB ?_ ?_
 exact Za Zr (zK hr.units) (zm 2 (pv 2)) (Snd.b zc) (zq _)
 exact U6 (Za Q1 Um (zm 3 (pv 3)) (Snd.b zc) (zq _))
 refine zu ?_
 refine zz ?_
 refine cZ hy O__law_leaf_kind hr tx.C__law_leaf_kind ?_
 exact za (zb 0 (pv 0)) (za (zS (zb 1 (pv 1)) zc) zk)
 exact Zh
 refine zj ?_ ?_
 refine Zi ?_ ?_ ?_
 exact Za Q1 Um (zm 3 (pv 3)) (Snd.b zc) (zq _)
 refine zj ?_ ?_
 refine vq (i:=4) (ZV ["_law_k","_law_script","_law_at_here","_law_deep"] uK (ze wZ) (by rfl) (by rfl) (by decide+kernel) (by rfl) ?_ (fun _ _ _ _ _ _=>zP (show List.Nodup (["_law_k","_law_script","_law_at_here","_law_deep"]:List Str) by decide+kernel) (by rfl) (.inl (by rfl)) (.inr (by rfl))) (Z0 0) (Z1 0) (fun Y' hy' _ _ _ _ _ _=> ?_) (fun Y' hy' _ _ _ _ _ _=> ?_)) Js.nd (by rfl) (.inl (by rfl)) (by rfl)
 refine um (by rfl) tx.z_range ?_
 refine zS ?_ ?_
 exact zc
 refine cZ hy O__law_pick hr tx.C__law_pick ?_
 refine za ?_ ?_
 exact zb 0 (pv 0)
 exact za (zS (zb 1 (pv 1)) zc) (za zc zk)
 exact J0
 refine cZ (hy'.trans hy) O__law_kind hr tx.C__law_kind ?_
 refine za ?_ ?_
 exact zb 1 (pv 1)
 refine za ?_ ?_
 refine zS ?_ ?_
 exact zS (Jx zc (zb 2 (pv 2))) zc
 exact Jx zc (zb 0 (pv 0))
 exact za (yA (zb 3 (pv 3)) zc) zk
 refine zu ?_
 refine zz ?_
 exact JX (za zU (za (vc (by rfl) tx.z_tuple (zb 4 (pv 4))) zk))
 exact Zh
 refine zj ?_ ?_
 refine ZJ (i:=5) Js.nd (by rfl) (.inl (by rfl)) ?_
 refine cZ hy O__law_pick hr tx.C__law_pick ?_
 refine za ?_ ?_
 exact zb 0 (pv 0)
 exact za (zS (zb 1 (pv 1)) zc) (za zc zk)
 refine zu ?_
 refine zz ?_
 refine JX ?_
 refine za ?_ ?_
 exact zU
 refine za ?_ ?_
 refine cZ hy O__law_kind hr tx.C__law_kind ?_
 refine za ?_ ?_
 exact zb 0 (pv 0)
 refine za ?_ ?_
 exact zS (Jx zc (zb 1 (pv 1))) zc
 exact za (yA (zb 2 (pv 2)) zc) zk
 refine za ?_ ?_
 exact zb 5 (pv 5)
 refine za ?_ ?_
 refine xP (by rfl) (by rfl) tx.z_min ?_ ?_
 exact zc
 refine zS ?_ ?_
 exact zb 5 (pv 5)
 refine cZ hy O__law_pick hr tx.C__law_pick ?_
 refine za ?_ ?_
 exact zb 0 (pv 0)
 exact za (zS (zb 1 (pv 1)) zc) (za zc zk)
 exact zk
end
end G
namespace G
open PySem PySem.Spec PyProof.Rows L2 PV
section
variable {P:Program} {w:World} {K:PySem.W.Frag} {mg:Str->Option Value} {base:Heap} {cl:Nat->Value} {tx:Tx K mg}
theorem uZ:JI P w base cl tx 1 (fun ts=>zp (jD  (en0 5 ts))):=by
 refine j8 tx.C__law_rows_of.F Zn rfl (fun cdv A outer s H E Y hy hr=> ?_) (fun ts h=>rfl)
 refine zj ?_ ?_
 exact ZJ (i:=1) Zn.nd (by rfl) (.inl (by rfl)) (wm (za (JX zk) zk))
 refine zj ?_ ?_
 refine UK PassesOwn.never (by rfl) ?_ ?_ ?_
 exact JO (zb 0 (pv 0))
 exact Wj (i:=2) Zn.nd (by rfl) (.inl (by rfl))
 refine zj ?_ ?_
 exact yE (i:=3) Zn.nd (by rfl) (.inl (by rfl)) zk
 refine zj ?_ ?_
 refine UK PassesOwn.never (by rfl) ?_ ?_ ?_
 exact JO (zb 1 (pv 1))
 exact Wj (i:=4) Zn.nd (by rfl) (.inr (by rfl))
 refine zu ?_
 refine VN (i:=3) (pv 3) ?_
 refine jk (ZV ["_law_one","_law_ahead"] wS (ze JE) (by rfl) (by rfl) (by decide+kernel) (by rfl) ?_ (fun _ _ _ _ _ _=>zP (show List.Nodup (["_law_one","_law_ahead"]:List Str) by decide+kernel) (by rfl) (.inl (by rfl)) (.inr (by rfl))) (Z0 0) (Z1 0) (fun Y' hy' _ _ _ _ _ _=> ?_) (fun Y' hy' _ _ _ _ _ _=> ?_))
 exact JO (zb 2 (pv 2))
 exact J0
 exact zS (zb 1 (pv 1)) (JX (za (zb 0 (pv 0)) zk))
 exact zu (s_mv (i:=1) (j:=3) (pv 3) Zn.nd (by rfl) (.inl (by rfl)))
 exact zu (zz (zb 1 (pv 1)))
end
end G
namespace G
open PySem PySem.Spec PyProof.Rows L2 PV
section
variable {P:Program} {w:World} {K:PySem.W.Frag} {mg:Str->Option Value} {base:Heap} {cl:Nat->Value} {tx:Tx K mg}
theorem qe {j:Nat} (hj:1<=j) {c__law_all c__law_rows_of:List T->R T} (O__law_all:jY P w base cl tx j c__law_all) (O__law_rows_of:JI P w base cl tx 1 c__law_rows_of):jY P w base cl tx (j+1) (fun ts=>zp (zx c__law_all c__law_rows_of (en0 3 ts))):=by
 refine j8 tx.C__law_all.F W0 rfl (fun cdv A outer s H E Y hy hr=> ?_) (fun ts h=>rfl)
 refine zj ?_ ?_
 refine Zi ?_ ?_ ?_
 exact Za Zr (zK hr.units) (Snd.b (Zk (zb 0 (pv 0)) zc)) (Snd.b zU) (zq _)
 refine zu ?_
 refine zz ?_
 refine kn hr.hd (by rfl) tx.z_list (by rfl) tx.z_range ?_ ?_
 exact Zk (zb 0 (pv 0)) zc
 exact zS (Zk (zb 0 (pv 0)) zc) zc
 exact Zh
 refine zj ?_ ?_
 refine Zi ?_ ?_ ?_
 exact Za Zr (zK hr.units) (Snd.b (Zk (zb 0 (pv 0)) zc)) (Snd.b zU) (zq _)
 refine zu ?_
 refine zz ?_
 refine jk (ZV ["_law_word_here","_law_heavy"] WH (ze wM) (by rfl) (by rfl) (by decide+kernel) (by rfl) ?_ (fun _ _ _ _ _ _=>qj (by rfl) (Jn (zP (show List.Nodup (["_law_word_here","_law_heavy"]:List Str) by decide+kernel) (by rfl) (.inl (by rfl)) (.inr (by rfl))) (Jn (zP (show List.Nodup (["_law_word_here","_law_heavy"]:List Str) by decide+kernel) (by rfl) (.inl (by rfl)) (.inr (by rfl))) UD))) (ub _ 0 1) (uc 0 1) (fun Y' hy' _ _ _ _ _ _=> ?_) (fun Y' hy' _ _ _ _ _ _=> ?_))
 exact JO (Zk (zb 0 (pv 0)) zc)
 exact J0
 exact zb 0 (pv 0)
 exact Zh
 refine zj ?_ ?_
 refine Zi ?_ ?_ ?_
 exact Za Zr (zK hr.units) (Snd.b (Zk (zb 0 (pv 0)) zc)) (Snd.b zU) (zq _)
 refine zu ?_
 refine zz ?_
 refine cZ hy O__law_rows_of hr tx.C__law_rows_of ?_
 refine za ?_ ?_
 refine jk (ZV ["_law_one"] WH (ze wM) (by rfl) (by rfl) (by decide+kernel) (by rfl) ?_ (fun _ _ _ _ _ _=>zP (show List.Nodup (["_law_one"]:List Str) by decide+kernel) (by rfl) (.inl (by rfl)) (.inr (by rfl))) (Z0 0) (Z1 0) (fun Y' hy' _ _ _ _ _ _=> ?_) (fun Y' hy' _ _ _ _ _ _=> ?_))
 exact JO (Zk (zb 0 (pv 0)) zc)
 exact J0
 exact cZ (hy'.trans hy) O__law_all hr tx.C__law_all (za (zb 0 (pv 0)) zk)
 exact zk
 exact Zh
 refine zj ?_ ?_
 exact yE (i:=1) W0.nd (by rfl) (.inl (by rfl)) zk
 refine zj ?_ ?_
 refine UK PassesOwn.never (by rfl) ?_ ?_ ?_
 refine KR (by rfl) tx.z_range ?_ ?_
 exact Zk (zb 0 (pv 0)) zc
 exact zS (Zk (zb 0 (pv 0)) zc) zc
 exact Wj (i:=2) W0.nd (by rfl) (.inl (by rfl))
 refine zu ?_
 refine VN (i:=1) (pv 1) ?_
 refine cZ hy O__law_rows_of hr tx.C__law_rows_of ?_
 refine za ?_ ?_
 refine Jx ?_ ?_
 refine wm ?_
 refine za ?_ ?_
 exact cZ hy O__law_all hr tx.C__law_all (za (Zk (zb 0 (pv 0)) zc) zk)
 exact zk
 exact zb 2 (pv 2)
 exact zk
 exact zu (zz (zb 1 (pv 1)))
end
end G
namespace G
open PySem PySem.Spec PyProof.Rows L2 PV
section
variable {P:Program} {w:World} {K:PySem.W.Frag} {mg:Str->Option Value} {base:Heap} {cl:Nat->Value} {tx:Tx K mg}
theorem Yj {j:Nat} (hj:9<=j) {c__law_all c__law_size:List T->R T} (O__law_all:jY P w base cl tx 9 c__law_all) (O__law_size:Jf P w base cl tx j c__law_size):Jf P w base cl tx (j+1) (fun ts=>zp (zH c__law_all c__law_size (en0 5 ts))):=by
 refine j8 tx.C__law_size.F Ze rfl (fun cdv A outer s H E Y hy hr=> ?_) (fun ts h=>rfl)
 refine zj ?_ ?_
 refine Zi ?_ ?_ ?_
 refine Za QZ (v8 hr.units) ?_ ?_ (by rfl)
 exact Snd.b (Zk (zb 0 (pv 0)) zc)
 exact Snd.b (JX (za zU (za zU zk)))
 refine zu ?_
 exact zz (ZS (by rfl) tx.z_len (Snd.b (cZ hy O__law_all hr tx.C__law_all (za (zb 0 (pv 0)) zk))))
 exact Zh
 refine zj ?_ ?_
 refine ZJ (i:=1) Ze.nd (by rfl) (.inl (by rfl)) ?_
 refine s_if ?_ ?_ ?_
 exact Za Zr (zK hr.units) (Snd.b (Zk (zb 0 (pv 0)) zc)) (Snd.b zU) (zq _)
 refine jk (ZV ["_law_one"] uL (ze W1) (by rfl) (by rfl) (by decide+kernel) (by rfl) ?_ (fun _ _ _ _ _ _=>zP (show List.Nodup (["_law_one"]:List Str) by decide+kernel) (by rfl) (.inl (by rfl)) (.inr (by rfl))) (Z0 0) (Z1 0) (fun Y' hy' _ _ _ _ _ _=> ?_) (fun Y' hy' _ _ _ _ _ _=> ?_))
 exact JO (Zk (zb 0 (pv 0)) zc)
 exact J0
 exact cZ (hy'.trans hy) O__law_size hr tx.C__law_size (za (zb 0 (pv 0)) zk)
 exact wm zk
 refine zj ?_ ?_
 exact ZJ (i:=2) Ze.nd (by rfl) (.inl (by rfl)) zc
 refine zj ?_ ?_
 refine UK PassesOwn.never (by rfl) ?_ ?_ ?_
 exact JO (zb 1 (pv 1))
 exact Wj (i:=3) Ze.nd (by rfl) (.inl (by rfl))
 exact zu (ZJ (i:=2) Ze.nd (by rfl) (.inl (by rfl)) (Jx (zb 2 (pv 2)) (zb 3 (pv 3))))
 refine zj ?_ ?_
 refine Zi ?_ ?_ ?_
 exact Za Zr (zK hr.units) (Snd.b (Zk (zb 0 (pv 0)) zc)) (Snd.b zU) (zq _)
 refine zj ?_ ?_
 exact ZJ (i:=4) Ze.nd (by rfl) (.inl (by rfl)) (cZ hy O__law_size hr tx.C__law_size (za (Zk (zb 0 (pv 0)) zc) zk))
 refine zj ?_ ?_
 refine ZJ (i:=2) Ze.nd (by rfl) (.inl (by rfl)) ?_
 refine zS ?_ ?_
 refine qx (by rfl) tx.z_int ?_
 exact JY Zr (zK hr.units) (Snd.b (Zk (zb 0 (pv 0)) zc)) (Snd.b zc) (zq _)
 refine Jx ?_ ?_
 exact zb 4 (pv 4)
 refine qx (by rfl) tx.z_int ?_
 refine wn ji ji Zb Zb ?_ ?_ ?_
 exact Snd.b (Zk (zb 0 (pv 0)) zc)
 exact Snd.b zc
 exact Snd.b (Zk (zb 0 (pv 0)) zc)
 refine zj ?_ ?_
 refine ZJ (i:=2) Ze.nd (by rfl) (.inl (by rfl)) ?_
 refine zS ?_ ?_
 exact zb 2 (pv 2)
 refine Jx ?_ ?_
 exact Jx (zb 4 (pv 4)) (zb 4 (pv 4))
 refine qx (by rfl) tx.z_int ?_
 refine wn ji ji Zb Zb ?_ ?_ ?_
 exact Snd.b (Zk (zb 0 (pv 0)) zc)
 exact Snd.b zc
 exact Snd.b (Zk (zb 0 (pv 0)) zc)
 refine zu ?_
 refine ZJ (i:=2) Ze.nd (by rfl) (.inl (by rfl)) ?_
 refine zS ?_ ?_
 exact zb 2 (pv 2)
 refine Jx ?_ ?_
 exact Jx (Jx (zb 4 (pv 4)) (zb 4 (pv 4))) (zb 4 (pv 4))
 refine qx (by rfl) tx.z_int ?_
 exact JY Zr (zK hr.units) (Snd.b (Zk (zb 0 (pv 0)) zc)) (Snd.b zc) (zq _)
 exact Zh
 exact zu (zz (zb 2 (pv 2)))
end
end G
namespace G
open PySem PySem.Spec PyProof.Rows L2 PV
section
variable {P:Program} {w:World} {K:PySem.W.Frag} {mg:Str->Option Value} {base:Heap} {cl:Nat->Value} {tx:Tx K mg}
theorem yd {c__law_kind c__law_size:List T->R T} (O__law_kind:Je P w base cl tx 12 c__law_kind) (O__law_size:Jf P w base cl tx 17 c__law_size):wA P w base cl tx 18 (fun ts=>zp (Jq c__law_kind c__law_size (en0 5 ts))):=by
 refine j8 tx.C__law_small.F jT rfl (fun cdv A outer s H E Y hy hr=> ?_) (fun ts h=>rfl)
 refine zj ?_ ?_
 refine ZJ (i:=3) jT.nd (by rfl) (.inl (by rfl)) ?_
 refine cZ hy O__law_kind hr tx.C__law_kind ?_
 exact za (zb 0 (pv 0)) (za (zb 1 (pv 1)) (za zc zk))
 refine zj ?_ ?_
 refine UK PassesOwn.never (by rfl) ?_ ?_ ?_
 exact um (by rfl) tx.z_range zc
 exact Wj (i:=4) jT.nd (by rfl) (.inl (by rfl))
 refine zj ?_ ?_
 refine Zi ?_ ?_ ?_
 exact Za ji Zb (Snd.b (cZ hy O__law_size hr tx.C__law_size (za (zb 3 (pv 3)) zk))) (zm 2 (pv 2)) (zq _)
 exact zu (zz (zb 3 (pv 3)))
 exact Zh
 refine zu ?_
 refine ZJ (i:=3) jT.nd (by rfl) (.inl (by rfl)) ?_
 refine cZ hy O__law_kind hr tx.C__law_kind ?_
 refine za ?_ ?_
 exact zb 0 (pv 0)
 refine za ?_ ?_
 exact zS (zS (zb 1 (pv 1)) zc) (Jx zc (zb 4 (pv 4)))
 exact za zc zk
 refine zu ?_
 refine zz ?_
 refine s_if ?_ ?_ ?_
 exact Za ji Zb (Snd.b (cZ hy O__law_size hr tx.C__law_size (za (zb 3 (pv 3)) zk))) (zm 2 (pv 2)) (zq _)
 exact zb 3 (pv 3)
 refine JX ?_
 refine za ?_ ?_
 exact zU
 exact za (QY zc) (za zc zk)
end
end G
namespace G
open PySem PySem.Spec PyProof.Rows L2 PV
section
variable {P:Program} {w:World} {K:PySem.W.Frag} {mg:Str->Option Value} {base:Heap} {cl:Nat->Value} {tx:Tx K mg}
theorem Uf {j:Nat} (hj:0<=j) {c__law_places:List T->R T} (O__law_places:ju P w base cl tx j c__law_places):ju P w base cl tx (j+1) (fun ts=>zp (zV c__law_places (en0 3 ts))):=by
 refine j8 tx.C__law_places.F JF rfl (fun cdv A outer s H E Y hy hr=> ?_) (fun ts h=>rfl)
 refine zj ?_ ?_
 exact yE (i:=1) JF.nd (by rfl) (.inl (by rfl)) (za (JX zk) zk)
 refine zj ?_ ?_
 refine Zi ?_ ?_ ?_
 exact jZ (Snd.b (Jy (n:="tuple") (j0 _) (by rfl) tx.z_isinstance (by rfl) tx.z_tuple PyProof.Rows.Boot.«tuple» (zm 0 (pv 0))))
 refine zu ?_
 refine UK PassesOwn.never (by rfl) ?_ ?_ ?_
 exact um (by rfl) tx.z_range (ZS (by rfl) tx.z_len (zm 0 (pv 0)))
 exact Wj (i:=2) JF.nd (by rfl) (.inr (by rfl))
 refine zu ?_
 refine VN (i:=1) (pv 1) ?_
 refine jk (ZV ["_law_place","_law_k"] Ws (ze w9) (by rfl) (by rfl) (by decide+kernel) (by rfl) ?_ (fun _ _ _ _ _ _=>zP (show List.Nodup (["_law_place","_law_k"]:List Str) by decide+kernel) (by rfl) (.inl (by rfl)) (.inr (by rfl))) (Z0 0) (Z1 0) (fun Y' hy' _ _ _ _ _ _=> ?_) (fun Y' hy' _ _ _ _ _ _=> ?_))
 exact JO (cZ hy O__law_places hr tx.C__law_places (za (Zk (zb 0 (pv 0)) (zb 2 (pv 2))) zk))
 exact J0
 exact zS (JX (za (zb 1 (pv 1)) zk)) (zb 0 (pv 0))
 exact Zh
 exact zu (zz (zb 1 (pv 1)))
end
end G
namespace G
open PySem PySem.Spec PyProof.Rows L2 PV
section
variable {P:Program} {w:World} {K:PySem.W.Frag} {mg:Str->Option Value} {base:Heap} {cl:Nat->Value} {tx:Tx K mg}
theorem Qo:uU P w base cl tx 1 (fun ts=>zp (Wm  (en0 3 ts))):=by
 refine j8 tx.C__law_at.F WI rfl (fun cdv A outer s H E Y hy hr=> ?_) (fun ts h=>rfl)
 refine zj ?_ ?_
 refine UK PassesOwn.never (by rfl) ?_ ?_ ?_
 exact JO (zb 1 (pv 1))
 exact Wj (i:=2) WI.nd (by rfl) (.inl (by rfl))
 exact zu (ZJ (i:=0) WI.nd (by rfl) (.inl (by rfl)) (Zk (zb 0 (pv 0)) (zb 2 (pv 2))))
 exact zu (zz (zb 0 (pv 0)))
end
end G
namespace G
open PySem PySem.Spec PyProof.Rows L2 PV
section
variable {P:Program} {w:World} {K:PySem.W.Frag} {mg:Str->Option Value} {base:Heap} {cl:Nat->Value} {tx:Tx K mg}
theorem qf {j:Nat} (hj:0<=j) {c__law_put:List T->R T} (O__law_put:JV P w base cl tx j c__law_put):JV P w base cl tx (j+1) (fun ts=>zp (jW c__law_put (en0 4 ts))):=by
 refine j8 tx.C__law_put.F uM rfl (fun cdv A outer s H E Y hy hr=> ?_) (fun ts h=>rfl)
 refine zj ?_ ?_
 refine Zi ?_ ?_ ?_
 exact Za Zr (zK hr.units) (zm 1 (pv 1)) (Snd.b (JX zk)) (zq _)
 exact zu (zz (zb 2 (pv 2)))
 exact Zh
 refine zj ?_ ?_
 exact ZJ (i:=3) uM.nd (by rfl) (.inl (by rfl)) (Zk (zb 1 (pv 1)) zc)
 refine zu ?_
 refine zz ?_
 refine zS ?_ ?_
 refine zS ?_ ?_
 exact Jz (zb 0 (pv 0)) Wi (wp (zb 3 (pv 3)))
 refine JX ?_
 refine za ?_ ?_
 refine cZ hy O__law_put hr tx.C__law_put ?_
 refine za ?_ ?_
 exact Zk (zb 0 (pv 0)) (zb 3 (pv 3))
 refine za ?_ ?_
 exact Jz (zb 1 (pv 1)) (wp zc) Wi
 exact za (zb 2 (pv 2)) zk
 exact zk
 exact Jz (zb 0 (pv 0)) (wp (zS (zb 3 (pv 3)) zc)) Wi
end
end G
namespace G
open PySem PySem.Spec PyProof.Rows L2 PV
section
variable {P:Program} {w:World} {K:PySem.W.Frag} {mg:Str->Option Value} {base:Heap} {cl:Nat->Value} {tx:Tx K mg}
theorem wO {c__law_pick c__law_places c__law_at c__law_put:List T->R T} (O__law_pick:jc P w base cl tx 2 c__law_pick) (O__law_places:ju P w base cl tx 40 c__law_places) (O__law_at:uU P w base cl tx 1 c__law_at) (O__law_put:JV P w base cl tx 40 c__law_put):jd P w base cl tx 41 (fun ts=>zp (Zu c__law_pick c__law_places c__law_at c__law_put (en0 9 ts))):=by
 refine j8 tx.C__law_spoilt_thing.F zB rfl (fun cdv A outer s H E Y hy hr=> ?_) (fun ts h=>rfl)
 refine zj ?_ ?_
 exact ZJ (i:=3) zB.nd (by rfl) (.inl (by rfl)) (cZ hy O__law_places hr tx.C__law_places (za (zb 2 (pv 2)) zk))
 refine zj ?_ ?_
 refine ZJ (i:=4) zB.nd (by rfl) (.inl (by rfl)) ?_
 refine Zk ?_ ?_
 exact zb 3 (pv 3)
 refine cZ hy O__law_pick hr tx.C__law_pick ?_
 refine za ?_ ?_
 exact zb 0 (pv 0)
 exact za (zb 1 (pv 1)) (za (ZS (by rfl) tx.z_len (zm 3 (pv 3))) zk)
 refine zj ?_ ?_
 exact ZJ (i:=5) zB.nd (by rfl) (.inl (by rfl)) (cZ hy O__law_at hr tx.C__law_at (za (zb 2 (pv 2)) (za (zb 4 (pv 4)) zk)))
 refine zj ?_ ?_
 refine ZJ (i:=6) zB.nd (by rfl) (.inl (by rfl)) ?_
 refine wm ?_
 refine za ?_ ?_
 exact zc
 refine za ?_ ?_
 exact zc
 refine za ?_ ?_
 exact QY zc
 refine za ?_ ?_
 exact zc
 refine za ?_ ?_
 exact zc
 refine za ?_ ?_
 exact zc
 refine za ?_ ?_
 exact qq
 refine za ?_ ?_
 exact VD
 refine za ?_ ?_
 exact zU
 refine za ?_ ?_
 exact zU
 refine za ?_ ?_
 exact zU
 refine za ?_ ?_
 exact zU
 refine za ?_ ?_
 exact zU
 refine za ?_ ?_
 exact zU
 refine za ?_ ?_
 exact JX zk
 refine za ?_ ?_
 exact JX (za (zb 5 (pv 5)) zk)
 refine za ?_ ?_
 exact wm (za (zb 5 (pv 5)) zk)
 refine za ?_ ?_
 refine JX ?_
 exact za zU (za zc (za zc zk))
 exact zk
 refine zj ?_ ?_
 refine ZJ (i:=7) zB.nd (by rfl) (.inl (by rfl)) ?_
 refine cZ hy O__law_pick hr tx.C__law_pick ?_
 refine za ?_ ?_
 exact zb 0 (pv 0)
 refine za ?_ ?_
 exact zS (zb 1 (pv 1)) zc
 exact za (zS (ZS (by rfl) tx.z_len (zm 6 (pv 6))) zc) zk
 refine zj ?_ ?_
 refine Zi ?_ ?_ ?_
 exact Za Q1 Um (zm 7 (pv 7)) (Snd.b (ZS (by rfl) tx.z_len (zm 6 (pv 6)))) (zq _)
 refine zu ?_
 refine zz ?_
 refine cZ hy O__law_put hr tx.C__law_put ?_
 refine za ?_ ?_
 exact zb 2 (pv 2)
 exact za (zb 4 (pv 4)) (za (Zk (zb 6 (pv 6)) (zb 7 (pv 7))) zk)
 exact Zh
 refine zj ?_ ?_
 refine Zi ?_ ?_ ?_
 refine ua.t ?_
 refine VI ?_ ?_
 exact jZ (Snd.b (Jy (n:="tuple") (j0 _) (by rfl) tx.z_isinstance (by rfl) tx.z_tuple PyProof.Rows.Boot.«tuple» (zm 5 (pv 5))))
 exact qt (Za UH (Wf hr.units) (zm 5 (pv 5)) (Snd.b (JX zk)) (zq _))
 refine zj ?_ ?_
 refine ZJ (i:=8) zB.nd (by rfl) (.inl (by rfl)) ?_
 refine cZ hy O__law_pick hr tx.C__law_pick ?_
 refine za ?_ ?_
 exact zb 0 (pv 0)
 refine za ?_ ?_
 exact zS (zb 1 (pv 1)) zc
 exact za (ZS (by rfl) tx.z_len (zm 5 (pv 5))) zk
 refine zu ?_
 refine zz ?_
 refine cZ hy O__law_put hr tx.C__law_put ?_
 refine za ?_ ?_
 exact zb 2 (pv 2)
 refine za ?_ ?_
 exact zb 4 (pv 4)
 refine za ?_ ?_
 refine Zk ?_ ?_
 refine wm ?_
 refine za ?_ ?_
 refine zS ?_ ?_
 exact Jz (zb 5 (pv 5)) Wi (wp (zb 8 (pv 8)))
 exact Jz (zb 5 (pv 5)) (wp (zS (zb 8 (pv 8)) zc)) Wi
 refine za ?_ ?_
 refine zS ?_ ?_
 refine zS ?_ ?_
 exact Jz (zb 5 (pv 5)) Wi (wp (zb 8 (pv 8)))
 refine Jz ?_ ?_ ?_
 exact zb 5 (pv 5)
 exact wp (zb 8 (pv 8))
 exact wp (zS (zb 8 (pv 8)) zc)
 exact Jz (zb 5 (pv 5)) (wp (zb 8 (pv 8))) Wi
 exact zk
 exact Q0 (zb 7 (pv 7)) zc
 exact zk
 exact Zh
 refine zj ?_ ?_
 refine Zi ?_ ?_ ?_
 exact jZ (Snd.b (Jy (n:="int") (YB _) (by rfl) tx.z_isinstance (by rfl) tx.z_int PyProof.Rows.Boot.«int» (zm 5 (pv 5))))
 refine zu ?_
 refine zz ?_
 refine cZ hy O__law_put hr tx.C__law_put ?_
 refine za ?_ ?_
 exact zb 2 (pv 2)
 refine za ?_ ?_
 exact zb 4 (pv 4)
 refine za ?_ ?_
 refine yA ?_ ?_
 exact zS (zb 5 (pv 5)) zc
 exact Jx zc (Q0 (zb 7 (pv 7)) zc)
 exact zk
 exact Zh
 refine zu ?_
 refine zz ?_
 refine cZ hy O__law_put hr tx.C__law_put ?_
 refine za ?_ ?_
 exact zb 2 (pv 2)
 refine za ?_ ?_
 exact zb 4 (pv 4)
 refine za ?_ ?_
 refine JX ?_
 refine za ?_ ?_
 exact zU
 refine za ?_ ?_
 exact JX (za (zb 5 (pv 5)) (za (zb 5 (pv 5)) zk))
 exact zk
 exact zk
end
end G
namespace G
open PySem PySem.Spec PyProof.Rows L2 PV
section
variable {P:Program} {w:World} {K:PySem.W.Frag} {mg:Str->Option Value} {base:Heap} {cl:Nat->Value} {tx:Tx K mg}
theorem Yk (xq:Tq K mg base cl):W6 P w base cl tx 1 (fun c=>zp (ux  (enC 2 c))):=by
 refine gf tx.C__law_word.F WZ (by decide) (fun cdv A outer s H E Y hy hr=> ?_) (fun c=>rfl)
 refine zj ?_ ?_
 refine yE (i:=1) WZ.nd (by rfl) (.inl (by rfl)) ?_
 refine za ?_ ?_
 exact WA (hy ▸ xq.X_k) (hy ▸ xq.t_Ended) (by rfl) tx.z_isinstance (pv 0) (by rfl) xq.m_Ended
 exact za (WA (hy ▸ xq.X_k) (hy ▸ xq.t_NoKind) (by rfl) tx.z_isinstance (pv 0) (by rfl) xq.m_NoKind) (za (WA (hy ▸ xq.X_k) (hy ▸ xq.t_NoRule) (by rfl) tx.z_isinstance (pv 0) (by rfl) xq.m_NoRule) (za (WA (hy ▸ xq.X_k) (hy ▸ xq.t_NoText) (by rfl) tx.z_isinstance (pv 0) (by rfl) xq.m_NoText) zk))
 refine zj ?_ ?_
 exact VN (i:=1) (pv 1) (wm (za (WA (hy ▸ xq.X_k) (hy ▸ xq.t_NoWorth) (by rfl) tx.z_isinstance (pv 0) (by rfl) xq.m_NoWorth) (za (WA (hy ▸ xq.X_k) (hy ▸ xq.t_TooMany) (by rfl) tx.z_isinstance (pv 0) (by rfl) xq.m_TooMany) zk)))
 refine zj ?_ ?_
 refine Zi ?_ ?_ ?_
 refine ua.t ?_
 refine yB ?_ ?_
 refine Za UH (Wf hr.units) ?_ ?_ (zq _)
 exact Snd.b (ko hr.units (zm 1 (pv 1)) (Snd.b qq))
 exact Snd.b zc
 exact U6 (wj (jZ (Snd.b (k9 (n:="ValueError") (hy ▸ xq.X_k) (hy ▸ xq.t_ValueError) (by rfl) tx.z_isinstance (pv 0) (by rfl) tx.z_ValueError PyProof.Rows.Boot.«ValueError»))))
 exact zu (zz zU)
 exact Zh
 refine zu ?_
 refine zz ?_
 refine Zk ?_ ?_
 refine wm ?_
 refine za ?_ ?_
 exact zU
 refine za ?_ ?_
 exact zU
 refine za ?_ ?_
 exact zU
 exact za zU (za zU (za zU zk))
 exact kq hr.units (zm 1 (pv 1)) (Snd.b qq)
end
end G
namespace G
open PySem PySem.Spec PyProof.Rows L2 PV
section
variable {P:Program} {w:World} {K:PySem.W.Frag} {mg:Str->Option Value} {base:Heap} {cl:Nat->Value} {tx:Tx K mg}
theorem qg:JW P w base cl tx 1 (fun ts=>zp (Uq  (en0 1 ts))):=by
 refine j8 tx.C_is_whole.F YZ rfl (fun cdv A outer s H E Y hy hr=> ?_) (fun ts h=>rfl)
 refine zu ?_
 refine zz ?_
 exact jG (Jy (n:="int") (YB _) (by rfl) tx.z_isinstance (by rfl) tx.z_int PyProof.Rows.Boot.«int» (zm 0 (pv 0))) (JN (KL (Jy (n:="bool") (Wh _) (by rfl) tx.z_isinstance (by rfl) tx.z_bool PyProof.Rows.Boot.«bool» (zm 0 (pv 0)))))
end
end G
namespace G
open PySem PySem.Spec PyProof.Rows L2 PV
section
variable {P:Program} {w:World} {K:PySem.W.Frag} {mg:Str->Option Value} {base:Heap} {cl:Nat->Value} {tx:Tx K mg}
theorem Qp {c_is_whole:List T->R T} (O_is_whole:JW P w base cl tx 1 c_is_whole):uV P w base cl tx 2 (fun ts=>zp (yK c_is_whole (en0 4 ts))):=by
 refine j8 tx.C_is_span.F Qk rfl (fun cdv A outer s H E Y hy hr=> ?_) (fun ts h=>rfl)
 refine zu ?_
 refine zz ?_
 refine jG ?_ ?_
 exact cZ hy O_is_whole hr tx.C_is_whole (za (zb 0 (pv 0)) zk)
 refine jG ?_ ?_
 exact cZ hy O_is_whole hr tx.C_is_whole (za (zb 1 (pv 1)) zk)
 exact JN (VH ji ji ji Zb Zb Zb (zm 2 (pv 2)) (zm 0 (pv 0)) (zm 1 (pv 1)) (zm 3 (pv 3)))
end
end G
namespace G
open PySem PySem.Spec PyProof.Rows L2 PV
section
variable {P:Program} {w:World} {K:PySem.W.Frag} {mg:Str->Option Value} {base:Heap} {cl:Nat->Value} {tx:Tx K mg}
theorem Ug:ZT P w base cl tx 1 (fun ts=>zp (Wo  (en0 3 ts))):=by
 refine j8 tx.C_is_tuple_of.F Ue rfl (fun cdv A outer s H E Y hy hr=> ?_) (fun ts h=>rfl)
 refine zu ?_
 refine zz ?_
 refine jG ?_ ?_
 exact Jy (n:="tuple") (j0 _) (by rfl) tx.z_isinstance (by rfl) tx.z_tuple PyProof.Rows.Boot.«tuple» (zm 0 (pv 0))
 exact JN (wn ji ji Zb Zb (zm 1 (pv 1)) (Snd.b (ZS (by rfl) tx.z_len (zm 0 (pv 0)))) (zm 2 (pv 2)))
end
end G
namespace G
open PySem PySem.Spec PyProof.Rows L2 PV
section
variable {P:Program} {w:World} {K:PySem.W.Frag} {mg:Str->Option Value} {base:Heap} {cl:Nat->Value} {tx:Tx K mg}
theorem Qq:uW P w base cl tx 1 (fun ts=>zp (yL  (en0 1 ts))):=by
 refine j8 tx.C_is_word.F Ql rfl (fun cdv A outer s H E Y hy hr=> ?_) (fun ts h=>rfl)
 refine zj ?_ ?_
 refine Zi ?_ ?_ ?_
 refine ua.t ?_
 refine yB ?_ ?_
 exact wj (jZ (Snd.b (Jy (n:="str") (YC _) (by rfl) tx.z_isinstance (by rfl) tx.z_str PyProof.Rows.Boot.«str» (zm 0 (pv 0)))))
 refine U6 ?_
 refine wj ?_
 refine UI ji ji Zb Zb ?_ ?_ ?_
 exact Snd.b zc
 exact Snd.b (ZS (by rfl) tx.z_len (zm 0 (pv 0)))
 exact Snd.b zc
 exact zu (zz qq)
 exact Zh
 refine zu ?_
 refine zz ?_
 refine vj hr.hd (by rfl) tx.z_all ?_
 refine Snd.b ?_
 refine jk (ZV ["sign"] Y8 (ze uO) (by rfl) (by rfl) (by decide+kernel) (by rfl) ?_ (fun _ _ _ _ _ _=>zP (show List.Nodup (["sign"]:List Str) by decide+kernel) (by rfl) (.inl (by rfl)) (.inr (by rfl))) (Z0 0) (Z1 0) (fun Y' hy' _ _ _ _ _ _=> ?_) (fun Y' hy' _ _ _ _ _ _=> ?_))
 exact JO (zb 0 (pv 0))
 exact J0
 exact wn ji ji Zb Zb (Snd.b zU) (zm 0 (pv 0)) (Snd.b zU)
end
end G
namespace G
open PySem PySem.Spec PyProof.Rows L2 PV
section
variable {P:Program} {w:World} {K:PySem.W.Frag} {mg:Str->Option Value} {base:Heap} {cl:Nat->Value} {tx:Tx K mg}
theorem Yl {c_is_whole c_is_tuple_of c_is_word:List T->R T} (O_is_whole:JW P w base cl tx 1 c_is_whole) (O_is_tuple_of:ZT P w base cl tx 1 c_is_tuple_of) (O_is_word:uW P w base cl tx 1 c_is_word):W7 P w base cl tx 2 (fun ts=>zp (w4 c_is_whole c_is_tuple_of c_is_word (en0 1 ts))):=by
 refine j8 tx.C_is_choice.F Y9 rfl (fun cdv A outer s H E Y hy hr=> ?_) (fun ts h=>rfl)
 refine zu ?_
 refine zz ?_
 refine jG ?_ ?_
 refine cZ hy O_is_tuple_of hr tx.C_is_tuple_of ?_
 exact za (zb 0 (pv 0)) (za zc (za zc zk))
 refine jG ?_ ?_
 exact cZ hy O_is_word hr tx.C_is_word (za (Zk (zb 0 (pv 0)) zc) zk)
 refine jG ?_ ?_
 exact cZ hy O_is_whole hr tx.C_is_whole (za (Zk (zb 0 (pv 0)) zc) zk)
 refine JN ?_
 refine wn ji ji Zb Zb ?_ ?_ ?_
 exact Snd.b zc
 exact Snd.b (Zk (zb 0 (pv 0)) zc)
 exact Snd.b zc
end
end G
namespace G
open PySem PySem.Spec PyProof.Rows L2 PV
section
variable {P:Program} {w:World} {K:PySem.W.Frag} {mg:Str->Option Value} {base:Heap} {cl:Nat->Value} {tx:Tx K mg}
theorem Uh {c_is_tuple_of c_is_choice:List T->R T} (O_is_tuple_of:ZT P w base cl tx 1 c_is_tuple_of) (O_is_choice:W7 P w base cl tx 2 c_is_choice):wb P w base cl tx 3 (fun ts=>zp (jR c_is_tuple_of c_is_choice (en0 2 ts))):=by
 refine j8 tx.C_are_choices.F wT rfl (fun cdv A outer s H E Y hy hr=> ?_) (fun ts h=>rfl)
 refine zj ?_ ?_
 refine Zi ?_ ?_ ?_
 refine ua.t ?_
 refine yB ?_ ?_
 refine wj ?_
 refine jZ ?_
 refine Snd.b ?_
 refine cZ hy O_is_tuple_of hr tx.C_is_tuple_of ?_
 exact za (zb 0 (pv 0)) (za zc (za zc zk))
 refine U6 ?_
 refine wj ?_
 refine jZ ?_
 refine Snd.b ?_
 refine vj hr.hd (by rfl) tx.z_all ?_
 refine Snd.b ?_
 refine jk (ZV ["part"] wa (ze jU) (by rfl) (by rfl) (by decide+kernel) (by rfl) ?_ (fun _ _ _ _ _ _=>zP (show List.Nodup (["part"]:List Str) by decide+kernel) (by rfl) (.inl (by rfl)) (.inr (by rfl))) (Z0 0) (Z1 0) (fun Y' hy' _ _ _ _ _ _=> ?_) (fun Y' hy' _ _ _ _ _ _=> ?_))
 exact JO (zb 0 (pv 0))
 exact J0
 exact cZ (hy'.trans hy) O_is_choice hr tx.C_is_choice (za (zb 0 (pv 0)) zk)
 exact zu (zz qq)
 exact Zh
 refine zj ?_ ?_
 refine vq (i:=1) (ZV ["choice"] wa (ze jU) (by rfl) (by rfl) (by decide+kernel) (by rfl) ?_ (fun _ _ _ _ _ _=>zP (show List.Nodup (["choice"]:List Str) by decide+kernel) (by rfl) (.inl (by rfl)) (.inr (by rfl))) (Z0 0) (Z1 0) (fun Y' hy' _ _ _ _ _ _=> ?_) (fun Y' hy' _ _ _ _ _ _=> ?_)) wT.nd (by rfl) (.inl (by rfl)) (by rfl)
 exact JO (zb 0 (pv 0))
 exact J0
 exact Zk (zb 0 (pv 0)) zc
 refine zu ?_
 refine zz ?_
 exact JY Zr (zK hr.units) (Snd.b (KY hr.hd (by rfl) tx.z_len (by rfl) tx.z_set (zm 1 (pv 1)))) (Snd.b (ZS (by rfl) tx.z_len (zm 1 (pv 1)))) (zq _)
end
end G
namespace G
open PySem PySem.Spec PyProof.Rows L2 PV
section
variable {P:Program} {w:World} {K:PySem.W.Frag} {mg:Str->Option Value} {base:Heap} {cl:Nat->Value} {tx:Tx K mg}
theorem WM {j:Nat} (hj:3<=j) {c_is_span c_is_kind_within c_are_choices c_are_kinds_within:List T->R T} (O_is_span:uV P w base cl tx 2 c_is_span) (O_is_kind_within:Z9 P w base cl tx j c_is_kind_within) (O_are_choices:wb P w base cl tx 3 c_are_choices) (O_are_kinds_within:ZH P w base cl tx j c_are_kinds_within):Z9 P w base cl tx (j+1) (fun ts=>zp (j6 c_is_span c_is_kind_within c_are_choices c_are_kinds_within (en0 2 ts))):=by
 refine j8 tx.C_is_kind_within.F WJ rfl (fun cdv A outer s H E Y hy hr=> ?_) (fun ts h=>rfl)
 refine zj ?_ ?_
 refine Zi ?_ ?_ ?_
 refine ua.t ?_
 refine yB ?_ ?_
 exact Za Zr (zK hr.units) (zm 1 (pv 1)) (Snd.b zc) (zq _)
 refine yB ?_ ?_
 exact wj (jZ (Snd.b (Jy (n:="tuple") (j0 _) (by rfl) tx.z_isinstance (by rfl) tx.z_tuple PyProof.Rows.Boot.«tuple» (zm 0 (pv 0)))))
 exact U6 (Za Zr (zK hr.units) (Snd.b (ZS (by rfl) tx.z_len (zm 0 (pv 0)))) (Snd.b zc) (zq _))
 exact zu (zz qq)
 exact Zh
 refine zj ?_ ?_
 refine Zi ?_ ?_ ?_
 exact Za Zr (zK hr.units) (Snd.b (Zk (zb 0 (pv 0)) zc)) (Snd.b zU) (zq _)
 refine zu ?_
 refine zz ?_
 refine jG ?_ ?_
 exact JY Zr (zK hr.units) (Snd.b (ZS (by rfl) tx.z_len (zm 0 (pv 0)))) (Snd.b zc) (zq _)
 refine JN ?_
 refine cZ hy O_is_span hr tx.C_is_span ?_
 refine za ?_ ?_
 exact Zk (zb 0 (pv 0)) zc
 refine za ?_ ?_
 exact Zk (zb 0 (pv 0)) zc
 exact za (QY zc) (za zc zk)
 exact Zh
 refine zj ?_ ?_
 refine Zi ?_ ?_ ?_
 exact Za Zr (zK hr.units) (Snd.b (Zk (zb 0 (pv 0)) zc)) (Snd.b zU) (zq _)
 refine zu ?_
 refine zz ?_
 refine jG ?_ ?_
 exact JY Zr (zK hr.units) (Snd.b (ZS (by rfl) tx.z_len (zm 0 (pv 0)))) (Snd.b zc) (zq _)
 exact JN (cZ hy O_are_choices hr tx.C_are_choices (za (Zk (zb 0 (pv 0)) zc) zk))
 exact Zh
 refine zj ?_ ?_
 refine Zi ?_ ?_ ?_
 exact Za Zr (zK hr.units) (Snd.b (Zk (zb 0 (pv 0)) zc)) (Snd.b zU) (zq _)
 refine zu ?_
 refine zz ?_
 refine jG ?_ ?_
 exact JY Zr (zK hr.units) (Snd.b (ZS (by rfl) tx.z_len (zm 0 (pv 0)))) (Snd.b zc) (zq _)
 refine JN ?_
 refine cZ hy O_are_kinds_within hr tx.C_are_kinds_within ?_
 refine za ?_ ?_
 exact Zk (zb 0 (pv 0)) zc
 exact za (yA (zb 1 (pv 1)) zc) zk
 exact Zh
 refine zj ?_ ?_
 refine Zi ?_ ?_ ?_
 exact Za Zr (zK hr.units) (Snd.b (Zk (zb 0 (pv 0)) zc)) (Snd.b zU) (zq _)
 refine zu ?_
 refine zz ?_
 refine jG ?_ ?_
 exact JY Zr (zK hr.units) (Snd.b (ZS (by rfl) tx.z_len (zm 0 (pv 0)))) (Snd.b zc) (zq _)
 refine jG ?_ ?_
 refine cZ hy O_is_span hr tx.C_is_span ?_
 refine za ?_ ?_
 exact Zk (zb 0 (pv 0)) zc
 refine za ?_ ?_
 exact Zk (zb 0 (pv 0)) zc
 exact za zc (za zc zk)
 refine JN ?_
 refine cZ hy O_is_kind_within hr tx.C_is_kind_within ?_
 refine za ?_ ?_
 exact Zk (zb 0 (pv 0)) zc
 exact za (yA (zb 1 (pv 1)) zc) zk
 exact Zh
 exact zu (zz qq)
end
end G
namespace G
open PySem PySem.Spec PyProof.Rows L2 PV
section
variable {P:Program} {w:World} {K:PySem.W.Frag} {mg:Str->Option Value} {base:Heap} {cl:Nat->Value} {tx:Tx K mg}
theorem W9 {j:Nat} (hj:3<=j) {c_is_tuple_of c_is_kind_within:List T->R T} (O_is_tuple_of:ZT P w base cl tx 1 c_is_tuple_of) (O_is_kind_within:Z9 P w base cl tx j c_is_kind_within):ZH P w base cl tx (j+1) (fun ts=>zp (ZF c_is_tuple_of c_is_kind_within (en0 2 ts))):=by
 refine j8 tx.C_are_kinds_within.F W3 rfl (fun cdv A outer s H E Y hy hr=> ?_) (fun ts h=>rfl)
 refine zu ?_
 refine zz ?_
 refine jG ?_ ?_
 refine cZ hy O_is_tuple_of hr tx.C_is_tuple_of ?_
 exact za (zb 0 (pv 0)) (za zc (za zc zk))
 refine JN ?_
 refine vj hr.hd (by rfl) tx.z_all ?_
 refine Snd.b ?_
 refine jk (ZV ["part","levels"] Jt (ze jq) (by rfl) (by rfl) (by decide+kernel) (by rfl) ?_ (fun _ _ _ _ _ _=>zP (show List.Nodup (["part","levels"]:List Str) by decide+kernel) (by rfl) (.inl (by rfl)) (.inr (by rfl))) (Z0 0) (Z1 0) (fun Y' hy' _ _ _ _ _ _=> ?_) (fun Y' hy' _ _ _ _ _ _=> ?_))
 exact JO (zb 0 (pv 0))
 exact J0
 exact cZ (hy'.trans hy) O_is_kind_within hr tx.C_is_kind_within (za (zb 0 (pv 0)) (za (zb 1 (pv 1)) zk))
end
end G
namespace G
open PySem PySem.Spec PyProof.Rows L2 PV
section
variable {P:Program} {w:World} {K:PySem.W.Frag} {mg:Str->Option Value} {base:Heap} {cl:Nat->Value} {tx:Tx K mg}
theorem Qr {c_is_kind_within:List T->R T} (O_is_kind_within:Z9 P w base cl tx 23 c_is_kind_within):uX P w base cl tx 24 (fun ts=>zp (Wq c_is_kind_within (en0 1 ts))):=by
 obtain ⟨u_DEEPEST,c_DEEPEST⟩:=tx.c_DEEPEST
 refine j8 tx.C_is_kind.F Qm rfl (fun cdv A outer s H E Y hy hr=> ?_) (fun ts h=>rfl)
 refine zu ?_
 exact zz (cZ hy O_is_kind_within hr tx.C_is_kind_within (za (zb 0 (pv 0)) (za (XW (by rfl) c_DEEPEST.1 c_DEEPEST.2) zk)))
end
end G
namespace G
open PySem PySem.Spec PyProof.Rows L2 PV
section
variable {P:Program} {w:World} {K:PySem.W.Frag} {mg:Str->Option Value} {base:Heap} {cl:Nat->Value} {tx:Tx K mg}
theorem Ym {c_is_kind:List T->R T} (xq:Tq K mg base cl) (O_is_kind:uX P w base cl tx 24 c_is_kind):W8 P w base cl tx 25 (fun ts=>zp (w8 c_is_kind (en0 1 ts))):=by
 refine xW tx.C_need_kind.F Yb rfl (fun cdv A outer s H E Y hy hE hr=> ?_) (fun ts h=>rfl)
 refine zu ?_
 refine Zi ?_ ?_ ?_
 exact wj (jZ (Snd.b (cZ hy O_is_kind hr tx.C_is_kind (za (zb 0 (pv 0)) zk))))
 exact zu (XZ (c:=0) xq.o_NoKind PySem.F.excBase_ValueError (by decide) PySem.F.excBase_ValueError hE (by rw [hy]; exact xq.l_NoKind) (by rfl))
 exact Zh
end
end G
namespace G
open PySem PySem.Spec PyProof.Rows L2 PV
section
variable {P:Program} {w:World} {K:PySem.W.Frag} {mg:Str->Option Value} {base:Heap} {cl:Nat->Value} {tx:Tx K mg}
theorem u8:Jg P w base cl tx 1 (fun ts=>zp (jn  (en0 1 ts))):=by
 refine j8 tx.C_words_of_pick.F u7 rfl (fun cdv A outer s H E Y hy hr=> ?_) (fun ts h=>rfl)
 refine zu ?_
 refine zz ?_
 refine jk (ZV ["choice"] wy (ze Jd) (by rfl) (by rfl) (by decide+kernel) (by rfl) ?_ (fun _ _ _ _ _ _=>zP (show List.Nodup (["choice"]:List Str) by decide+kernel) (by rfl) (.inl (by rfl)) (.inr (by rfl))) (Z0 0) (Z1 0) (fun Y' hy' _ _ _ _ _ _=> ?_) (fun Y' hy' _ _ _ _ _ _=> ?_))
 exact JO (Zk (zb 0 (pv 0)) zc)
 exact J0
 exact Zk (zb 0 (pv 0)) zc
end
end G
namespace G
open PySem PySem.Spec PyProof.Rows L2 PV
section
variable {P:Program} {w:World} {K:PySem.W.Frag} {mg:Str->Option Value} {base:Heap} {cl:Nat->Value} {tx:Tx K mg}
theorem Yn {j:Nat} (hj:1<=j) {c_is_whole c_is_tuple_of c_words_of_pick c_have_parts:List T->R T} (O_is_whole:JW P w base cl tx 1 c_is_whole) (O_is_tuple_of:ZT P w base cl tx 1 c_is_tuple_of) (O_words_of_pick:Jg P w base cl tx 1 c_words_of_pick) (O_have_parts:Ju P w base cl tx j c_have_parts):Jh P w base cl tx (j+1) (fun ts=>zp (zZ c_is_whole c_is_tuple_of c_words_of_pick c_have_parts (en0 2 ts))):=by
 refine j8 tx.C_has_worth.F Yc rfl (fun cdv A outer s H E Y hy hr=> ?_) (fun ts h=>rfl)
 refine zj ?_ ?_
 refine Zi ?_ ?_ ?_
 exact Za Zr (zK hr.units) (Snd.b (Zk (zb 0 (pv 0)) zc)) (Snd.b zU) (zq _)
 refine zu ?_
 refine zz ?_
 refine jG ?_ ?_
 exact cZ hy O_is_whole hr tx.C_is_whole (za (zb 1 (pv 1)) zk)
 refine JN ?_
 refine wn ji ji Zb Zb ?_ ?_ ?_
 exact Snd.b (Zk (zb 0 (pv 0)) zc)
 exact zm 1 (pv 1)
 exact Snd.b (Zk (zb 0 (pv 0)) zc)
 exact Zh
 refine zj ?_ ?_
 refine Zi ?_ ?_ ?_
 exact Za Zr (zK hr.units) (Snd.b (Zk (zb 0 (pv 0)) zc)) (Snd.b zU) (zq _)
 refine zu ?_
 refine zz ?_
 exact JY QZ (v8 hr.units) (zm 1 (pv 1)) (Snd.b (cZ hy O_words_of_pick hr tx.C_words_of_pick (za (zb 0 (pv 0)) zk))) (by rfl)
 exact Zh
 refine zj ?_ ?_
 refine Zi ?_ ?_ ?_
 exact Za Zr (zK hr.units) (Snd.b (Zk (zb 0 (pv 0)) zc)) (Snd.b zU) (zq _)
 refine zu ?_
 refine zz ?_
 refine jG ?_ ?_
 refine cZ hy O_is_tuple_of hr tx.C_is_tuple_of ?_
 refine za ?_ ?_
 exact zb 1 (pv 1)
 refine za ?_ ?_
 exact ZS (by rfl) tx.z_len (Snd.b (Zk (zb 0 (pv 0)) zc))
 exact za (ZS (by rfl) tx.z_len (Snd.b (Zk (zb 0 (pv 0)) zc))) zk
 refine JN ?_
 refine cZ hy O_have_parts hr tx.C_have_parts ?_
 exact za (Zk (zb 0 (pv 0)) zc) (za (zb 1 (pv 1)) zk)
 exact Zh
 refine zu ?_
 refine zz ?_
 refine jG ?_ ?_
 refine cZ hy O_is_tuple_of hr tx.C_is_tuple_of ?_
 refine za ?_ ?_
 exact zb 1 (pv 1)
 refine za ?_ ?_
 exact Zk (zb 0 (pv 0)) zc
 exact za (Zk (zb 0 (pv 0)) zc) zk
 refine JN ?_
 refine cZ hy O_have_parts hr tx.C_have_parts ?_
 refine za ?_ ?_
 refine Jx ?_ ?_
 exact wm (za (Zk (zb 0 (pv 0)) zc) zk)
 exact ZS (by rfl) tx.z_len (zm 1 (pv 1))
 exact za (zb 1 (pv 1)) zk
end
end G
namespace G
open PySem PySem.Spec PyProof.Rows L2 PV
section
variable {P:Program} {w:World} {K:PySem.W.Frag} {mg:Str->Option Value} {base:Heap} {cl:Nat->Value} {tx:Tx K mg}
theorem ye {j:Nat} (hj:1<=j) {c_has_worth:List T->R T} (O_has_worth:Jh P w base cl tx j c_has_worth):Ju P w base cl tx (j+1) (fun ts=>zp (jJ c_has_worth (en0 2 ts))):=by
 refine j8 tx.C_have_parts.F yb rfl (fun cdv A outer s H E Y hy hr=> ?_) (fun ts h=>rfl)
 refine zu ?_
 refine zz ?_
 refine vj hr.hd (by rfl) tx.z_all ?_
 refine Snd.b ?_
 refine jk (ZV ["kind","part"] u0 (ze wz) (by rfl) (by rfl) (by decide+kernel) (by rfl) ?_ (fun _ _ _ _ _ _=>qj (by rfl) (Jn (zP (show List.Nodup (["kind","part"]:List Str) by decide+kernel) (by rfl) (.inl (by rfl)) (.inr (by rfl))) (Jn (zP (show List.Nodup (["kind","part"]:List Str) by decide+kernel) (by rfl) (.inl (by rfl)) (.inr (by rfl))) UD))) (ub _ 0 1) (uc 0 1) (fun Y' hy' _ _ _ _ _ _=> ?_) (fun Y' hy' _ _ _ _ _ _=> ?_))
 exact gq (by rfl) tx.z_zip (zb 0 (pv 0)) (zb 1 (pv 1))
 exact J0
 exact cZ (hy'.trans hy) O_has_worth hr tx.C_has_worth (za (zb 0 (pv 0)) (za (zb 1 (pv 1)) zk))
end
end G
namespace G
open PySem PySem.Spec PyProof.Rows L2 PV
section
variable {P:Program} {w:World} {K:PySem.W.Frag} {mg:Str->Option Value} {base:Heap} {cl:Nat->Value} {tx:Tx K mg}
theorem qh {c_need_kind c_has_worth:List T->R T} (O_need_kind:W8 P w base cl tx 25 c_need_kind) (O_has_worth:Jh P w base cl tx 21 c_has_worth):WK P w base cl tx 26 (fun ts=>zp (jX c_need_kind c_has_worth (en0 2 ts))):=by
 refine xW tx.C_is_worth.F qd rfl (fun cdv A outer s H E Y hy hE hr=> ?_) (fun ts h=>rfl)
 refine zj ?_ ?_
 exact KN (cX hy (hE ▸ GD) O_need_kind hr tx.C_need_kind (za (zb 0 (pv 0)) zk))
 refine zu ?_
 exact zz (cZ hy O_has_worth hr tx.C_has_worth (za (zb 0 (pv 0)) (za (zb 1 (pv 1)) zk)))
end
end G
namespace G
open PySem PySem.Spec PyProof.Rows L2 PV
section
variable {P:Program} {w:World} {K:PySem.W.Frag} {mg:Str->Option Value} {base:Heap} {cl:Nat->Value} {tx:Tx K mg}
theorem yf {c_is_worth:List T->R T} {c__law_word:Nat->R T} (xq:Tq K mg base cl) (O_is_worth:WK P w base cl tx 26 c_is_worth) (O__law_word:W6 P w base cl tx 1 c__law_word):wB P w base cl tx 27 (fun ts=>zp (je c_is_worth c__law_word (en0 5 ts))):=by
 refine j8 tx.C__law_tried.F jr rfl (fun cdv A outer s H E Y hy hr=> ?_) (fun ts h=>rfl)
 refine zj ?_ ?_
 exact ZJ (i:=2) jr.nd (by rfl) (.inl (by rfl)) VD
 refine zj ?_ ?_
 exact ZJ (i:=3) jr.nd (by rfl) (.inl (by rfl)) VD
 refine zj ?_ ?_
 refine GO (i:=4) (k:=2) (ok:=okX) (by rfl) (by rfl) jr.nd (by rfl) (by rfl) (by rfl) (by rfl) (by decide) (by rfl) xq.m_WorthError (hy ▸ xq.e_WorthError) (fun E' pn xe hp=> ?_)
 refine zu ?_
 exact ZJ (i:=3) jr.nd (by rfl) (.inl (by rfl)) (cX hy hp O_is_worth hr tx.C_is_worth (za (zb 0 (pv 0)) (za (zb 1 (pv 1)) zk)))
 refine zj ?_ ?_
 exact Zi (gd (pv 2)) (zu (zz (zb 3 (pv 3)))) Zh
 exact zu (zz (kb hy O__law_word hr (by omega) (by rfl) tx.C__law_word.m tx.C__law_word.F.kp tx.C__law_word.b (pv 2)))
end
end G
namespace G
open PySem PySem.Spec PyProof.Rows L2 PV
section
variable {P:Program} {w:World} {K:PySem.W.Frag} {mg:Str->Option Value} {base:Heap} {cl:Nat->Value} {tx:Tx K mg}
theorem yg:wC P w base cl tx 1 (fun ts=>zp (WO  (en0 3 ts))):=by
 refine j8 tx.C__law_whole.F yc rfl (fun cdv A outer s H E Y hy hr=> ?_) (fun ts h=>rfl)
 refine zu ?_
 refine zz ?_
 refine jG ?_ ?_
 exact Jy (n:="int") (YB _) (by rfl) tx.z_isinstance (by rfl) tx.z_int PyProof.Rows.Boot.«int» (zm 0 (pv 0))
 refine jG ?_ ?_
 exact KL (Jy (n:="bool") (Wh _) (by rfl) tx.z_isinstance (by rfl) tx.z_bool PyProof.Rows.Boot.«bool» (zm 0 (pv 0)))
 exact JN (wn ji ji Zb Zb (zm 1 (pv 1)) (zm 0 (pv 0)) (zm 2 (pv 2)))
end
end G
namespace G
open PySem PySem.Spec PyProof.Rows L2 PV
section
variable {P:Program} {w:World} {K:PySem.W.Frag} {mg:Str->Option Value} {base:Heap} {cl:Nat->Value} {tx:Tx K mg}
theorem U0:JJ P w base cl tx 1 (fun ts=>zp (jE  (en0 1 ts))):=by
 refine j8 tx.C__law_is_word.F uS rfl (fun cdv A outer s H E Y hy hr=> ?_) (fun ts h=>rfl)
 refine zu ?_
 refine zz ?_
 refine jG ?_ ?_
 exact Jy (n:="str") (YC _) (by rfl) tx.z_isinstance (by rfl) tx.z_str PyProof.Rows.Boot.«str» (zm 0 (pv 0))
 refine jG ?_ ?_
 refine wn ji ji Zb Zb ?_ ?_ ?_
 exact Snd.b zc
 exact Snd.b (ZS (by rfl) tx.z_len (zm 0 (pv 0)))
 exact Snd.b zc
 refine JN ?_
 refine JY Zr (zK hr.units) ?_ ?_ (zq _)
 refine Snd.b ?_
 refine jk (ZV ["_law_sign"] wU (ze JG) (by rfl) (by rfl) (by decide+kernel) (by rfl) ?_ (fun _ _ _ _ _ _=>zP (show List.Nodup (["_law_sign"]:List Str) by decide+kernel) (by rfl) (.inl (by rfl)) (.inr (by rfl))) (Z0 0) (Z1 0) (fun Y' hy' _ _ _ _ _ _=> ?_) (fun Y' hy' _ _ _ _ _ _=> ?_))
 exact JO (zb 0 (pv 0))
 refine uq ?_
 exact wj (UI ji ji Zb Zb (Snd.b zU) (zm 0 (pv 0)) (Snd.b zU))
 exact zb 0 (pv 0)
 exact Snd.b (wm zk)
end
end G
namespace G
open PySem PySem.Spec PyProof.Rows L2 PV
section
variable {P:Program} {w:World} {K:PySem.W.Frag} {mg:Str->Option Value} {base:Heap} {cl:Nat->Value} {tx:Tx K mg}
theorem U1 {j:Nat} (hj:1<=j) {c__law_whole c__law_is_word c__law_is_kind:List T->R T} (O__law_whole:wC P w base cl tx 1 c__law_whole) (O__law_is_word:JJ P w base cl tx 1 c__law_is_word) (O__law_is_kind:j3 P w base cl tx j c__law_is_kind):j3 P w base cl tx (j+1) (fun ts=>zp (ZA c__law_whole c__law_is_word c__law_is_kind (en0 6 ts))):=by
 refine j8 tx.C__law_is_kind.F jt rfl (fun cdv A outer s H E Y hy hr=> ?_) (fun ts h=>rfl)
 refine zj ?_ ?_
 refine Zi ?_ ?_ ?_
 refine ua.t ?_
 refine yB ?_ ?_
 exact wj (jZ (Snd.b (Jy (n:="tuple") (j0 _) (by rfl) tx.z_isinstance (by rfl) tx.z_tuple PyProof.Rows.Boot.«tuple» (zm 0 (pv 0)))))
 refine yB ?_ ?_
 exact Za Q1 Um (Snd.b (ZS (by rfl) tx.z_len (zm 0 (pv 0)))) (Snd.b zc) (zq _)
 refine yB ?_ ?_
 refine wj ?_
 exact jZ (Snd.b (Jy (n:="str") (YC _) (by rfl) tx.z_isinstance (by rfl) tx.z_str PyProof.Rows.Boot.«str» (Snd.b (Zk (zb 0 (pv 0)) zc))))
 exact U6 (Za Q1 Um (zm 1 (pv 1)) (Snd.b zc) (zq _))
 exact zu (zz qq)
 exact Zh
 refine zj ?_ ?_
 refine GL (i:=2) (j:=3) (by rfl) jt.nd (by rfl) (by rfl) (by decide) (by rfl) (by rfl) ?_ (by rfl)
 refine za ?_ ?_
 exact Zk (zb 0 (pv 0)) zc
 exact za (Jz (zb 0 (pv 0)) (wp zc) Wi) zk
 refine zj ?_ ?_
 refine Zi ?_ ?_ ?_
 exact Za Zr (zK hr.units) (zm 2 (pv 2)) (Snd.b zU) (zq _)
 refine zu ?_
 refine zz ?_
 refine jG ?_ ?_
 exact JY Zr (zK hr.units) (Snd.b (ZS (by rfl) tx.z_len (zm 3 (pv 3)))) (Snd.b zc) (zq _)
 refine jG ?_ ?_
 refine cZ hy O__law_whole hr tx.C__law_whole ?_
 refine za ?_ ?_
 exact Zk (zb 3 (pv 3)) zc
 exact za (QY zc) (za zc zk)
 refine JN ?_
 refine cZ hy O__law_whole hr tx.C__law_whole ?_
 refine za ?_ ?_
 exact Zk (zb 3 (pv 3)) zc
 exact za (Zk (zb 3 (pv 3)) zc) (za zc zk)
 exact Zh
 refine zj ?_ ?_
 refine Zi ?_ ?_ ?_
 exact Za Zr (zK hr.units) (zm 2 (pv 2)) (Snd.b zU) (zq _)
 refine zj ?_ ?_
 refine Zi ?_ ?_ ?_
 refine ua.t ?_
 refine yB ?_ ?_
 exact Za UH (Wf hr.units) (Snd.b (ZS (by rfl) tx.z_len (zm 3 (pv 3)))) (Snd.b zc) (zq _)
 refine yB ?_ ?_
 refine wj ?_
 exact jZ (Snd.b (Jy (n:="tuple") (j0 _) (by rfl) tx.z_isinstance (by rfl) tx.z_tuple PyProof.Rows.Boot.«tuple» (Snd.b (Zk (zb 3 (pv 3)) zc))))
 refine U6 ?_
 refine wj ?_
 refine UI ji ji Zb Zb ?_ ?_ ?_
 exact Snd.b zc
 exact Snd.b (ZS (by rfl) tx.z_len (Snd.b (Zk (zb 3 (pv 3)) zc)))
 exact Snd.b zc
 exact zu (zz qq)
 exact Zh
 refine zj ?_ ?_
 refine vq (i:=4) (ZV ["_law_one"] j2 (ze ZB) (by rfl) (by rfl) (by decide+kernel) (by rfl) ?_ (fun _ _ _ _ _ _=>zP (show List.Nodup (["_law_one"]:List Str) by decide+kernel) (by rfl) (.inl (by rfl)) (.inr (by rfl))) (Z0 0) (Z1 0) (fun Y' hy' _ _ _ _ _ _=> ?_) (fun Y' hy' _ _ _ _ _ _=> ?_)) jt.nd (by rfl) (.inl (by rfl)) (by rfl)
 exact JO (Zk (zb 3 (pv 3)) zc)
 refine uq ?_
 refine ua.t ?_
 refine VI ?_ ?_
 exact jZ (Snd.b (Jy (n:="tuple") (j0 _) (by rfl) tx.z_isinstance (by rfl) tx.z_tuple PyProof.Rows.Boot.«tuple» (zm 0 (pv 0))))
 exact qt (Za Zr (zK hr.units) (Snd.b (ZS (by rfl) tx.z_len (zm 0 (pv 0)))) (Snd.b zc) (zq _))
 exact zb 0 (pv 0)
 refine zj ?_ ?_
 refine ZJ (i:=5) jt.nd (by rfl) (.inr (by rfl)) (jk (ZV ["_law_one"] j2 (ze ZB) (by rfl) (by rfl) (by decide+kernel) (by rfl) ?_ (fun _ _ _ _ _ _=>zP (show List.Nodup (["_law_one"]:List Str) by decide+kernel) (by rfl) (.inl (by rfl)) (.inr (by rfl))) (Z0 0) (Z1 0) (fun Y' hy' _ _ _ _ _ _=> ?_) (fun Y' hy' _ _ _ _ _ _=> ?_)))
 exact JO (zb 4 (pv 4))
 refine uq ?_
 refine ua.t ?_
 refine VI ?_ ?_
 refine jZ ?_
 exact Snd.b (cZ (hy'.trans hy) O__law_is_word hr tx.C__law_is_word (za (Zk (zb 0 (pv 0)) zc) zk))
 refine qt ?_
 refine jZ ?_
 refine Snd.b ?_
 refine cZ (hy'.trans hy) O__law_whole hr tx.C__law_whole ?_
 refine za ?_ ?_
 exact Zk (zb 0 (pv 0)) zc
 exact za zc (za zc zk)
 exact Zk (zb 0 (pv 0)) zc
 refine zu ?_
 refine zz ?_
 refine jG ?_ ?_
 refine JY Zr (zK hr.units) ?_ ?_ (zq _)
 exact Snd.b (ZS (by rfl) tx.z_len (zm 5 (pv 5)))
 exact Snd.b (ZS (by rfl) tx.z_len (Snd.b (Zk (zb 3 (pv 3)) zc)))
 refine JN ?_
 refine JY Zr (zK hr.units) ?_ ?_ (zq _)
 refine Snd.b ?_
 refine jk (ZV ["_law_k","_law_words"] j2 (ze ZB) (by rfl) (by rfl) (by decide+kernel) (by rfl) ?_ (fun _ _ _ _ _ _=>zP (show List.Nodup (["_law_k","_law_words"]:List Str) by decide+kernel) (by rfl) (.inl (by rfl)) (.inr (by rfl))) (Z0 0) (Z1 0) (fun Y' hy' _ _ _ _ _ _=> ?_) (fun Y' hy' _ _ _ _ _ _=> ?_))
 exact um (by rfl) tx.z_range (ZS (by rfl) tx.z_len (zm 5 (pv 5)))
 refine uq ?_
 refine Za QZ (v8 hr.units) ?_ ?_ (by rfl)
 exact Snd.b (Zk (zb 1 (pv 1)) (zb 0 (pv 0)))
 exact Snd.b (Jz (zb 1 (pv 1)) Wi (wp (zb 0 (pv 0))))
 exact zb 0 (pv 0)
 exact Snd.b (wm zk)
 exact Zh
 refine zj ?_ ?_
 refine Zi ?_ ?_ ?_
 exact Za Zr (zK hr.units) (zm 2 (pv 2)) (Snd.b zU) (zq _)
 refine zj ?_ ?_
 refine Zi ?_ ?_ ?_
 refine ua.t ?_
 refine yB ?_ ?_
 exact Za UH (Wf hr.units) (Snd.b (ZS (by rfl) tx.z_len (zm 3 (pv 3)))) (Snd.b zc) (zq _)
 refine yB ?_ ?_
 refine wj ?_
 exact jZ (Snd.b (Jy (n:="tuple") (j0 _) (by rfl) tx.z_isinstance (by rfl) tx.z_tuple PyProof.Rows.Boot.«tuple» (Snd.b (Zk (zb 3 (pv 3)) zc))))
 refine U6 ?_
 refine wj ?_
 refine UI ji ji Zb Zb ?_ ?_ ?_
 exact Snd.b zc
 exact Snd.b (ZS (by rfl) tx.z_len (Snd.b (Zk (zb 3 (pv 3)) zc)))
 exact Snd.b zc
 exact zu (zz qq)
 exact Zh
 refine zu ?_
 refine zz ?_
 refine JY Zr (zK hr.units) ?_ ?_ (zq _)
 refine Snd.b ?_
 refine jk (ZV ["_law_one","_law_deep"] j2 (ze ZB) (by rfl) (by rfl) (by decide+kernel) (by rfl) ?_ (fun _ _ _ _ _ _=>zP (show List.Nodup (["_law_one","_law_deep"]:List Str) by decide+kernel) (by rfl) (.inl (by rfl)) (.inr (by rfl))) (Z0 0) (Z1 0) (fun Y' hy' _ _ _ _ _ _=> ?_) (fun Y' hy' _ _ _ _ _ _=> ?_))
 exact JO (Zk (zb 3 (pv 3)) zc)
 refine uq ?_
 refine wj ?_
 refine jZ ?_
 refine Snd.b ?_
 refine cZ (hy'.trans hy) O__law_is_kind hr tx.C__law_is_kind ?_
 exact za (zb 0 (pv 0)) (za (yA (zb 1 (pv 1)) zc) zk)
 exact zb 0 (pv 0)
 exact Snd.b (wm zk)
 exact Zh
 refine zj ?_ ?_
 refine Zi ?_ ?_ ?_
 refine ua.t ?_
 refine yB ?_ ?_
 exact Za UH (Wf hr.units) (zm 2 (pv 2)) (Snd.b zU) (zq _)
 refine yB ?_ ?_
 exact Za UH (Wf hr.units) (Snd.b (ZS (by rfl) tx.z_len (zm 3 (pv 3)))) (Snd.b zc) (zq _)
 refine yB ?_ ?_
 refine wj ?_
 refine jZ ?_
 refine Snd.b ?_
 refine cZ hy O__law_whole hr tx.C__law_whole ?_
 refine za ?_ ?_
 exact Zk (zb 3 (pv 3)) zc
 exact za zc (za zc zk)
 refine U6 ?_
 refine wj ?_
 refine jZ ?_
 refine Snd.b ?_
 refine cZ hy O__law_whole hr tx.C__law_whole ?_
 refine za ?_ ?_
 exact Zk (zb 3 (pv 3)) zc
 exact za (Zk (zb 3 (pv 3)) zc) (za zc zk)
 exact zu (zz qq)
 exact Zh
 refine zu ?_
 refine zz ?_
 refine cZ hy O__law_is_kind hr tx.C__law_is_kind ?_
 refine za ?_ ?_
 exact Zk (zb 3 (pv 3)) zc
 exact za (yA (zb 1 (pv 1)) zc) zk
end
end G
namespace G
open PySem PySem.Spec PyProof.Rows L2 PV
section
variable {P:Program} {w:World} {K:PySem.W.Frag} {mg:Str->Option Value} {base:Heap} {cl:Nat->Value} {tx:Tx K mg}
theorem Yo {j:Nat} (hj:0<=j) {c__law_same:List T->R T} (O__law_same:Ji P w base cl tx j c__law_same):Ji P w base cl tx (j+1) (fun ts=>zp (ZP c__law_same (en0 2 ts))):=by
 refine j8 tx.C__law_same.F Yf rfl (fun cdv A outer s H E Y hy hr=> ?_) (fun ts h=>rfl)
 refine zj ?_ ?_
 refine Zi ?_ ?_ ?_
 refine ua.t ?_
 refine VI ?_ ?_
 exact jZ (Snd.b (Jy (n:="tuple") (j0 _) (by rfl) tx.z_isinstance (by rfl) tx.z_tuple PyProof.Rows.Boot.«tuple» (zm 0 (pv 0))))
 exact qt (jZ (Snd.b (Jy (n:="tuple") (j0 _) (by rfl) tx.z_isinstance (by rfl) tx.z_tuple PyProof.Rows.Boot.«tuple» (zm 1 (pv 1)))))
 refine zu ?_
 refine zz ?_
 refine jG ?_ ?_
 exact JY Zr (zK hr.units) (Snd.b (ZS (by rfl) tx.z_len (zm 0 (pv 0)))) (Snd.b (ZS (by rfl) tx.z_len (zm 1 (pv 1)))) (zq _)
 refine JN ?_
 refine vj hr.hd (by rfl) tx.z_all ?_
 refine Snd.b ?_
 refine jk (ZV ["_law_mine","_law_yours"] uT (ze W4) (by rfl) (by rfl) (by decide+kernel) (by rfl) ?_ (fun _ _ _ _ _ _=>qj (by rfl) (Jn (zP (show List.Nodup (["_law_mine","_law_yours"]:List Str) by decide+kernel) (by rfl) (.inl (by rfl)) (.inr (by rfl))) (Jn (zP (show List.Nodup (["_law_mine","_law_yours"]:List Str) by decide+kernel) (by rfl) (.inl (by rfl)) (.inr (by rfl))) UD))) (ub _ 0 1) (uc 0 1) (fun Y' hy' _ _ _ _ _ _=> ?_) (fun Y' hy' _ _ _ _ _ _=> ?_))
 exact gq (by rfl) tx.z_zip (zb 0 (pv 0)) (zb 1 (pv 1))
 exact J0
 exact cZ (hy'.trans hy) O__law_same hr tx.C__law_same (za (zb 0 (pv 0)) (za (zb 1 (pv 1)) zk))
 exact Zh
 refine zu ?_
 refine zz ?_
 refine jG ?_ ?_
 exact JY Zr (zK hr.units) (zm 0 (pv 0)) (zm 1 (pv 1)) (zq _)
 refine JN ?_
 exact JY Zr (zK hr.units) (Snd.b (Jy (n:="bool") (Wh _) (by rfl) tx.z_isinstance (by rfl) tx.z_bool PyProof.Rows.Boot.«bool» (zm 0 (pv 0)))) (Snd.b (Jy (n:="bool") (Wh _) (by rfl) tx.z_isinstance (by rfl) tx.z_bool PyProof.Rows.Boot.«bool» (zm 1 (pv 1)))) (zq _)
end
end G
namespace G
open PySem PySem.Spec PyProof.Rows L2 PV
section
variable {P:Program} {w:World} {K:PySem.W.Frag} {mg:Str->Option Value} {base:Heap} {cl:Nat->Value} {tx:Tx K mg}
theorem gS {c__law_pick c__law_all c__law_small c__law_is_kind c__law_spoilt_thing c__law_tried c__law_same:List T->R T} (O__law_pick:jc P w base cl tx 2 c__law_pick) (O__law_all:jY P w base cl tx 9 c__law_all) (O__law_small:wA P w base cl tx 18 c__law_small) (O__law_is_kind:j3 P w base cl tx 13 c__law_is_kind) (O__law_spoilt_thing:jd P w base cl tx 41 c__law_spoilt_thing) (O__law_tried:wB P w base cl tx 27 c__law_tried) (O__law_same:Ji P w base cl tx 40 c__law_same):kX P w base cl tx 42 (fun ts=>zp (xa c__law_pick c__law_all c__law_small c__law_is_kind c__law_spoilt_thing c__law_tried c__law_same (en0 8 ts))):=by
 refine j8 tx.C_law.F Wu rfl (fun cdv A outer s H E Y hy hr=> ?_) (fun ts h=>rfl)
 refine zj ?_ ?_
 refine ZJ (i:=1) Wu.nd (by rfl) (.inr (by rfl)) ?_
 refine cZ hy O__law_small hr tx.C__law_small ?_
 exact za (zb 0 (pv 0)) (za zc (za zc zk))
 refine zj ?_ ?_
 exact ZJ (i:=2) Wu.nd (by rfl) (.inl (by rfl)) (cZ hy O__law_all hr tx.C__law_all (za (zb 1 (pv 1)) zk))
 refine zj ?_ ?_
 refine Zi ?_ ?_ ?_
 refine Za UH (Wf hr.units) ?_ ?_ (zq _)
 refine Snd.b ?_
 refine jk (ZV ["_law_worth","_law_kind_here"] kW (ze xE) (by rfl) (by rfl) (by decide+kernel) (by rfl) ?_ (fun _ _ _ _ _ _=>zP (show List.Nodup (["_law_worth","_law_kind_here"]:List Str) by decide+kernel) (by rfl) (.inl (by rfl)) (.inr (by rfl))) (Z0 0) (Z1 0) (fun Y' hy' _ _ _ _ _ _=> ?_) (fun Y' hy' _ _ _ _ _ _=> ?_))
 exact JO (zb 2 (pv 2))
 refine uq ?_
 refine Za KJ XH ?_ ?_ (zq _)
 exact Snd.b (cZ (hy'.trans hy) O__law_tried hr tx.C__law_tried (za (zb 1 (pv 1)) (za (zb 0 (pv 0)) zk)))
 exact Snd.b qq
 exact zb 0 (pv 0)
 exact Snd.b (wm zk)
 exact zu (zz qq)
 exact Zh
 refine zj ?_ ?_
 refine UK PassesOwn.never (by rfl) ?_ ?_ ?_
 exact um (by rfl) tx.z_range zc
 exact Wj (i:=3) Wu.nd (by rfl) (.inl (by rfl))
 refine zj ?_ ?_
 refine ZJ (i:=4) Wu.nd (by rfl) (.inl (by rfl)) ?_
 refine Zk ?_ ?_
 exact zb 2 (pv 2)
 refine cZ hy O__law_pick hr tx.C__law_pick ?_
 refine za ?_ ?_
 exact zb 0 (pv 0)
 refine za ?_ ?_
 exact zS zc (Jx zc (zb 3 (pv 3)))
 exact za (ZS (by rfl) tx.z_len (zm 2 (pv 2))) zk
 refine zj ?_ ?_
 refine ZJ (i:=5) Wu.nd (by rfl) (.inr (by rfl)) ?_
 refine cZ hy O__law_spoilt_thing hr tx.C__law_spoilt_thing ?_
 refine za ?_ ?_
 exact zb 0 (pv 0)
 refine za ?_ ?_
 exact zS zc (Jx zc (zb 3 (pv 3)))
 exact za (zb 4 (pv 4)) zk
 refine zj ?_ ?_
 refine ZJ (i:=6) Wu.nd (by rfl) (.inl (by rfl)) ?_
 refine JY UH (Wf hr.units) ?_ ?_ (zq _)
 refine Snd.b ?_
 refine jk (ZV ["_law_one","_law_thing"] kW (ze xE) (by rfl) (by rfl) (by decide+kernel) (by rfl) ?_ (fun _ _ _ _ _ _=>zP (show List.Nodup (["_law_one","_law_thing"]:List Str) by decide+kernel) (by rfl) (.inl (by rfl)) (.inr (by rfl))) (Z0 0) (Z1 0) (fun Y' hy' _ _ _ _ _ _=> ?_) (fun Y' hy' _ _ _ _ _ _=> ?_))
 exact JO (zb 2 (pv 2))
 refine uq ?_
 refine jZ ?_
 exact Snd.b (cZ (hy'.trans hy) O__law_same hr tx.C__law_same (za (zb 0 (pv 0)) (za (zb 1 (pv 1)) zk)))
 exact zb 0 (pv 0)
 exact Snd.b (wm zk)
 refine zj ?_ ?_
 exact ZJ (i:=7) Wu.nd (by rfl) (.inl (by rfl)) (cZ hy O__law_tried hr tx.C__law_tried (za (zb 1 (pv 1)) (za (zb 5 (pv 5)) zk)))
 refine zu ?_
 refine Zi ?_ ?_ ?_
 refine ua.t ?_
 refine yB ?_ ?_
 exact Za UH (Wf hr.units) (zm 7 (pv 7)) (zm 6 (pv 6)) (zq _)
 exact U6 (wj (jZ (Snd.b (Jy (n:="bool") (Wh _) (by rfl) tx.z_isinstance (by rfl) tx.z_bool PyProof.Rows.Boot.«bool» (zm 7 (pv 7))))))
 exact zu (zz qq)
 exact Zh
 refine zj ?_ ?_
 refine ZJ (i:=5) Wu.nd (by rfl) (.inr (by rfl)) ?_
 refine cZ hy O__law_spoilt_thing hr tx.C__law_spoilt_thing ?_
 exact za (zb 0 (pv 0)) (za zc (za (zb 1 (pv 1)) zk))
 refine zu ?_
 refine zz ?_
 refine s_or ?_ ?_
 exact cZ hy O__law_is_kind hr tx.C__law_is_kind (za (zb 5 (pv 5)) (za zc zk))
 refine JN ?_
 refine jG ?_ ?_
 refine JY Zr (zK hr.units) ?_ ?_ (zq _)
 refine Snd.b ?_
 refine cZ hy O__law_tried hr tx.C__law_tried ?_
 exact za (zb 5 (pv 5)) (za (Zk (zb 2 (pv 2)) zc) zk)
 exact Snd.b zU
 refine JN ?_
 refine JY Zr (zK hr.units) ?_ ?_ (zq _)
 exact Snd.b (cZ hy O__law_tried hr tx.C__law_tried (za (zb 5 (pv 5)) (za VD zk)))
 exact Snd.b zU
end
end G
namespace G
open PySem PySem.Spec PyProof.Rows L2 PV
theorem wD {P:Program} {w:World} {K:PySem.W.Frag} {mg:Str->Option Value} {base:Heap} {CX:CXT} {cl:Nat->Value} {k n:Nat} {f:Addr} {fd:FuncData} {ps:List Str} (hn:n=ps.length):jF P w K mg base CX k f fd ps (spP cl n (fun _=> .bad)):=
 ⟨fun vs H Q E h=>by rw [← hn]; exact spP.len vs H Q E h,fun A outer s H args us vs Q E _ _ _ _ ⟨B,ts,_,_,_,q⟩=>q.elim⟩
section
variable {P:Program} {w:World} {K:PySem.W.Frag} {mg:Str->Option Value} {base:Heap} {cl:Nat->Value} {tx:Tx K mg}
theorem gT (xq:Tq K mg base cl):kX P w base cl tx 42 U9:=by
 have O__law_cell:W5 P w base cl tx 1 J6:=Yg
 have O__law_pick:jc P w base cl tx 2 zl:=Yh O__law_cell
 have O__law_word_of:JH P w base cl tx 3 Zz:=uY O__law_pick
 have O__law_leaf_kind:jO P w base cl tx 4 Zx:=WL O__law_pick O__law_word_of
 have R__law_kind:∀ n:Nat,Je P w base cl tx (4+n) (Zs n 0):=by
  intro n
  induction n with
  | zero=>exact wD rfl
  | succ n ih=>
   exact Yi (j:=4+n) (by omega) O__law_pick O__law_leaf_kind ih
 have O__law_kind:Je P w base cl tx 12 (Zt 8):=(R__law_kind 8)
 have O__law_rows_of:JI P w base cl tx 1 zg:=uZ
 have R__law_all:∀ n:Nat,jY P w base cl tx (1+n) (jV n 0):=by
  intro n
  induction n with
  | zero=>exact wD rfl
  | succ n ih=>
   exact qe (j:=1+n) (by omega) ih O__law_rows_of
 have O__law_all:jY P w base cl tx 9 (zE 8):=(R__law_all 8)
 have R__law_size:∀ n:Nat,Jf P w base cl tx (9+n) (j9 n 0):=by
  intro n
  induction n with
  | zero=>exact wD rfl
  | succ n ih=>
   exact Yj (j:=9+n) (by omega) O__law_all ih
 have O__law_size:Jf P w base cl tx 17 (ja 8):=(R__law_size 8)
 have O__law_small:wA P w base cl tx 18 ZN:=yd O__law_kind O__law_size
 have R__law_places:∀ n:Nat,ju P w base cl tx (0+n) (jQ n 0):=by
  intro n
  induction n with
  | zero=>exact wD rfl
  | succ n ih=>
   exact Uf (j:=0+n) (by omega) ih
 have O__law_places:ju P w base cl tx 40 (jl 40):=(R__law_places 40)
 have O__law_at:uU P w base cl tx 1 JP:=Qo
 have R__law_put:∀ n:Nat,JV P w base cl tx (0+n) (JQ n 0):=by
  intro n
  induction n with
  | zero=>exact wD rfl
  | succ n ih=>
   exact qf (j:=0+n) (by omega) ih
 have O__law_put:JV P w base cl tx 40 (zw 40):=(R__law_put 40)
 have O__law_spoilt_thing:jd P w base cl tx 41 zy:=wO O__law_pick O__law_places O__law_at O__law_put
 have O__law_word:W6 P w base cl tx 1 jz:=Yk xq
 have O_is_whole:JW P w base cl tx 1 Z7:=qg
 have O_is_span:uV P w base cl tx 2 Wn:=Qp O_is_whole
 have O_is_tuple_of:ZT P w base cl tx 1 zr:=Ug
 have O_is_word:uW P w base cl tx 1 JR:=Qq
 have O_is_choice:W7 P w base cl tx 2 jb:=Yl O_is_whole O_is_tuple_of O_is_word
 have O_are_choices:wb P w base cl tx 3 jm:=Uh O_is_tuple_of O_is_choice
 have R_is_kind_within:∀ n:Nat,Z9 P w base cl tx (3+n) (zi n 0)/\ZH P w base cl tx (3+n) (zi n 1):=by
  intro n
  induction n with
  | zero=>exact ⟨wD rfl,wD rfl⟩
  | succ n ih=>
   exact ⟨WM (j:=3+n) (by omega) O_is_span ih.1 O_are_choices ih.2,W9 (j:=3+n) (by omega) O_is_tuple_of ih.1⟩
 have O_is_kind_within:Z9 P w base cl tx 23 (jM 20):=(R_is_kind_within 20).1
 have O_are_kinds_within:ZH P w base cl tx 23 (Wp 20):=(R_is_kind_within 20).2
 have O_is_kind:uX P w base cl tx 24 JS:=Qr O_is_kind_within
 have O_need_kind:W8 P w base cl tx 25 ZO:=Ym xq O_is_kind
 have O_words_of_pick:Jg P w base cl tx 1 zL:=u8
 have R_has_worth:∀ n:Nat,Jh P w base cl tx (1+n) (zQ n 0)/\Ju P w base cl tx (1+n) (zQ n 1):=by
  intro n
  induction n with
  | zero=>exact ⟨wD rfl,wD rfl⟩
  | succ n ih=>
   exact ⟨Yn (j:=1+n) (by omega) O_is_whole O_is_tuple_of O_words_of_pick ih.2,ye (j:=1+n) (by omega) ih.1⟩
 have O_has_worth:Jh P w base cl tx 21 (J7 20):=(R_has_worth 20).1
 have O_have_parts:Ju P w base cl tx 21 (yM 20):=(R_has_worth 20).2
 have O_is_worth:WK P w base cl tx 26 Z8:=qh O_need_kind O_has_worth
 have O__law_tried:wB P w base cl tx 27 zC:=yf xq O_is_worth O__law_word
 have O__law_whole:wC P w base cl tx 1 zW:=yg
 have O__law_is_word:JJ P w base cl tx 1 zJ:=U0
 have R__law_is_kind:∀ n:Nat,j3 P w base cl tx (1+n) (zt n 0):=by
  intro n
  induction n with
  | zero=>exact wD rfl
  | succ n ih=>
   exact U1 (j:=1+n) (by omega) O__law_whole O__law_is_word ih
 have O__law_is_kind:j3 P w base cl tx 13 (j1 12):=(R__law_is_kind 12)
 have R__law_same:∀ n:Nat,Ji P w base cl tx (0+n) (ZQ n 0):=by
  intro n
  induction n with
  | zero=>exact wD rfl
  | succ n ih=>
   exact Yo (j:=0+n) (by omega) ih
 have O__law_same:Ji P w base cl tx 40 (zM 40):=(R__law_same 40)
 have O_law:kX P w base cl tx 42 U9:=gS O__law_pick O__law_all O__law_small O__law_is_kind O__law_spoilt_thing O__law_tried O__law_same
 exact O_law
end
noncomputable def Xd:List Str:=["NoKind","NoWorth","NoRule","TooMany","Ended","NoText","NoBack"]
noncomputable def clK (K:PySem.W.Frag) (c:Nat):Value:=match PySem.W.nsIn K mainGlobals (Xd.getD c "") with
 | some (some v)=>v
 | _=> .none
theorem gU {K:PySem.W.Frag} {c:Nat} {x:Str} {q:Addr} (hx:Xd.getD c ""=x) (h:PySem.W.nsIn K mainGlobals x=some (some (.ref q))):clK K c= .ref q:=by unfold clK; rw [hx,h]
noncomputable def z06:List Nat:=[0,1,2,3,4,5]
noncomputable def Vp (p:Nat->Bool):Bool:=z06.all p
theorem gW {c:Nat} (h:okX c=true):c∈z06:=by
 have h:c < 6:=of_decide_eq_true h
 unfold z06; simp; omega
theorem wc {p:Nat->Bool} (h:Vp p=true) {c:Nat} (hc:okX c=true):p c=true:=List.all_eq_true.mp h c (gW hc)
noncomputable def kY (K:PySem.W.Frag) (v:Value):Bool:=match v with
 | .ref C=>PySem.W.findIn K (.ref C) "__getattribute__" == some (some (.builtin "BaseException.__getattribute__")) && (PySem.W.findIn K (.ref C) "__getattr__" == some none && (PySem.W.findIn K (.ref C) "__class__" == some (some (.builtin "object.__class__")) && (PySem.W.specialIn K (.builtin "object.__class__") "__get__" == some (some (.builtin "getset_descriptor.__get__")) && (PySem.W.takesIn K (.builtin "object.__class__") == some true && (PySem.W.mroIn K C (.type "object") == some true && (PySem.W.mroIn K C (.type "BaseException") == some true && (PySem.W.clsIn K C).isSome))))))
 | _=>false
theorem xF {K:PySem.W.Frag} {v:Value} (h:kY K v=true):∃ C,v= .ref C/\PySem.W.XCls K C:=by
 unfold kY at h
 split at h
 ·rename_i C
  simp only [Bool.and_eq_true,beq_iff_eq] at h
  obtain ⟨h1,h2,h3,h4,h5,h6,h7,h8⟩:=h
  exact ⟨C,rfl,h1,h2,h3,h4,h5,h6,h7,h8⟩
 ·cases h
theorem gX {K:PySem.W.Frag} {base:Heap} {mg:Str->Option Value} {x:Str} {C:Addr} {bmB:List Value} {newId:String} (KB:K.In base) (hb:mg x=some (.ref C)) (h:PySem.W.excIn K C bmB newId=true):OwnCls x C bmB newId mg base:=by
 unfold PySem.W.excIn at h
 split at h
 ·rename_i dd cd sl hC
  split at h
  ·rename_i C1 bm a0 a1 a2 a3 m a5 hm hs
   simp only [Bool.and_eq_true,beq_iff_eq,Bool.not_eq_true'] at h
   obtain ⟨⟨⟨⟨⟨h1,h2⟩,h3⟩,h4⟩,h5⟩,h6⟩:=h
   subst h1 h2
   cases cd with
   | mk nm bs mro ns qn hd sn sub ab col del=>
    dsimp only at hm h3 h5 h6
    subst hm h3
    obtain rfl:sl= #[a0,a1,a2,a3,some (.builtin m),a5]:=by
     cases sl; simp only at hs; rw [hs]
    exact ⟨hb,bm,ns,nm,qn,bs,hd,sn,sub,ab,col,dd,a0,a1,a2,a3,a5,_,KB _ _ hC, .of_isNs (PySem.W.isNs_of_in KB h5),PySem.W.nsMap_none_of_in KB h5 h6,PySem.W.tail_of_in KB h4⟩
  ·cases h
 ·cases h
theorem fn1 {K:PySem.W.Frag} {h:Heap} {mg:Str->Option Value} {f:Addr} {od an:Option Addr} {sl:Array (Option Value)} {oc kV dc pm cd ct:Value} {x:Str} {st:Stmt} {ps:List Str} (X:K.In h) (G:h.Ns mainGlobals mg) (e:PySem.W.nsIn K mainGlobals x=some (some (.ref f))) (l:K.lookup f=some ⟨oc,od, .func (PySem.W.fnOf x x (wl st) (jy st) (ze st) .none kV dc pm an cd ct),sl⟩) (g:PySem.W.codeIn K cd x=true) (k:PySem.W.keepIn K (.ref f)=true)
  (hb:∀ F:Fun K x x st f (PySem.W.fnOf x x (wl st) (jy st) (ze st) .none kV dc pm an cd ct),L2.Binds K (PySem.W.fnOf x x (wl st) (jy st) (ze st) .none kV dc pm an cd ct) ps []):Fn K mg x st ps f (PySem.W.fnOf x x (wl st) (jy st) (ze st) .none kV dc pm an cd ct):=
 have F:=KD (st:=st) l g k
 ⟨F,hb F,PySem.W.mg_of X G e⟩
theorem fin_ {l:PySem.W.OpenLaw} {w:World} {K:PySem.W.Frag} {h:Heap} {mg:Str->Option Value} {fa:Addr} (X:K.In h) (G:h.Ns mainGlobals mg) (hfa:mg "law"=some (.ref fa)) (tx:Tx K mg) (hB:∀ (s:Shared) (v:Value),BindsTo s tx.d_law ⟨[v],[]⟩ [("_law_script",v)]) {q_Ended q_NoKind q_NoRule q_NoText q_NoWorth q_TooMany q_WorthError:Addr} (n_Ended:PySem.W.nsIn K mainGlobals "Ended"=some (some (.ref q_Ended))) (n_NoKind:PySem.W.nsIn K mainGlobals "NoKind"=some (some (.ref q_NoKind))) (n_NoRule:PySem.W.nsIn K mainGlobals "NoRule"=some (some (.ref q_NoRule))) (n_NoText:PySem.W.nsIn K mainGlobals "NoText"=some (some (.ref q_NoText))) (n_NoWorth:PySem.W.nsIn K mainGlobals "NoWorth"=some (some (.ref q_NoWorth))) (n_TooMany:PySem.W.nsIn K mainGlobals "TooMany"=some (some (.ref q_TooMany))) (n_WorthError:PySem.W.nsIn K mainGlobals "WorthError"=some (some (.ref q_WorthError))) (b_K:Vp (fun c=>kY K (clK K c))=true) (b_e_WorthError:Vp (fun c=>PySem.W.exmOne K (clK K c) (.ref q_WorthError) == some true)=true) (b_o_NoKind:PySem.W.excIn K q_NoKind bmVE "ValueError.__new__"=true) (b_t_Ended:Vp (fun c=>PySem.W.kitOne K (clK K c) (.ref q_Ended) == some (uu c))=true) (b_t_NoKind:Vp (fun c=>PySem.W.kitOne K (clK K c) (.ref q_NoKind) == some (WB c))=true) (b_t_NoRule:Vp (fun c=>PySem.W.kitOne K (clK K c) (.ref q_NoRule) == some (WC c))=true) (b_t_NoText:Vp (fun c=>PySem.W.kitOne K (clK K c) (.ref q_NoText) == some (WD c))=true) (b_t_NoWorth:Vp (fun c=>PySem.W.kitOne K (clK K c) (.ref q_NoWorth) == some (wV c))=true) (b_t_TooMany:Vp (fun c=>PySem.W.kitOne K (clK K c) (.ref q_TooMany) == some (wW c))=true) (b_t_ValueError:Vp (fun c=>PySem.W.kitOne K (clK K c) (.type "ValueError") == some (JA c))=true):∃ fd:FuncData,(∀ (s:Shared) (v:Value),BindsTo s fd ⟨[v],[]⟩ [("_law_script",v)])/\∀ base:Heap,K.In base->base.Ns mainGlobals mg->jF l.prog w K mg base CX0 42 fa fd ["_law_script"] (spP (clK K) 1 U9):=by
 have e:=hfa.symm.trans tx.C_law.m
 cases e
 exact ⟨tx.d_law,hB,fun base KB _=>gT ⟨q_Ended,q_NoKind,q_NoRule,q_NoText,q_NoWorth,q_TooMany,q_WorthError,⟨fun c hc=>xF (wc b_K hc)⟩,(fun c hc=>beq_iff_eq.mp (wc b_e_WorthError hc)),(gU (x:="NoKind") rfl n_NoKind),(PySem.W.mg_of X G n_Ended),(PySem.W.mg_of X G n_NoKind),(PySem.W.mg_of X G n_NoRule),(PySem.W.mg_of X G n_NoText),(PySem.W.mg_of X G n_NoWorth),(PySem.W.mg_of X G n_TooMany),(PySem.W.mg_of X G n_WorthError),(gX KB (PySem.W.mg_of X G n_NoKind) b_o_NoKind),(fun c hc=>beq_iff_eq.mp (wc b_t_Ended hc)),(fun c hc=>beq_iff_eq.mp (wc b_t_NoKind hc)),(fun c hc=>beq_iff_eq.mp (wc b_t_NoRule hc)),(fun c hc=>beq_iff_eq.mp (wc b_t_NoText hc)),(fun c hc=>beq_iff_eq.mp (wc b_t_NoWorth hc)),(fun c hc=>beq_iff_eq.mp (wc b_t_TooMany hc)),(fun c hc=>beq_iff_eq.mp (wc b_t_ValueError hc))⟩⟩
noncomputable def qi (K:PySem.W.Frag):Bool:=K.all fun p=> !(p.2.cls == Value.type "list")
theorem kZ {K:PySem.W.Frag} (h:qi K=true) {a:Addr} {o:Obj} (e:K.lookup a=some o) (c:o.cls=Value.type "list"):False:=by
 have hm:(a,o)∈K:=by
  clear h
  induction K with
  | nil=>cases e
  | cons p r ih=>
   obtain ⟨b,u⟩:=p
   by_cases hb:a=b
   ·subst hb
    have e' :some u=some o:=by simpa [List.lookup_cons] using e
    cases e'; exact List.mem_cons_self
   ·have e' :r.lookup a=some o:=by rw [List.lookup_cons,(beq_eq_false_iff_ne.mpr hb)] at e; exact e
    exact List.mem_cons_of_mem _ (ih e')
 have:=List.all_eq_true.mp h _ hm
 rw [c] at this
 simp at this
theorem gY {cl:Nat->Value} {K:PySem.W.Frag} {H:Hp} {a:Addr} {ns:List Int} (hL:U9 [.fz (ns.map T.int)]= .ok (.bl true)) (hK:qi K=true) (hO:G1 H) (hS:SqL K H a (ns.map V.int)):spP cl 1 U9 [.ref a] H (fun v _=>v= .bl true) fun _ _ _=>False:=by
 have scrR:∀ ns:List Int,Z2 H (ns.map V.int) (ns.map T.int):=fun ns=>by
  induction ns with
  | nil=>exact .nil
  | cons n r ih=>exact .cons (.int n) ih
 rcases hS with (h | ⟨o,h⟩) | ⟨o,its,n,e,c,_⟩
 ·rcases hO a with z | ⟨ob,xs,z⟩ <;> (rw [h] at z; cases z)
 ·refine ⟨H,[.fz (ns.map T.int)],rfl,zN.refl H, .cons (.fz h (scrR ns)) .nil, ?_⟩
  rw [hL]
  intro v H' _ r
  cases r; rfl
 ·exact (kZ hK e c).elim
theorem walk {l:PySem.W.OpenLaw} {q:Program} {loose:List Str} {XP:(Str->Option Value)->Heap->Prop} {YP:World->Heap->Prop} {d:DefRec} {K:Params->PySem.W.Frag} (hn:l.most=some 63) (hdf:d.params.defaults=[])
  (hL:∀ ns:List Int,ns.length<=63->U9 [.fz (ns.map T.int)]= .ok (.bl true)) (hK:∀ p,qi (K p)=true)
  (hY:∀ (w:World) (h:Heap),YP w h->(K w.params).In h)
  (F:∀ (w:World) (mg:Str->Option Value) (fa:Addr) (h:Heap),(K w.params).In h->h.Ns mainGlobals mg->mg d.name=some (.ref fa)->
   ∃ fd:FuncData,(∀ (s:Shared) (u:Value),BindsTo s fd ⟨[u],[]⟩ [("_law_script",u)])/\∀ base:Heap,(K w.params).In base->base.Ns mainGlobals mg->jF l.prog w (K w.params) mg base CX0 42 fa fd ["_law_script"] (spP (clK (K w.params)) 1 U9)):
  PySem.W.WalkO q loose XP YP l.row.toRowW d [] (fun f vs=>PySem.call f vs):=
 L2.walk_of (n:=63) (k:=42) (x:="_law_script") (CX:=fun w=>CX0) (sp:=fun w=>spP (clK (K w.params)) 1 U9) hn (by decide) hdf ⟨rfl,by decide,by decide⟩ hY F (fun w H a ns hl hO hS=>gY (hL ns hl) (hK w.params) hO hS) fun _ _ _ _ _ z=>z
end G
noncomputable def PySem.W.Fast.tw17249084580537818195 : Nat := 0
noncomputable def PySem.W.Fast.tw2838612536286325665 : Nat := 0
noncomputable def PySem.W.Fast.tw8405612941847735694 : Nat := 0
noncomputable def PySem.W.Fast.tw10133390225026945948 : Nat := 0
noncomputable def PySem.W.Fast.tw10517755827310482012 : Nat := 0
noncomputable def PySem.W.Fast.tw14041000606076536925 : Nat := 0
noncomputable def PySem.W.Fast.tw10716362528642031013 : Nat := 0
noncomputable def PySem.W.Fast.tw7626404714805591126 : Nat := 0
noncomputable def PySem.W.Fast.tw5560716989137342117 : Nat := 0
noncomputable def PySem.W.Fast.tw8958252033687608955 : Nat := 0
noncomputable def PySem.W.Fast.tw1330931756344353671 : Nat := 0
noncomputable def PySem.W.Fast.tw605148864551008885 : Nat := 0
noncomputable def PySem.W.Fast.tw56929567787454500 : Nat := 0
noncomputable def PySem.W.Fast.tw16778919464629199145 : Nat := 0
noncomputable def PySem.W.Fast.tw2477837754470828530 : Nat := 0
noncomputable def PySem.W.Fast.tw17543068784772194738 : Nat := 0
noncomputable def PySem.W.Fast.tw2006134509516628088 : Nat := 0
open PySem PySem.W PyProof.Rows
set_option maxRecDepth 100000 in
set_option maxHeartbeats 0 in
theorem PySem.Challenge.cw_worthkinds_k02_whole_worths_holds : PySem.Challenge.rw_worthkinds_k02_whole_worths.Holds := by
 w_on; o_law; k_head; (case hw=>w_witness2)
 k_fill
 refine G.walk (l:=PySem.Challenge.rw_worthkinds_k02_whole_worths) rfl rfl G.law_ok ?nl (fun w h Y=>PySem.W.kIn_of Y) ?F
 case nl=>intro p; kernel_rfl
 case F=>
  intro w mg fa h KX G0 hmg
  obtain ⟨a0,d0,C0⟩:∃ a d,G.Fn _ mg "_law_cell" G.uI ["_law_script","_law_k"] a d:=by
   refine' ⟨_,_,G.fn1 KX G0 ?e ?l ?g ?k (fun F=>F.binds (ps:=["_law_script","_law_k"]) fun _ _ _ _ _ _ us hl=>match us,hl with | [_,_],_=>rfl)⟩
   (case e=>k_is)
   (case l=>k_is)
   (case g=>k_is)
   (case k=>k_is)
  obtain ⟨a1,d1,C1⟩:∃ a d,G.Fn _ mg "_law_pick" G.uJ ["_law_script","_law_k","_law_many"] a d:=by
   refine' ⟨_,_,G.fn1 KX G0 ?e ?l ?g ?k (fun F=>F.binds (ps:=["_law_script","_law_k","_law_many"]) fun _ _ _ _ _ _ us hl=>match us,hl with | [_,_,_],_=>rfl)⟩
   (case e=>k_is)
   (case l=>k_is)
   (case g=>k_is)
   (case k=>k_is)
  obtain ⟨a2,d2,C2⟩:∃ a d,G.Fn _ mg "_law_word_of" G.JD ["_law_script","_law_at_here"] a d:=by
   refine' ⟨_,_,G.fn1 KX G0 ?e ?l ?g ?k (fun F=>F.binds (ps:=["_law_script","_law_at_here"]) fun _ _ _ _ _ _ us hl=>match us,hl with | [_,_],_=>rfl)⟩
   (case e=>k_is)
   (case l=>k_is)
   (case g=>k_is)
   (case k=>k_is)
  obtain ⟨a3,d3,C3⟩:∃ a d,G.Fn _ mg "_law_leaf_kind" G.jN ["_law_script","_law_at_here"] a d:=by
   refine' ⟨_,_,G.fn1 KX G0 ?e ?l ?g ?k (fun F=>F.binds (ps:=["_law_script","_law_at_here"]) fun _ _ _ _ _ _ us hl=>match us,hl with | [_,_],_=>rfl)⟩
   (case e=>k_is)
   (case l=>k_is)
   (case g=>k_is)
   (case k=>k_is)
  obtain ⟨a4,d4,C4⟩:∃ a d,G.Fn _ mg "_law_kind" G.wZ ["_law_script","_law_at_here","_law_deep"] a d:=by
   refine' ⟨_,_,G.fn1 KX G0 ?e ?l ?g ?k (fun F=>F.binds (ps:=["_law_script","_law_at_here","_law_deep"]) fun _ _ _ _ _ _ us hl=>match us,hl with | [_,_,_],_=>rfl)⟩
   (case e=>k_is)
   (case l=>k_is)
   (case g=>k_is)
   (case k=>k_is)
  obtain ⟨a5,d5,C5⟩:∃ a d,G.Fn _ mg "_law_rows_of" G.JE ["_law_lists"] a d:=by
   refine' ⟨_,_,G.fn1 KX G0 ?e ?l ?g ?k (fun F=>F.binds (ps:=["_law_lists"]) fun _ _ _ _ _ _ us hl=>match us,hl with | [_],_=>rfl)⟩
   (case e=>k_is)
   (case l=>k_is)
   (case g=>k_is)
   (case k=>k_is)
  obtain ⟨a6,d6,C6⟩:∃ a d,G.Fn _ mg "_law_all" G.wM ["_law_kind_here"] a d:=by
   refine' ⟨_,_,G.fn1 KX G0 ?e ?l ?g ?k (fun F=>F.binds (ps:=["_law_kind_here"]) fun _ _ _ _ _ _ us hl=>match us,hl with | [_],_=>rfl)⟩
   (case e=>k_is)
   (case l=>k_is)
   (case g=>k_is)
   (case k=>k_is)
  obtain ⟨a7,d7,C7⟩:∃ a d,G.Fn _ mg "_law_size" G.W1 ["_law_kind_here"] a d:=by
   refine' ⟨_,_,G.fn1 KX G0 ?e ?l ?g ?k (fun F=>F.binds (ps:=["_law_kind_here"]) fun _ _ _ _ _ _ us hl=>match us,hl with | [_],_=>rfl)⟩
   (case e=>k_is)
   (case l=>k_is)
   (case g=>k_is)
   (case k=>k_is)
  obtain ⟨a8,d8,C8⟩:∃ a d,G.Fn _ mg "_law_small" G.WY ["_law_script","_law_at_here","_law_most"] a d:=by
   refine' ⟨_,_,G.fn1 KX G0 ?e ?l ?g ?k (fun F=>F.binds (ps:=["_law_script","_law_at_here","_law_most"]) fun _ _ _ _ _ _ us hl=>match us,hl with | [_,_,_],_=>rfl)⟩
   (case e=>k_is)
   (case l=>k_is)
   (case g=>k_is)
   (case k=>k_is)
  obtain ⟨a9,d9,C9⟩:∃ a d,G.Fn _ mg "_law_places" G.w9 ["_law_thing"] a d:=by
   refine' ⟨_,_,G.fn1 KX G0 ?e ?l ?g ?k (fun F=>F.binds (ps:=["_law_thing"]) fun _ _ _ _ _ _ us hl=>match us,hl with | [_],_=>rfl)⟩
   (case e=>k_is)
   (case l=>k_is)
   (case g=>k_is)
   (case k=>k_is)
  obtain ⟨a10,d10,C10⟩:∃ a d,G.Fn _ mg "_law_at" G.Y6 ["_law_thing","_law_place"] a d:=by
   refine' ⟨_,_,G.fn1 KX G0 ?e ?l ?g ?k (fun F=>F.binds (ps:=["_law_thing","_law_place"]) fun _ _ _ _ _ _ us hl=>match us,hl with | [_,_],_=>rfl)⟩
   (case e=>k_is)
   (case l=>k_is)
   (case g=>k_is)
   (case k=>k_is)
  obtain ⟨a11,d11,C11⟩:∃ a d,G.Fn _ mg "_law_put" G.Uy ["_law_thing","_law_place","_law_new"] a d:=by
   refine' ⟨_,_,G.fn1 KX G0 ?e ?l ?g ?k (fun F=>F.binds (ps:=["_law_thing","_law_place","_law_new"]) fun _ _ _ _ _ _ us hl=>match us,hl with | [_,_,_],_=>rfl)⟩
   (case e=>k_is)
   (case l=>k_is)
   (case g=>k_is)
   (case k=>k_is)
  obtain ⟨a12,d12,C12⟩:∃ a d,G.Fn _ mg "_law_spoilt_thing" G.Jc ["_law_script","_law_at_here","_law_thing"] a d:=by
   refine' ⟨_,_,G.fn1 KX G0 ?e ?l ?g ?k (fun F=>F.binds (ps:=["_law_script","_law_at_here","_law_thing"]) fun _ _ _ _ _ _ us hl=>match us,hl with | [_,_,_],_=>rfl)⟩
   (case e=>k_is)
   (case l=>k_is)
   (case g=>k_is)
   (case k=>k_is)
  obtain ⟨a13,d13,C13⟩:∃ a d,G.Fn _ mg "_law_word" G.uN ["_law_kept"] a d:=by
   refine' ⟨_,_,G.fn1 KX G0 ?e ?l ?g ?k (fun F=>F.binds (ps:=["_law_kept"]) fun _ _ _ _ _ _ us hl=>match us,hl with | [_],_=>rfl)⟩
   (case e=>k_is)
   (case l=>k_is)
   (case g=>k_is)
   (case k=>k_is)
  obtain ⟨a14,d14,C14⟩:∃ a d,G.Fn _ mg "is_whole" G.Uz ["thing"] a d:=by
   refine' ⟨_,_,G.fn1 KX G0 ?e ?l ?g ?k (fun F=>F.binds (ps:=["thing"]) fun _ _ _ _ _ _ us hl=>match us,hl with | [_],_=>rfl)⟩
   (case e=>k_is)
   (case l=>k_is)
   (case g=>k_is)
   (case k=>k_is)
  obtain ⟨a15,d15,C15⟩:∃ a d,G.Fn _ mg "is_span" G.Y7 ["low","high","least","most"] a d:=by
   refine' ⟨_,_,G.fn1 KX G0 ?e ?l ?g ?k (fun F=>F.binds (ps:=["low","high","least","most"]) fun _ _ _ _ _ _ us hl=>match us,hl with | [_,_,_,_],_=>rfl)⟩
   (case e=>k_is)
   (case l=>k_is)
   (case g=>k_is)
   (case k=>k_is)
  obtain ⟨a16,d16,C16⟩:∃ a d,G.Fn _ mg "is_tuple_of" G.Wt ["thing","least","most"] a d:=by
   refine' ⟨_,_,G.fn1 KX G0 ?e ?l ?g ?k (fun F=>F.binds (ps:=["thing","least","most"]) fun _ _ _ _ _ _ us hl=>match us,hl with | [_,_,_],_=>rfl)⟩
   (case e=>k_is)
   (case l=>k_is)
   (case g=>k_is)
   (case k=>k_is)
  obtain ⟨a17,d17,C17⟩:∃ a d,G.Fn _ mg "is_word" G.uO ["thing"] a d:=by
   refine' ⟨_,_,G.fn1 KX G0 ?e ?l ?g ?k (fun F=>F.binds (ps:=["thing"]) fun _ _ _ _ _ _ us hl=>match us,hl with | [_],_=>rfl)⟩
   (case e=>k_is)
   (case l=>k_is)
   (case g=>k_is)
   (case k=>k_is)
  obtain ⟨a18,d18,C18⟩:∃ a d,G.Fn _ mg "is_choice" G.uP ["thing"] a d:=by
   refine' ⟨_,_,G.fn1 KX G0 ?e ?l ?g ?k (fun F=>F.binds (ps:=["thing"]) fun _ _ _ _ _ _ us hl=>match us,hl with | [_],_=>rfl)⟩
   (case e=>k_is)
   (case l=>k_is)
   (case g=>k_is)
   (case k=>k_is)
  obtain ⟨a19,d19,C19⟩:∃ a d,G.Fn _ mg "are_choices" G.jU ["thing"] a d:=by
   refine' ⟨_,_,G.fn1 KX G0 ?e ?l ?g ?k (fun F=>F.binds (ps:=["thing"]) fun _ _ _ _ _ _ us hl=>match us,hl with | [_],_=>rfl)⟩
   (case e=>k_is)
   (case l=>k_is)
   (case g=>k_is)
   (case k=>k_is)
  obtain ⟨a20,d20,C20⟩:∃ a d,G.Fn _ mg "is_kind_within" G.wf ["thing","levels"] a d:=by
   refine' ⟨_,_,G.fn1 KX G0 ?e ?l ?g ?k (fun F=>F.binds (ps:=["thing","levels"]) fun _ _ _ _ _ _ us hl=>match us,hl with | [_,_],_=>rfl)⟩
   (case e=>k_is)
   (case l=>k_is)
   (case g=>k_is)
   (case k=>k_is)
  obtain ⟨a21,d21,C21⟩:∃ a d,G.Fn _ mg "are_kinds_within" G.jq ["thing","levels"] a d:=by
   refine' ⟨_,_,G.fn1 KX G0 ?e ?l ?g ?k (fun F=>F.binds (ps:=["thing","levels"]) fun _ _ _ _ _ _ us hl=>match us,hl with | [_,_],_=>rfl)⟩
   (case e=>k_is)
   (case l=>k_is)
   (case g=>k_is)
   (case k=>k_is)
  obtain ⟨a22,d22,C22⟩:∃ a d,G.Fn _ mg "is_kind" G.Ya ["thing"] a d:=by
   refine' ⟨_,_,G.fn1 KX G0 ?e ?l ?g ?k (fun F=>F.binds (ps:=["thing"]) fun _ _ _ _ _ _ us hl=>match us,hl with | [_],_=>rfl)⟩
   (case e=>k_is)
   (case l=>k_is)
   (case g=>k_is)
   (case k=>k_is)
  obtain ⟨a23,d23,C23⟩:∃ a d,G.Fn _ mg "need_kind" G.uQ ["kind"] a d:=by
   refine' ⟨_,_,G.fn1 KX G0 ?e ?l ?g ?k (fun F=>F.binds (ps:=["kind"]) fun _ _ _ _ _ _ us hl=>match us,hl with | [_],_=>rfl)⟩
   (case e=>k_is)
   (case l=>k_is)
   (case g=>k_is)
   (case k=>k_is)
  obtain ⟨a24,d24,C24⟩:∃ a d,G.Fn _ mg "words_of_pick" G.Jd ["kind"] a d:=by
   refine' ⟨_,_,G.fn1 KX G0 ?e ?l ?g ?k (fun F=>F.binds (ps:=["kind"]) fun _ _ _ _ _ _ us hl=>match us,hl with | [_],_=>rfl)⟩
   (case e=>k_is)
   (case l=>k_is)
   (case g=>k_is)
   (case k=>k_is)
  obtain ⟨a25,d25,C25⟩:∃ a d,G.Fn _ mg "has_worth" G.uR ["kind","thing"] a d:=by
   refine' ⟨_,_,G.fn1 KX G0 ?e ?l ?g ?k (fun F=>F.binds (ps:=["kind","thing"]) fun _ _ _ _ _ _ us hl=>match us,hl with | [_,_],_=>rfl)⟩
   (case e=>k_is)
   (case l=>k_is)
   (case g=>k_is)
   (case k=>k_is)
  obtain ⟨a26,d26,C26⟩:∃ a d,G.Fn _ mg "have_parts" G.wz ["kinds","parts"] a d:=by
   refine' ⟨_,_,G.fn1 KX G0 ?e ?l ?g ?k (fun F=>F.binds (ps:=["kinds","parts"]) fun _ _ _ _ _ _ us hl=>match us,hl with | [_,_],_=>rfl)⟩
   (case e=>k_is)
   (case l=>k_is)
   (case g=>k_is)
   (case k=>k_is)
  obtain ⟨a27,d27,C27⟩:∃ a d,G.Fn _ mg "is_worth" G.UA ["kind","thing"] a d:=by
   refine' ⟨_,_,G.fn1 KX G0 ?e ?l ?g ?k (fun F=>F.binds (ps:=["kind","thing"]) fun _ _ _ _ _ _ us hl=>match us,hl with | [_,_],_=>rfl)⟩
   (case e=>k_is)
   (case l=>k_is)
   (case g=>k_is)
   (case k=>k_is)
  obtain ⟨a28,d28,C28⟩:∃ a d,G.Fn _ mg "_law_tried" G.u3 ["_law_kind_here","_law_thing"] a d:=by
   refine' ⟨_,_,G.fn1 KX G0 ?e ?l ?g ?k (fun F=>F.binds (ps:=["_law_kind_here","_law_thing"]) fun _ _ _ _ _ _ us hl=>match us,hl with | [_,_],_=>rfl)⟩
   (case e=>k_is)
   (case l=>k_is)
   (case g=>k_is)
   (case k=>k_is)
  obtain ⟨a29,d29,C29⟩:∃ a d,G.Fn _ mg "_law_whole" G.u4 ["_law_thing","_law_low","_law_high"] a d:=by
   refine' ⟨_,_,G.fn1 KX G0 ?e ?l ?g ?k (fun F=>F.binds (ps:=["_law_thing","_law_low","_law_high"]) fun _ _ _ _ _ _ us hl=>match us,hl with | [_,_,_],_=>rfl)⟩
   (case e=>k_is)
   (case l=>k_is)
   (case g=>k_is)
   (case k=>k_is)
  obtain ⟨a30,d30,C30⟩:∃ a d,G.Fn _ mg "_law_is_word" G.JG ["_law_thing"] a d:=by
   refine' ⟨_,_,G.fn1 KX G0 ?e ?l ?g ?k (fun F=>F.binds (ps:=["_law_thing"]) fun _ _ _ _ _ _ us hl=>match us,hl with | [_],_=>rfl)⟩
   (case e=>k_is)
   (case l=>k_is)
   (case g=>k_is)
   (case k=>k_is)
  obtain ⟨a31,d31,C31⟩:∃ a d,G.Fn _ mg "_law_is_kind" G.ZB ["_law_thing","_law_deep"] a d:=by
   refine' ⟨_,_,G.fn1 KX G0 ?e ?l ?g ?k (fun F=>F.binds (ps:=["_law_thing","_law_deep"]) fun _ _ _ _ _ _ us hl=>match us,hl with | [_,_],_=>rfl)⟩
   (case e=>k_is)
   (case l=>k_is)
   (case g=>k_is)
   (case k=>k_is)
  obtain ⟨a32,d32,C32⟩:∃ a d,G.Fn _ mg "_law_same" G.W4 ["_law_one","_law_other"] a d:=by
   refine' ⟨_,_,G.fn1 KX G0 ?e ?l ?g ?k (fun F=>F.binds (ps:=["_law_one","_law_other"]) fun _ _ _ _ _ _ us hl=>match us,hl with | [_,_],_=>rfl)⟩
   (case e=>k_is)
   (case l=>k_is)
   (case g=>k_is)
   (case k=>k_is)
  obtain ⟨a33,d33,C33,hB⟩:∃ a d,G.Fn _ mg "law" G.xE ["_law_script"] a d/\∀ (s:PySem.Shared) (v:PySem.Value),BindsTo s d ⟨[v],[]⟩ [("_law_script",v)]:=by
   refine' ⟨_,_,G.fn1 KX G0 ?e ?l ?g ?k (fun F=>F.binds (ps:=["_law_script"]) fun _ _ _ _ _ _ us hl=>match us,hl with | [_],_=>rfl),fun s v=> .of_eq rfl⟩
   (case e=>k_is)
   (case l=>k_is)
   (case g=>k_is)
   (case k=>k_is)
  refine' G.fin_ KX G0 hmg ⟨a0,d0,C0,a1,d1,C1,a2,d2,C2,a3,d3,C3,a4,d4,C4,a5,d5,C5,a6,d6,C6,a7,d7,C7,a8,d8,C8,a9,d9,C9,a10,d10,C10,a11,d11,C11,a12,d12,C12,a13,d13,C13,a14,d14,C14,a15,d15,C15,a16,d16,C16,a17,d17,C17,a18,d18,C18,a19,d19,C19,a20,d20,C20,a21,d21,C21,a22,d22,C22,a23,d23,C23,a24,d24,C24,a25,d25,C25,a26,d26,C26,a27,d27,C27,a28,d28,C28,a29,d29,C29,a30,d30,C30,a31,d31,C31,a32,d32,C32,a33,d33,C33,PySem.W.mg_none_of KX G0 (by k_is),PySem.W.mg_none_of KX G0 (by k_is),PySem.W.mg_none_of KX G0 (by k_is),PySem.W.mg_none_of KX G0 (by k_is),PySem.W.mg_none_of KX G0 (by k_is),PySem.W.mg_none_of KX G0 (by k_is),PySem.W.mg_none_of KX G0 (by k_is),PySem.W.mg_none_of KX G0 (by k_is),PySem.W.mg_none_of KX G0 (by k_is),PySem.W.mg_none_of KX G0 (by k_is),PySem.W.mg_none_of KX G0 (by k_is),PySem.W.mg_none_of KX G0 (by k_is),PySem.W.mg_none_of KX G0 (by k_is),PySem.W.mg_none_of KX G0 (by k_is),⟨_,PySem.W.mg_of KX G0 (by k_is),_,rfl⟩⟩ hB ?n0 ?n1 ?n2 ?n3 ?n4 ?n5 ?n6 ?b0 ?b1 ?b2 ?b3 ?b4 ?b5 ?b6 ?b7 ?b8 ?b9
  (case n0=>k_is)
  (case n1=>k_is)
  (case n2=>k_is)
  (case n3=>k_is)
  (case n4=>k_is)
  (case n5=>k_is)
  (case n6=>k_is)
  (case b0=>kernel_rfl)
  (case b1=>kernel_rfl)
  (case b2=>kernel_rfl)
  (case b3=>kernel_rfl)
  (case b4=>kernel_rfl)
  (case b5=>kernel_rfl)
  (case b6=>kernel_rfl)
  (case b7=>kernel_rfl)
  (case b8=>kernel_rfl)
  (case b9=>kernel_rfl)
