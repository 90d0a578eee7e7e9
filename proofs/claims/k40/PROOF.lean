import PyProof.Rows.All
import Wide.All
import OpenK.AllK
import Wide.FinOn
import Lean
import PyProof.EqAt
import PyProof.EqKinds
import PyProof.TupleCall
import PyProof.NeKinds
import PyProof.WalksEnum
import PyProof.StrWalks
import PyProof.ExcAttrAll.ValueError
import PyProof.ZipIter
import KE.KRevIter
import PyProof.ListNew
import PyProof.WalksMore
import PyProof.ReprLoop
import PyProof.FactsAll.list
import PyProof.CollectIter
import PyProof.TupleOfGen
import PyProof.Draws
import PyProof.EnumMake
import PySem.Challenge.RW_worthkinds_k40_rules
set_option maxHeartbeats 4000000
set_option Elab.async false
set_option linter.all false
set_option maxRecDepth 100000
namespace L2
open PySem PySem.Spec PyProof.Rows
noncomputable abbrev Key:=Sum Int Str
noncomputable def gp:Key->Value->Bool
 | .inl k,v=>Value.isInt k v
 | .inr x,v=>Value.isStrOf x v
noncomputable def keyH (w:World):Key->Int
 | .inl k=>hashInt k
 | .inr x=>hashStr w x
theorem Zt:∀ {k:Key} {v:Value},gp k v=true->(∃ i t,k=Sum.inl i/\v=Value.int i t)\/(∃ x t,k=Sum.inr x/\v=Value.str x t)
 | .inl i,v,h=>by
  obtain ⟨t,e⟩:=Value.isInt_shape (k:=i) (v:=v) h
  exact .inl ⟨i,t,rfl,e⟩
 | .inr x,v,h=>by
  obtain ⟨t,e⟩:=Value.isStrOf_shape (x:=x) (v:=v) h
  exact .inr ⟨x,t,rfl,e⟩
theorem gq (a b:Int):decide ((Sum.inl a:Key)=Sum.inl b)=(a == b):=by
 by_cases e:a=b
 ·subst e; simp
 ·have h:¬ (Sum.inl a:Key)=Sum.inl b:=fun q=>e (Sum.inl.inj q)
  rw [decide_eq_false h]
  exact (beq_eq_false_iff_ne.mpr e).symm
theorem gr (a b:Str):decide ((Sum.inr a:Key)=Sum.inr b)=decide (a=b):=by
 by_cases e:a=b
 ·subst e; simp
 ·have h:¬ (Sum.inr a:Key)=Sum.inr b:=fun q=>e (Sum.inr.inj q)
  rw [decide_eq_false h,decide_eq_false e]
theorem gs (a:Int) (b:Str):decide ((Sum.inl a:Key)=Sum.inr b)=false:=decide_eq_false (fun q=>nomatch q)
theorem gu (a:Str) (b:Int):decide ((Sum.inr a:Key)=Sum.inl b)=false:=decide_eq_false (fun q=>nomatch q)
noncomputable def YL (prog:Program) (w:World):PySem.KeyKind prog w Key where
 is:=gp
 hash:=keyH w
 inj:=fun v a b ha hb=>by
  rcases Zt ha with ⟨i,t,rfl,rfl⟩ | ⟨x,t,rfl,rfl⟩
  ·rcases Zt hb with ⟨j,u,rfl,e⟩ | ⟨y,u,rfl,e⟩
   ·injection e with e1 _; rw [e1]
   ·exact nomatch e
  ·rcases Zt hb with ⟨j,u,rfl,e⟩ | ⟨y,u,rfl,e⟩
   ·exact nomatch e
   ·injection e with e1 _; rw [e1]
 byValue:=fun k v h=>by
  rcases Zt h with ⟨i,t,rfl,rfl⟩ | ⟨x,t,rfl,rfl⟩ <;> rfl
 pyHash:=fun hv h=>by
  rcases Zt hv with ⟨i,t,rfl,rfl⟩ | ⟨x,t,rfl,rfl⟩
  ·exact wpAny_pyHash_int h
  ·exact wpAny_pyHash_str h
 eqBool:=fun hu hv h=>by
  rcases Zt hu with ⟨i,t,rfl,rfl⟩ | ⟨x,t,rfl,rfl⟩
  ·rcases Zt hv with ⟨j,u,rfl,rfl⟩ | ⟨y,u,rfl,rfl⟩
   ·rw [gq] at h; exact wpAny_eqBool_int h
   ·rw [gs] at h; exact SeqAt.EqAt.int_str i t y u _ _ _ _ h
  ·rcases Zt hv with ⟨j,u,rfl,rfl⟩ | ⟨y,u,rfl,rfl⟩
   ·rw [gu] at h; exact SeqAt.EqAt.str_int x t j u _ _ _ _ h
   ·rw [gr] at h; exact wpAny_eqBool_str h
 «strs»:=fun k x t v h=>by
  rcases Zt h with ⟨i,u,rfl,e⟩ | ⟨y,u,rfl,e⟩
  ·exact nomatch e
  ·injection e with e1 _
   subst e1
   cases v <;> rfl
end L2
namespace L2
open PySem PySem.Spec PyProof.Rows
inductive V where
 | non | bl (b:Bool) | int (i:Int) | str (x:Str) | byt (b:Array UInt8) | flt (b:UInt64) | ref (a:Addr) | ty (n:String)
 deriving DecidableEq
noncomputable def jc:V->Value->Prop
 | .non,u=>u=Value.none
 | .bl b,u=>u=Value.bool b
 | .int i,u=>∃ t,u=Value.int i t
 | .str x,u=>∃ t,u=Value.str x t
 | .byt b,u=>∃ t,u=Value.bytes b t
 | .flt b,u=>∃ t,u=Value.float b t
 | .ref a,u=>u=Value.ref a
 | .ty n,u=>u=Value.type n
noncomputable abbrev ZM:List V->List Value->Prop:=Paired jc
theorem ZM.length {xs:List V} {us:List Value} (r:ZM xs us):xs.length=us.length:=Paired.length r
theorem ZM.get:∀ {xs:List V} {us:List Value} {i:Nat} {x:V},ZM xs us->xs[i]? =some x->∃ u,us[i]? =some u/\jc x u
 | _,_,_,_, .nil,e=>by simp at e
 | _,_,0,_, .cons r _,e=>by simp at e; subst e; exact ⟨_,rfl,r⟩
 | _,_,i+1,x, .cons _ t,e=>by
  obtain ⟨u,h1,h2⟩:=ZM.get (i:=i) (x:=x) t (by simpa using e)
  exact ⟨u,by simpa using h1,h2⟩
theorem ZM.append:∀ {xs ys:List V} {us ws:List Value},ZM xs us->ZM ys ws->ZM (xs++ys) (us++ws)
 | _,_,_,_, .nil,s=>s
 | _,_,_,_, .cons r t,s=> .cons r (ZM.append t s)
theorem ZM.take:∀ {xs:List V} {us:List Value} (n:Nat),ZM xs us->ZM (xs.take n) (us.take n)
 | _,_,0,_=> .nil
 | _,_,_+1, .nil=> .nil
 | _,_,n+1, .cons r t=> .cons r (ZM.take n t)
theorem ZM.drop:∀ {xs:List V} {us:List Value} (n:Nat),ZM xs us->ZM (xs.drop n) (us.drop n)
 | _,_,0,r=>r
 | _,_,_+1, .nil=> .nil
 | _,_,n+1, .cons _ t=>ZM.drop n t
noncomputable def z0r:Option V->Option Value->Prop
 | some v,some u=>jc v u
 | none,none=>True
 | _,_=>False
noncomputable def KV {κ:Type}:List (κ×V)->List (κ×Value)->Prop:=Paired fun (p:κ×V) (q:κ×Value)=>p.1=q.1/\jc p.2 q.2
noncomputable def kV:Key->V
 | .inl i=> .int i
 | .inr x=> .str x
inductive HO where
 | lst (xs:List V)
 | tup (xs:List V)
 | dK (kvs:List (Key×V)) | dT (kvs:List (List Key×V))
 | set (S:Int->Bool) (n:Nat)
 | ins (C dx:Addr) (fs:List (Str×V))
 | own (x:Addr)
 | xd (fs:List (Str×V))
 | met (f x:Addr)
 | rng (lo hi:Int)
 | frz (o:Obj) (u:HO)
 | tbl (ps:Array Value)
 | ext (φ:Heap->Prop)
noncomputable abbrev Hp:=Addr->Option HO
noncomputable def upd (H:Hp) (a:Addr) (o:HO):Hp:=fun b=>if b=a then some o else H b
theorem Zu {H:Hp} {a:Addr} {o:HO}:upd H a o a=some o:=by unfold upd; rw [if_pos rfl]
theorem zJ {H:Hp} {a b:Addr} {o:HO} (h:b ≠ a):upd H a o b=H b:=by unfold upd; rw [if_neg h]
theorem Zd {H:Hp} {a b:Addr} {o:HO} (h:H a=some o) (h' :H b=none):a ≠ b:=by
 intro e; subst e; rw [h] at h'; cases h'
section
variable (P:Program) (w:World)
noncomputable def jb (H:Hp) (h:Heap) (a:Addr):HO->Prop
 | .lst xs=>xs.length<=sizeLine/\∃ (its:List Value) (n:Nat),ZM xs its/\h.get? a=some { cls:= .type "list",data:= .seq its.toArray n }
 | .tup xs=>xs.length<=sizeLine/\∃ its:List Value,ZM xs its/\IsTup h a its.toArray
 | .dK kvs=>kvs.length<=sizeLine/\(a == sysModules)=false/\∃ vs,KV kvs vs/\h.DictOf (YL P w) a vs
 | .dT kvs=>kvs.length<=sizeLine/\(a == sysModules)=false/\∃ xs:List (List Key×Addr×Value),
   Paired (fun (p:List Key×V) (q:List Key×Addr×Value)=>p.1=q.1/\H q.2.1=some (.tup (p.1.map kV))/\jc p.2 q.2.2) kvs xs/\
   ∃ o es ep,h.get? a=some o/\o.ExactDict/\o.data= .dict es ep/\es.toList=xs.map (entryOfKey (tupleKind (YL P w)))/\(xs.map (·.1)).Nodup
 | .set S n=>h.SetOf (intKind P w) a S n
 | .ins C dx fs=>H dx=some (.own a)/\fs.length<=1000/\dx ≠ a/\h.get? a=some (PySem.W.instObj C dx)/\
   ∃ mA,h.Ns1 dx mA/\(∀ f,z0r (fs.lookup f) (mA f))/\PySem.Within mA (fs.map (·.1))
 | .own _=>∃ o,h.get? a=some o
 | .xd fs=>∃ mA,h.Ns1 a mA/\∀ f,z0r (fs.lookup f) (mA f)
 | .rng lo hi=>∃ t u v,h.get? a=some { cls:= .type "range",data:= .fields #[.int lo t, .int hi u, .int 1 v] }
 | .frz o u=>h.get? a=some o/\jb H h a u
 | .tbl ps=>h.get? a=some { cls:= .none,data:= .fields ps }
 | .met f x=>h.get? a=some (PySem.W.methodObj (.ref f) (.ref x))
 | .ext φ=>φ h/\(∃ o,h.get? a=some o)/\∀ h1 h2:Heap,φ h1->(∀ o,h1.get? a=some o->h2.get? a=some o)->φ h2
noncomputable def HOk (H:Hp) (h:Heap):Prop:=∀ a o,H a=some o->jb P w H h a o
end
section
variable {P:Program} {w:World} {H H' :Hp} {h h' :Heap} {a:Addr} {o:HO}
theorem jb.lt (x:jb P w H h a o):a < h.objs.size:=by
 cases o with
 | lst xs=>obtain ⟨_,_,_,_,e⟩:=x; exact Heap.lt_size e
 | tup xs=>obtain ⟨_,_,_,p⟩:=x; exact p.lt
 | dK kvs=>obtain ⟨_,_,_,_,o,_,_,e,_⟩:=x; exact Heap.lt_size e
 | dT kvs=>obtain ⟨_,_,_,_,o,_,_,e,_⟩:=x; exact Heap.lt_size e
 | set S n=>obtain ⟨o,_,_,_,e,_⟩:=x; exact Heap.lt_size e
 | ins C dx fs=>obtain ⟨_,_,_,e,_⟩:=x; exact Heap.lt_size e
 | own y=>obtain ⟨_,e⟩:=x; exact Heap.lt_size e
 | xd fs=>obtain ⟨_,⟨_,_,_,e,_⟩,_⟩:=x; exact Heap.lt_size e
 | rng lo hi=>obtain ⟨_,_,_,e⟩:=x; exact Heap.lt_size e
 | frz ob u=>obtain ⟨e,_⟩:=x; exact Heap.lt_size e
 | tbl ps=>exact Heap.lt_size (show h.get? a=some _ from x)
 | met f y=>exact Heap.lt_size (show h.get? a=some _ from x)
 | ext φ=>obtain ⟨_,⟨_,e⟩,_⟩:=x; exact Heap.lt_size e
theorem Paired.mapP {α β:Type} {F G:α->β->Prop}:∀ {l₁:List α} {l₂:List β},Paired F l₁ l₂->(∀ a b,F a b->G a b)->Paired G l₁ l₂
 | _,_, .nil,_=> .nil
 | _,_, .cons r t,f=> .cons (f _ _ r) (Paired.mapP t f)
theorem jb.stay (x:jb P w H h a o) (k:∀ b u,(b=a\/H b=some (.own a))->h.get? b=some u->h'.get? b=some u)
  (ho:∀ b,H b=some (.own a)->H' b=some (.own a)) (ht:∀ b xs,H b=some (.tup xs)->H' b=some (.tup xs)):jb P w H' h' a o:=by
 induction o with
 | lst xs=>obtain ⟨z,its,n,r,e⟩:=x; exact ⟨z,its,n,r,k _ _ (.inl rfl) e⟩
 | tup xs=>obtain ⟨z,its,r,ob,e,c⟩:=x; exact ⟨z,its,r,ob,k _ _ (.inl rfl) e,c⟩
 | dK kvs=>obtain ⟨z,y,vs,r,ob,es,ep,e,c⟩:=x; exact ⟨z,y,vs,r,ob,es,ep,k _ _ (.inl rfl) e,c⟩
 | dT kvs=>
  obtain ⟨z,y,xs,r,ob,es,ep,e,c⟩:=x
  exact ⟨z,y,xs,Paired.mapP r fun p q z=>⟨z.1,ht _ _ z.2.1,z.2.2⟩,ob,es,ep,k _ _ (.inl rfl) e,c⟩
 | set S n=>obtain ⟨ob,es,ep,t,e,c⟩:=x; exact ⟨ob,es,ep,t,k _ _ (.inl rfl) e,c⟩
 | ins C dx fs=>
  obtain ⟨d,z,ne,e,mA,⟨od,es,ep,e2,c⟩,r⟩:=x
  exact ⟨ho _ d,z,ne,k _ _ (.inl rfl) e,mA,⟨od,es,ep,k _ _ (.inr d) e2,c⟩,r⟩
 | own y=>obtain ⟨ob,e⟩:=x; exact ⟨ob,k _ _ (.inl rfl) e⟩
 | xd fs=>obtain ⟨mA,⟨od,es,ep,e,c⟩,r⟩:=x; exact ⟨mA,⟨od,es,ep,k _ _ (.inl rfl) e,c⟩,r⟩
 | rng lo hi=>obtain ⟨t,u,v,e⟩:=x; exact ⟨t,u,v,k _ _ (.inl rfl) e⟩
 | frz ob u ih=>obtain ⟨e,q⟩:=x; exact ⟨k _ _ (.inl rfl) e,ih q⟩
 | tbl ps=>
  have e:h.get? a=some { cls:= .none,data:= .fields ps }:=x
  show h'.get? a=some { cls:= .none,data:= .fields ps }
  exact k a _ (.inl rfl) e
 | met f y=>
  have e:h.get? a=some (PySem.W.methodObj (.ref f) (.ref y)):=x
  show h'.get? a=some (PySem.W.methodObj (.ref f) (.ref y))
  exact k a _ (.inl rfl) e
 | ext φ=>obtain ⟨p,⟨o,e⟩,st⟩:=x; exact ⟨st _ _ p fun o q=>k _ _ (.inl rfl) q,⟨o,k _ _ (.inl rfl) e⟩,st⟩
theorem HOk.lt (x:HOk P w H h) (e:H a=some o):a < h.objs.size:=(x a o e).lt
theorem HOk.fresh (x:HOk P w H h) (e:h.objs.size<=a):H a=none:=by
 cases q:H a with
 | none=>rfl
 | some u=>exact absurd (Nat.lt_of_lt_of_le (x.lt q) e) (Nat.lt_irrefl _)
theorem HOk.kept (x:HOk P w H h) (k:∀ b u,h.get? b=some u->h'.get? b=some u):HOk P w H h' :=fun a o e=>
 (x a o e).stay (fun b u _ q=>k b u q) (fun _ q=>q) fun _ _ q=>q
theorem HOk.laid (x:HOk P w H h) (k:∀ b u,h.get? b=some u->h'.get? b=some u) (hp:h.objs.size<=a) (new:jb P w (upd H a o) h' a o):HOk P w (upd H a o) h' :=fun b u e=>by
 have hn:=x.fresh hp
 by_cases hb:b=a
 ·subst hb; rw [Zu] at e; cases e; exact new
 ·rw [zJ hb] at e
  exact (x b u e).stay (fun c v _ q=>k c v q) (fun c q=>by rw [zJ (Zd q hn)]; exact q) fun c xs q=>by rw [zJ (Zd q hn)]; exact q
end
noncomputable def Rd (H:Hp) (a:Addr) (u:HO):Prop:=H a=some u\/∃ o,H a=some (.frz o u)
theorem Rd.ok {P:Program} {w:World} {H:Hp} {h:Heap} {a:Addr} {u:HO} (r:Rd H a u) (x:HOk P w H h):jb P w H h a u:=by
 rcases r with r | ⟨o,r⟩
 ·exact x a u r
 ·obtain ⟨_,q⟩:=x a _ r
  exact q
noncomputable def Mut:Option HO->Prop
 | some (.lst _)=>True
 | some (.dK _)=>True
 | some (.dT _)=>True
 | some (.set _ _)=>True
 | some (.ins _ _ _)=>True
 | some (.ext _)=>True
 | _=>False
section
variable {P:Program} {w:World} {H:Hp} {h h' :Heap} {x e:Addr} {o' :HO}
theorem HOk.write (ok:HOk P w H h) (mu:Mut (H x)) (he:e=x\/H e=some (.own x)) (k:∀ b u,b ≠ e->h.get? b=some u->h'.get? b=some u) (heo:∃ u,h'.get? e=some u)
  (new:jb P w (upd H x o') h' x o'):HOk P w (upd H x o') h' :=fun b u q=>by
 have nown:∀ c y,H c=some (.own y)->c ≠ x:=fun c y r z=>by subst z; rw [r] at mu; exact mu
 have ntup:∀ c xs,H c=some (.tup xs)->c ≠ x:=fun c xs r z=>by subst z; rw [r] at mu; exact mu
 by_cases hb:b=x
 ·subst hb; rw [Zu] at q; cases q; exact new
 ·rw [zJ hb] at q
  by_cases hbe:b=e
  ·have q' :H b=some (.own x):=by
    rcases he with z | z
    ·exact absurd (hbe.trans z) hb
    ·rw [hbe]; exact z
   rw [q] at q'; cases q'
   obtain ⟨v,hv⟩:=heo
   exact ⟨v,by rw [hbe]; exact hv⟩
  ·refine (ok b u q).stay (fun c v hc r=>k c v ?_ r) (fun c r=>by rw [zJ (nown c b r)]; exact r) fun c xs r=>by rw [zJ (ntup c xs r)]; exact r
   rcases hc with rfl | hc
   ·exact hbe
   ·rintro rfl
    rcases he with z | z
    ·exact nown c b hc z
    ·rw [hc] at z; cases z; exact hb rfl
end
structure Un (fs ex:List Addr) (H H' :Hp) (h h' :Heap):Prop where
 keep:∀ b o,h.get? b=some o->H b=none->b ∉ fs->b ∉ ex->h'.get? b=some o
 slot:∀ b o,h.get? b=some o->H b=none->b∈fs->b ∉ ex->∃ sl,h'.get? b=some { o with slots:=sl }
 free:∀ b o,h.get? b=some o->H b=none->b ∉ ex->H' b=none
 there:∀ b o,h.get? b=some o->b ∉ ex->∃ o',h'.get? b=some o'
 tups:∀ b xs,H b=some (.tup xs)->H' b=some (.tup xs)
 frzs:∀ b o u,H b=some (.frz o u)->H' b=some (.frz o u)
 tbls:∀ b ps,H b=some (.tbl ps)->∃ more,H' b=some (.tbl (ps++more))
section
variable {fs fs' ex ex' :List Addr} {H H1 H2:Hp} {h h1 h2 h' :Heap} {a x e:Addr} {o:HO}
theorem Un.any (u:Un fs ex H H1 h h1) {b:Addr} {ob:Obj} (q:h.get? b=some ob) (n:H b=none) (hx:b ∉ ex):∃ sl,h1.get? b=some { ob with slots:=sl }:=by
 by_cases hb:b∈fs
 ·exact u.slot b ob q n hb hx
 ·exact ⟨ob.slots,u.keep b ob q n hb hx⟩
theorem Un.kept (k:∀ b u,h.get? b=some u->h'.get? b=some u):Un fs ex H H h h' :=
 ⟨fun b ob q _ _ _=>k b ob q,fun b ob q _ _ _=>⟨ob.slots,k b ob q⟩,fun _ _ _ n _=>n,fun b ob q _=>⟨ob,k b ob q⟩,fun _ _ q=>q,fun _ _ _ q=>q,fun _ ps q=>⟨#[],by rw [q]; simp⟩⟩
theorem Un.refl:Un fs ex H H h h:=Un.kept fun _ _ q=>q
theorem Un.laid (k:∀ b u,h.get? b=some u->h'.get? b=some u) (hp:h.objs.size<=a) (hn:H a=none):Un fs ex H (upd H a o) h h' where
 keep:=fun b u q _ _ _=>k b u q
 slot:=fun b u q _ _ _=>⟨u.slots,k b u q⟩
 free:=fun b u q n _=>by rw [zJ (Nat.ne_of_lt (Nat.lt_of_lt_of_le (Heap.lt_size q) hp))]; exact n
 there:=fun b u q _=>⟨u,k b u q⟩
 tups:=fun b xs q=>by rw [zJ (Zd q hn)]; exact q
 frzs:=fun b u xs q=>by rw [zJ (Zd q hn)]; exact q
 tbls:=fun b ps q=>⟨#[],by rw [zJ (Zd q hn),q]; simp⟩
theorem Un.write (mu:Mut (H x)) (he:e=x\/H e=some (.own x)) (k:∀ b u,b ≠ e->h.get? b=some u->h'.get? b=some u) (heo:∃ u,h'.get? e=some u):Un fs ex H (upd H x o) h h' :=by
 have hx:∀ b,H b=none->b ≠ x:=fun b n z=>by subst z; rw [n] at mu; exact mu
 have hb:∀ b,H b=none->b ≠ e:=fun b n z=>by
  subst z
  rcases he with r | r
  ·exact hx b n r
  ·rw [n] at r; cases r
 have hm:∀ b u,H b=some u->¬ Mut (some u)->b ≠ x:=fun b u q nm z=>by subst z; rw [q] at mu; exact nm mu
 refine ⟨fun b u q n _ _=>k b u (hb b n) q,fun b u q n _ _=>⟨u.slots,k b u (hb b n) q⟩,fun b u q n _=>by rw [zJ (hx b n)]; exact n,fun b u q _=> ?_,
  fun b xs q=>by rw [zJ (hm b _ q fun z=>z)]; exact q,fun b u xs q=>by rw [zJ (hm b _ q fun z=>z)]; exact q,fun b ps q=>⟨#[],by rw [zJ (hm b _ q fun z=>z),q]; simp⟩⟩
 by_cases hbe:b=e
 ·subst hbe; exact heo
 ·exact ⟨u,k b u hbe q⟩
end
noncomputable def trk (h:Heap) (H:Hp):List Addr:=(List.range h.objs.size).filter fun a=>(H a).isSome
noncomputable def xC (h:Heap) (H:Hp):Heap:=PySem.W.hideAll h (trk h H)
theorem vh (h:Heap) (H:Hp):(xC h H).objs.size=h.objs.size:=PySem.W.hideAll_size _ _
theorem xD {h:Heap} {H:Hp} {b:Addr} {o:Obj} (e:h.get? b=some o) (n:H b=none):(xC h H).get? b=some o:=
 PySem.W.hideAll_get _ e fun hm=>by
  have q:(H b).isSome=true:=(List.mem_filter.mp hm).2
  rw [n] at q; simp at q
theorem kn {h:Heap} {H:Hp} {b:Addr} {o:Obj} (e:(xC h H).get? b=some o):h.get? b=some o/\H b=none:=by
 have e' :h.get? b=some o:=PySem.W.of_hideAll (trk h H) e
 refine ⟨e', ?_⟩
 cases q:H b with
 | none=>rfl
 | some x=>
  have hm:b∈trk h H:=List.mem_filter.mpr ⟨List.mem_range.mpr (Heap.lt_size e'),by simp [q]⟩
  have z:(xC h H).get? b=none:=PySem.W.hideAll_none (trk h H) hm
  rw [z] at e; cases e
end L2
namespace L2
open PySem PySem.Spec PyProof.Rows
structure Mod (K:PySem.W.Frag) (mg:Str->Option Value) (base:Heap):Prop where
 kin:K.In base
 glob:base.Ns mainGlobals mg
 blt:∃ mb,base.Ns builtinsNs mb/\∀ x:Str,x ≠ "__name__"->mb x=bootBuiltins x
 nolimit:base.NoLimit
structure Cx where
 prog:Program
 w:World
 K:PySem.W.Frag
 mg:Str->Option Value
 base:Heap
 A:Around
 N:List Str
 s₀:Shared
 H₀:Hp
 env:Env
 outer:List Env
 stack:List Env
 ex:List Addr
 fn:Str->Bool
 calm:Bool
 pn:List (Addr×Obj)
 xe:Value->Shared->Prop
noncomputable def frs (l:List Env):List Addr:=l.filterMap (·.frame)
noncomputable abbrev Cx.fs (X:Cx):List Addr:=frs X.outer
noncomputable def Vis (sc:Scope) (x:Str):Prop:=sc.names.lookup x=some .local\/sc.names.lookup x=some .cell\/sc.names.lookup x=some .free
noncomputable def Loc (sc:Scope) (x:Str):Prop:=sc.names.lookup x=some .local\/sc.names.lookup x=some .cell
noncomputable def Look (env:Env) (h:Heap) (m:Str->Option Value) (x:Str) (u:Value):Prop:=
 (env.kindOf x=some .local/\m x=some u)\/((env.kindOf x=some .cell\/env.kindOf x=some .free)/\∃ c,env.cells.lookup x=some c/\h.IsCell c (some u))
structure Cx.Ok (X:Cx):Prop where
 mod:Mod X.K X.mg X.base
 kind:X.env.scope.kind= .function
 glob:X.env.globals=mainGlobals
 blt:X.env.builtins=builtinsNs
 above:X.s₀.heap.objs.size<=X.env.locals
 inj:∀ x y c,X.env.cells.lookup x=some c->X.env.cells.lookup y=some c->x=y
 has:∀ x,(X.env.kindOf x=some .cell\/X.env.kindOf x=some .free)->∃ c,X.env.cells.lookup x=some c
 cab:∀ x c,X.fn x=true->X.env.cells.lookup x=some c->X.s₀.heap.objs.size<=c
 hd:X.calm=true->X.A.handled=none
 frames:X.A.frames=some X.stack
 stk:X.stack=X.outer\/(X.stack=X.env :: X.outer/\X.env.frame=some X.env.locals)
 exf:∀ b∈X.ex,b ≠ X.env.locals/\∀ x c,X.env.cells.lookup x=some c->c ≠ b
 bs:∀ b o,X.base.get? b=some o->X.s₀.heap.get? b=some o/\X.H₀ b=none
 bsz:X.base.objs.size<=X.s₀.heap.objs.size
 noex:∀ b o,X.base.get? b=some o->b ∉ X.ex
 exfs:∀ b∈X.ex,b ∉ X.fs
 funs:X.s₀.heap.FunFrames X.base X.outer
 frf:∀ b∈X.fs,X.H₀ b=none
structure Inv (X:Cx) (pins:List (Addr×Obj)) (σ:List (Option V)) (H:Hp) (s:Shared):Prop where
 ok:X.Ok
 os:s.os=X.s₀.os
 bare:AllBare s.gens
 base:Un X.fs X.ex X.H₀ H X.s₀.heap s.heap
 loc:∃ m,s.heap.Ns X.env.locals m/\∀ (i:Nat) (x:Str) (v:V),X.N[i]? =some x->σ[i]? =some (some v)->Vis X.env.scope x->∃ u,jc v u/\Look X.env s.heap m x u
 cell:∀ x c,X.env.cells.lookup x=some c->∃ v,s.heap.IsCell c v
 free:H X.env.locals=none
 freeC:∀ x c,X.env.cells.lookup x=some c->H c=none
 pin:∀ p∈X.pn++pins,s.heap.get? p.1=some p.2/\H p.1=none/\p.1 ≠ X.env.locals/\p.1 ∉ X.fs/\∀ v,p.2.data ≠ .cell v
 hok:HOk X.prog X.w H s.heap
 len:σ.length=X.N.length
section
variable {X:Cx} {pins:List (Addr×Obj)} {σ:List (Option V)} {H H' :Hp} {s:Shared} {h' :Heap}
theorem Cx.Ok.nofr (ok:X.Ok) {b:Addr} {o:Obj} (e:X.base.get? b=some o):b ∉ X.fs:=fun hb=>by
 have:=(ok.funs.mem hb).1
 rw [e] at this; cases this
theorem Inv.bs (I:Inv X pins σ H s):∀ b o,X.base.get? b=some o->s.heap.get? b=some o/\H b=none:=fun b o e=>
 ⟨I.base.keep b o (I.ok.bs b o e).1 (I.ok.bs b o e).2 (I.ok.nofr e) (I.ok.noex b o e),I.base.free b o (I.ok.bs b o e).1 (I.ok.bs b o e).2 (I.ok.noex b o e)⟩
theorem Inv.bk (I:Inv X pins σ H s):∀ b o,X.base.get? b=some o->s.heap.get? b=some o:=fun b o e=>(I.bs b o e).1
theorem Inv.mod (I:Inv X pins σ H s):Mod X.K X.mg X.base:=I.ok.mod
theorem Inv.kIn (I:Inv X pins σ H s):X.K.In s.heap:=I.ok.mod.kin.keeps I.bk
theorem Inv.lt (I:Inv X pins σ H s):X.env.locals < s.heap.objs.size:=let ⟨_,hn,_⟩:=I.loc; hn.lt
theorem Inv.sz (I:Inv X pins σ H s):X.s₀.heap.objs.size<=s.heap.objs.size:=Nat.le_trans I.ok.above (Nat.le_of_lt I.lt)
theorem Inv.nofs (I:Inv X pins σ H s) {a:Addr} (h:s.heap.objs.size<=a):a ∉ X.fs:=fun hb=>by
 obtain ⟨_,o,ho,_⟩:=I.ok.funs.mem hb
 exact absurd (Nat.lt_of_lt_of_le (Heap.lt_size ho) (Nat.le_trans I.sz h)) (Nat.lt_irrefl _)
theorem Inv.cne (I:Inv X pins σ H s):∀ x c,X.env.cells.lookup x=some c->c ≠ X.env.locals:=fun x c e z=>by
 obtain ⟨v,o,ho,hd⟩:=I.cell x c e
 obtain ⟨m,⟨o',es,ep,ho',hd',_⟩,_⟩:=I.loc
 rw [z,ho'] at ho; cases ho; rw [hd'] at hd; cases hd
theorem Inv.funs (I:Inv X pins σ H s):s.heap.FunFrames X.base X.outer:=by
 have all:∀ (l:List Env),(∀ b∈frs l,b∈X.fs)->X.s₀.heap.FunFrames X.base l->s.heap.FunFrames X.base l:=by
  intro l
  induction l with
  | nil=>intro _ _; trivial
  | cons env r ih=>
   intro hs hl
   obtain ⟨hk,⟨L,o,hf,hn,ho,hd⟩,hr⟩:=hl
   have hL:L∈X.fs:=hs L (by unfold frs; rw [List.filterMap_cons,hf]; exact List.mem_cons_self)
   obtain ⟨sl,e⟩:=I.base.slot L o ho (I.ok.frf L hL) hL fun z=>I.ok.exfs L z hL
   exact ⟨hk,⟨L,_,hf,hn,e,hd⟩,ih (fun b hb=>hs b (by unfold frs; rw [List.filterMap_cons,hf]; exact List.mem_cons_of_mem _ hb)) hr⟩
 exact all X.outer (fun _ hb=>hb) I.ok.funs
theorem Inv.stack (I:Inv X pins σ H s):s.heap.FunFrames X.base X.stack:=by
 rcases I.ok.stk with e | ⟨e,hf⟩
 ·rw [e]; exact I.funs
 ·rw [e]
  obtain ⟨m,hn,_⟩:=I.loc
  refine .cons (by rw [I.ok.kind]; decide) hf hn ?_ I.funs
  exact Heap.get?_none_of_le (Nat.le_trans I.ok.bsz I.ok.above)
theorem Inv.stkSub (I:Inv X pins σ H s):∀ b∈frs X.stack,b∈X.env.locals :: X.fs:=fun b hb=>by
 rcases I.ok.stk with e | ⟨e,hf⟩
 ·rw [e] at hb; exact List.mem_cons_of_mem _ hb
 ·rw [e] at hb
  unfold frs at hb
  rw [List.filterMap_cons,hf] at hb
  exact hb
theorem Inv.stkFree (I:Inv X pins σ H s):∀ b∈frs X.stack,H b=none:=fun b hb=>by
 rcases List.mem_cons.mp (I.stkSub b hb) with e | hb
 ·rw [e]; exact I.free
 ·obtain ⟨_,o,ho,_⟩:=I.ok.funs.mem hb
  exact I.base.free b o ho (I.ok.frf b hb) fun z=>I.ok.exfs b z hb
theorem Inv.step {g' :Array GenState} {t' :Nat} {d' :Drawn} {ch:List Addr} (I:Inv X pins σ H s)
  (hch:∀ b∈ch,(b∈X.ex\/X.s₀.heap.objs.size<=b)/\b ≠ X.env.locals/\(∀ x c,X.env.cells.lookup x=some c->c ≠ b)/\∀ p∈X.pn++pins,p.1 ≠ b)
  (keep:∀ b o,b ≠ X.env.locals->b ∉ X.fs->b ∉ ch->s.heap.get? b=some o->H b=none->h'.get? b=some o)
  (slot:∀ b o,b ≠ X.env.locals->b∈X.fs->b ∉ ch->s.heap.get? b=some o->H b=none->∃ sl,h'.get? b=some { o with slots:=sl }) (free:∀ b o,b ∉ ch->s.heap.get? b=some o->H b=none->H' b=none)
  (there:∀ b o,b ∉ ch->s.heap.get? b=some o->∃ o',h'.get? b=some o')
  (tups:∀ b xs,H b=some (.tup xs)->H' b=some (.tup xs)) (frzs:∀ b o u,H b=some (.frz o u)->H' b=some (.frz o u)) (tbls:∀ b ps,H b=some (.tbl ps)->∃ more,H' b=some (.tbl (ps++more)))
  (ns:∀ m,s.heap.Ns X.env.locals m->h'.Ns X.env.locals m) (hok:HOk X.prog X.w H' h') (hg:AllBare g'):
  Inv X pins σ H' { s with heap:=h',gens:=g',drawn:=d',toks:=t' }:=by
 have neL:∀ b o,X.s₀.heap.get? b=some o->b ≠ X.env.locals:=fun b o e=>Nat.ne_of_lt (Nat.lt_of_lt_of_le (Heap.lt_size e) I.ok.above)
 have neC:∀ b o,X.s₀.heap.get? b=some o->b ∉ X.ex->b ∉ ch:=fun b o e hx hb=>by
  rcases (hch b hb).1 with z | z
  ·exact hx z
  ·exact absurd (Nat.lt_of_lt_of_le (Heap.lt_size e) z) (Nat.lt_irrefl _)
 have cellK:∀ x c,X.env.cells.lookup x=some c->∀ v,s.heap.IsCell c v->h'.IsCell c v:=fun x c e v ⟨o,ho,hd⟩=>by
  have nch:c ∉ ch:=fun z=>(hch c z).2.2.1 x c e rfl
  by_cases hc:c∈X.fs
  ·obtain ⟨sl,q⟩:=slot c o (I.cne x c e) hc nch ho (I.freeC x c e)
   exact ⟨_,q,hd⟩
  ·exact ⟨o,keep c o (I.cne x c e) hc nch ho (I.freeC x c e),hd⟩
 refine ⟨I.ok,I.os,hg,⟨fun b o e n hb hx=> ?_,fun b o e n hb hx=> ?_,fun b o e n hx=> ?_,fun b o e hx=> ?_,fun b xs e=>tups b xs (I.base.tups b xs e),fun b o xs e=>frzs b o xs (I.base.frzs b o xs e),fun b ps e=> ?_⟩, ?_,fun x c e=> ?_, ?_,fun x c e=> ?_,fun p hp=> ?_,hok,I.len⟩
 ·exact keep b o (neL b o e) hb (neC b o e hx) (I.base.keep b o e n hb hx) (I.base.free b o e n hx)
 ·obtain ⟨sl,e1⟩:=I.base.slot b o e n hb hx
  obtain ⟨sl',e2⟩:=slot b _ (neL b o e) hb (neC b o e hx) e1 (I.base.free b o e n hx)
  exact ⟨sl',e2⟩
 ·obtain ⟨o',e1⟩:=I.base.there b o e hx
  exact free b o' (neC b o e hx) e1 (I.base.free b o e n hx)
 ·obtain ⟨o',e1⟩:=I.base.there b o e hx
  exact there b o' (neC b o e hx) e1
 ·obtain ⟨m1,e1⟩:=I.base.tbls b ps e
  obtain ⟨m2,e2⟩:=tbls b _ e1
  exact ⟨m1++m2,by rw [e2,Array.append_assoc]⟩
 ·obtain ⟨m,hn,hl⟩:=I.loc
  refine ⟨m,ns m hn,fun i x v e1 e2 e3=> ?_⟩
  obtain ⟨u,r,l⟩:=hl i x v e1 e2 e3
  refine ⟨u,r, ?_⟩
  rcases l with l | ⟨k,c,e,z⟩
  ·exact .inl l
  ·exact .inr ⟨k,c,e,cellK x c e _ z⟩
 ·obtain ⟨v,z⟩:=I.cell x c e
  exact ⟨v,cellK x c e v z⟩
 ·obtain ⟨m,⟨o,_,_,ho,_⟩,_⟩:=I.loc
  exact free _ o (fun z=>(hch _ z).2.1 rfl) ho I.free
 ·obtain ⟨v,o,ho,hd⟩:=I.cell x c e
  exact free c o (fun z=>(hch c z).2.2.1 x c e rfl) ho (I.freeC x c e)
 ·obtain ⟨e,n,ne,nf,d⟩:=I.pin p hp
  have nch:p.1 ∉ ch:=fun z=>(hch p.1 z).2.2.2 p hp rfl
  exact ⟨keep p.1 p.2 ne nf nch e n,free p.1 p.2 nch e n,ne,nf,d⟩
theorem Inv.un {t' :Nat} (I:Inv X pins σ H s) (u:Un X.fs [] H H' s.heap h') (hok:HOk X.prog X.w H' h'):Inv X pins σ H' { s with heap:=h',toks:=t' }:=by
 obtain ⟨m,⟨o,es,ep,ho,r⟩,_⟩:=id I.loc
 obtain ⟨sl,hL⟩:=u.any ho I.free (by simp)
 exact I.step (g' :=s.gens) (d' :=s.drawn) (ch:=[]) (fun _ z=>nomatch z) (fun b o _ hb _ e n=>u.keep b o e n hb (by simp)) (fun b o _ hb _ e n=>u.slot b o e n hb (by simp)) (fun b o _ e n=>u.free b o e n (by simp)) (fun b o _ e=>u.there b o e (by simp)) u.tups u.frzs u.tbls (fun m' hm=>by
  obtain ⟨o',es',ep',ho',r'⟩:=hm
  rw [ho] at ho'; cases ho'
  exact ⟨_,es',ep',hL,r'⟩) hok I.bare
theorem Inv.call {g' :Array GenState} {t' :Nat} {d' :Drawn} {ch:List Addr} (I:Inv X pins σ H s) (u:Un (frs X.stack) ch H H' s.heap h') (hok:HOk X.prog X.w H' h') (hg:AllBare g')
  (hch:∀ b∈ch,(b∈X.ex\/X.s₀.heap.objs.size<=b)/\b ≠ X.env.locals/\(∀ x c,X.env.cells.lookup x=some c->c ≠ b)/\∀ p∈X.pn++pins,p.1 ≠ b):
  Inv X pins σ H' { s with heap:=h',gens:=g',drawn:=d',toks:=t' }:=by
 obtain ⟨m,⟨o,es,ep,ho,r⟩,_⟩:=id I.loc
 obtain ⟨sl,hL⟩:=u.any ho I.free fun z=>(hch _ z).2.1 rfl
 exact I.step (ch:=ch) hch (fun b o hL hb hc e n=>u.keep b o e n (fun z=>(List.mem_cons.mp (I.stkSub b z)).elim hL hb) hc) (fun b o _ _ hc e n=>u.any e n hc) (fun b o hc e n=>u.free b o e n hc) (fun b o hc e=>u.there b o e hc) u.tups u.frzs u.tbls (fun m' hm=>by
  obtain ⟨o',es',ep',ho',r'⟩:=hm
  rw [ho] at ho'; cases ho'
  exact ⟨_,es',ep',hL,r'⟩) hok hg
theorem Inv.turned {t' :Nat} {it:Addr} (I:Inv X pins σ H s) (k:∀ b o,b ≠ it->s.heap.get? b=some o->h'.get? b=some o) (hn:H it=none) (hL:it ≠ X.env.locals)
  (h1:it∈X.ex\/X.s₀.heap.objs.size<=it) (h2:∀ x c,X.env.cells.lookup x=some c->c ≠ it) (h3:∀ p∈X.pn++pins,p.1 ≠ it):Inv X pins σ H { s with heap:=h',toks:=t' }:=by
 have nit:∀ b u,H b=some u->b ≠ it:=fun b u e z=>by rw [z,hn] at e; cases e
 refine I.step (g' :=s.gens) (d' :=s.drawn) (ch:=[it]) (fun b hb=> ?_) (fun b o _ _ hc e _=>k b o (fun z=>hc (by simp [z])) e) (fun b o _ _ hc e _=>⟨o.slots,k b o (fun z=>hc (by simp [z])) e⟩) (fun _ _ _ _ n=>n)
  (fun b o hc e=>⟨o,k b o (fun z=>hc (by simp [z])) e⟩) (fun _ _ e=>e) (fun _ _ _ e=>e) (fun b ps e=>⟨#[],by rw [e]; simp⟩) (fun m hm=> ?_) (fun b u e=> ?_) I.bare
 ·have e:b=it:=by simpa using hb
  subst e
  exact ⟨h1,hL,h2,h3⟩
 ·obtain ⟨o,es,ep,ho,r⟩:=hm
  exact ⟨o,es,ep,k _ o (Ne.symm hL) ho,r⟩
 ·refine (I.hok b u e).stay (fun c v hc q=>k c v ?_ q) (fun _ q=>q) fun _ _ q=>q
  rcases hc with z | z
  ·rw [z]; exact nit b u e
  ·exact nit c _ z
theorem Inv.tok (I:Inv X pins σ H s) (t:Nat):Inv X pins σ H { s with toks:=t }:=I.un (h' :=s.heap) (t' :=t) Un.refl I.hok
theorem Inv.kept {t' :Nat} (I:Inv X pins σ H s) (k:∀ b u,s.heap.get? b=some u->h'.get? b=some u):Inv X pins σ H { s with heap:=h',toks:=t' }:=I.un (Un.kept k) (I.hok.kept k)
theorem Inv.laid {a:Addr} {o:HO} {t' :Nat} (I:Inv X pins σ H s) (k:∀ b u,s.heap.get? b=some u->h'.get? b=some u) (hp:s.heap.objs.size<=a) (new:jb X.prog X.w (upd H a o) h' a o):
  Inv X pins σ (upd H a o) { s with heap:=h',toks:=t' }:=I.un (Un.laid k hp (I.hok.fresh hp)) (I.hok.laid k hp new)
theorem Inv.write {x e:Addr} {o:HO} {t' :Nat} (I:Inv X pins σ H s) (mu:Mut (H x)) (he:e=x\/H e=some (.own x)) (k:∀ b u,b ≠ e->s.heap.get? b=some u->h'.get? b=some u) (heo:∃ u,h'.get? e=some u)
  (new:jb X.prog X.w (upd H x o) h' x o):Inv X pins σ (upd H x o) { s with heap:=h',toks:=t' }:=I.un (Un.write mu he k heo) (I.hok.write mu he k heo new)
theorem Inv.pins_of {pins' :List (Addr×Obj)} (I:Inv X pins σ H s) (h:∀ p∈pins',s.heap.get? p.1=some p.2/\H p.1=none/\p.1 ≠ X.env.locals/\p.1 ∉ X.fs/\∀ v,p.2.data ≠ .cell v):Inv X pins' σ H s:=
 ⟨I.ok,I.os,I.bare,I.base,I.loc,I.cell,I.free,I.freeC,fun p hp=>(List.mem_append.mp hp).elim (fun z=>I.pin p (List.mem_append_left _ z)) (h p),I.hok,I.len⟩
theorem UP {N:List Str} (hN:N.Nodup) {i j:Nat} {x:Str} (a:N[i]? =some x) (b:N[j]? =some x):i=j:=by
 obtain ⟨h1,e1⟩:=List.getElem?_eq_some_iff.mp a
 obtain ⟨h2,e2⟩:=List.getElem?_eq_some_iff.mp b
 exact (List.getElem_inj hN).mp (e1.trans e2.symm)
theorem yJ {M:Model} {A:Around} {E:Value->Shared->Prop} {i:Nat} {x:Str} {v:V} {u:Value} {Q:Unit->Shared->Prop} (I:Inv X pins σ H s) (hN:X.N.Nodup) (hi:X.N[i]? =some x) (hx:Loc X.env.scope x) (r:jc v u)
  (h:∀ s',Inv X pins (σ.set i (some v)) H s' ->(∃ a,Heap.SameBut a s.heap s'.heap/\(a=X.env.locals\/X.env.cells.lookup x=some a))->Q () s') (hf:X.fn x=true\/X.env.scope.names.lookup x=some .local:=by first | exact .inl rfl | exact .inr rfl | assumption):wpAny M A (storeName X.env x u) Q E s:=by
 obtain ⟨m,hn,hl⟩:=id I.loc
 have hcls:(X.env.scope.kind == .class || (X.env.scope.kind == .module && X.env.locals != X.env.globals))=false:=by rw [I.ok.kind]; rfl
 have hiσ:i < σ.length:=by rw [I.len]; exact (List.getElem?_eq_some_iff.mp hi).1
 have cne:=I.cne
 have tracked:∀ {a:Addr} {h' :Heap},(∃ o,s.heap.get? a=some o/\H a=none)->Heap.SameBut a s.heap h' ->HOk X.prog X.w H h' :=fun {a h'} ha hs b ob e=>by
  obtain ⟨_,_,hfree⟩:=ha
  refine (I.hok b ob e).stay (fun c w' hc q=>(hs.2 c ?_).trans q) (fun _ q=>q) fun _ _ q=>q
  rintro rfl
  rcases hc with rfl | hc
  ·rw [hfree] at e; cases e
  ·rw [hfree] at hc; cases hc
 rcases hx with hk | hk
 ·refine wpAny_storeName_local hk hn (fun h' hn' hs=> ?_) hcls
  obtain ⟨oL,_,_,hoL,_⟩:=id hn
  refine h _ ⟨I.ok,I.os,I.bare,⟨fun b o e n hb hx=> ?_,fun b o e n hb hx=> ?_,I.base.free,fun b o e hx=> ?_,I.base.tups,I.base.frzs,I.base.tbls⟩,⟨_,hn',fun j y v' e1 e2 e3=> ?_⟩,fun y c e=> ?_,I.free,I.freeC,fun p hp=> ?_,tracked ⟨oL,hoL,I.free⟩ hs,by simpa using I.len⟩ ⟨_,hs, .inl rfl⟩
  ·exact (hs.2 b (Nat.ne_of_lt (Nat.lt_of_lt_of_le (Heap.lt_size e) I.ok.above))).trans (I.base.keep b o e n hb hx)
  ·obtain ⟨sl,e1⟩:=I.base.slot b o e n hb hx
   exact ⟨sl,(hs.2 b (Nat.ne_of_lt (Nat.lt_of_lt_of_le (Heap.lt_size e) I.ok.above))).trans e1⟩
  ·obtain ⟨o',e1⟩:=I.base.there b o e hx
   exact ⟨o',(hs.2 b (Nat.ne_of_lt (Nat.lt_of_lt_of_le (Heap.lt_size e) I.ok.above))).trans e1⟩
  ·by_cases hj:j=i
   ·subst hj
    rw [hi] at e1; cases e1
    rw [List.getElem?_set_self hiσ] at e2
    cases e2
    exact ⟨u,r, .inl ⟨hk,by simp⟩⟩
   ·rw [List.getElem?_set_ne (Ne.symm hj)] at e2
    obtain ⟨u',r',q⟩:=hl j y v' e1 e2 e3
    refine ⟨u',r', ?_⟩
    rcases q with ⟨k,e⟩ | ⟨k,c,e,z⟩
    ·refine .inl ⟨k, ?_⟩
     have:y ≠ x:=fun e=>hj (UP hN e1 (e ▸ hi))
     simp [this,e]
    ·exact .inr ⟨k,c,e,z.sameBut hs (cne y c e)⟩
  ·obtain ⟨w',z⟩:=I.cell y c e
   exact ⟨w',z.sameBut hs (cne y c e)⟩
  ·obtain ⟨e,n,ne,nf,d⟩:=I.pin p hp
   exact ⟨(hs.2 p.1 ne).trans e,n,ne,nf,d⟩
 ·have hfn:X.fn x=true:=by
   rcases hf with z | z
   ·exact z
   ·rw [z] at hk; cases hk
  obtain ⟨c,hc⟩:=I.ok.has x (.inl hk)
  obtain ⟨w',z⟩:=I.cell x c hc
  refine wpAny_storeName_cell I.ok.kind hk hc z (fun h' hc' hs=> ?_)
  obtain ⟨oc,hoc,hocd⟩:=id z
  refine h { s with heap:=h' } ⟨I.ok,I.os,I.bare,⟨fun b o e n hb hx=> ?_,fun b o e n hb hx=> ?_,I.base.free,fun b o e hx=> ?_,I.base.tups,I.base.frzs,I.base.tbls⟩,⟨m,hn.sameBut hs (Ne.symm (cne x c hc)),fun j y v' e1 e2 e3=> ?_⟩,fun y c' e=> ?_,I.free,I.freeC,fun p hp=> ?_,tracked ⟨oc,hoc,I.freeC x c hc⟩ hs,by simpa using I.len⟩ ⟨c,hs, .inr hc⟩
  ·exact (hs.2 b (Nat.ne_of_lt (Nat.lt_of_lt_of_le (Heap.lt_size e) (I.ok.cab x c hfn hc)))).trans (I.base.keep b o e n hb hx)
  ·obtain ⟨sl,e1⟩:=I.base.slot b o e n hb hx
   exact ⟨sl,(hs.2 b (Nat.ne_of_lt (Nat.lt_of_lt_of_le (Heap.lt_size e) (I.ok.cab x c hfn hc)))).trans e1⟩
  ·obtain ⟨o',e1⟩:=I.base.there b o e hx
   exact ⟨o',(hs.2 b (Nat.ne_of_lt (Nat.lt_of_lt_of_le (Heap.lt_size e) (I.ok.cab x c hfn hc)))).trans e1⟩
  ·by_cases hj:j=i
   ·subst hj
    rw [hi] at e1; cases e1
    rw [List.getElem?_set_self hiσ] at e2
    cases e2
    exact ⟨u,r, .inr ⟨.inl hk,c,hc,hc'⟩⟩
   ·rw [List.getElem?_set_ne (Ne.symm hj)] at e2
    obtain ⟨u',r',q⟩:=hl j y v' e1 e2 e3
    refine ⟨u',r', ?_⟩
    rcases q with q | ⟨k,c',e,z'⟩
    ·exact .inl q
    ·refine .inr ⟨k,c',e,z'.sameBut hs ?_⟩
     rintro rfl
     exact hj (UP hN e1 (I.ok.inj _ _ _ e hc ▸ hi))
  ·by_cases hcc:c' =c
   ·subst hcc; exact ⟨_,hc'⟩
   ·obtain ⟨w2,z2⟩:=I.cell y c' e
    exact ⟨w2,z2.sameBut hs hcc⟩
  ·obtain ⟨e,n,ne,nf,d⟩:=I.pin p hp
   refine ⟨(hs.2 p.1 ?_).trans e,n,ne,nf,d⟩
   intro q
   rw [q,hoc] at e
   have q' :oc=p.2:=Option.some.inj e
   exact d w' (by rw [← q']; exact hocd)
theorem Wm {M:Model} {A:Around} {E:Value->Shared->Prop} {i:Nat} {x:Str} {v:V} {u:Value} {Q:Unit->Shared->Prop} (I:Inv X pins σ H s) (hN:X.N.Nodup) (hi:X.N[i]? =some x) (hx:Loc X.env.scope x) (r:jc v u)
  (h:∀ s',Inv X pins (σ.set i (some v)) H s' ->Q () s') (hf:X.fn x=true\/X.env.scope.names.lookup x=some .local:=by first | exact .inl rfl | exact .inr rfl | assumption):wpAny M A (storeName X.env x u) Q E s:=
 yJ I hN hi hx r (fun s' I' _=>h s' I') hf
theorem Inv.call' {s' :Shared} {ch:List Addr} (I:Inv X pins σ H s) (ho:s'.os=s.os) (u:Un (frs X.stack) ch H H' s.heap s'.heap) (hok:HOk X.prog X.w H' s'.heap) (hg:AllBare s'.gens)
  (hch:∀ b∈ch,(b∈X.ex\/X.s₀.heap.objs.size<=b)/\b ≠ X.env.locals/\(∀ x c,X.env.cells.lookup x=some c->c ≠ b)/\∀ p∈X.pn++pins,p.1 ≠ b):Inv X pins σ H' s' :=by
 obtain ⟨h',g',d',t',o'⟩:=s'
 have e:o' =s.os:=ho
 subst e
 exact I.call (g' :=g') (t' :=t') (d' :=d') u hok hg hch
end
noncomputable abbrev XK:=Value->Option Addr->Hp->Prop
noncomputable abbrev St:=List (Option V)
noncomputable abbrev VK:=V->Hp->Prop
noncomputable abbrev TE:=St->Hp->VK->Prop
noncomputable abbrev TT:=St->Hp->(Bool->Hp->Prop)->Prop
noncomputable abbrev TA:=St->Hp->(List V->Hp->Prop)->Prop
structure xE where
 nx:St->Hp->Prop
 rt:VK
 bk:St->Hp->Prop:=fun _ _=>False
 ct:St->Hp->Prop:=fun _ _=>False
noncomputable abbrev TS:=xE->St->Hp->Prop
noncomputable def EP (X:Cx) (pins:List (Addr×Obj)) (σ:St) (Q:VK) (u:Value) (s' :Shared):Prop:=∃ v H',Inv X pins σ H' s' /\jc v u/\Q v H'
noncomputable def TP (X:Cx) (pins:List (Addr×Obj)) (σ:St) (Q:Bool->Hp->Prop) (b:Bool) (s' :Shared):Prop:=∃ H',Inv X pins σ H' s' /\Q b H'
noncomputable def AP (X:Cx) (pins:List (Addr×Obj)) (σ:St) (Q:List V->Hp->Prop) (us:List Value) (s' :Shared):Prop:=∃ vs H',Inv X pins σ H' s' /\ZM vs us/\Q vs H'
noncomputable def SP (X:Cx) (pins:List (Addr×Obj)) (D:xE) (f:Flow) (s' :Shared):Prop:=
 match f with
 | .next=>∃ σ' H',Inv X pins σ' H' s' /\D.nx σ' H'
 | .brk=>∃ σ' H',Inv X pins σ' H' s' /\D.bk σ' H'
 | .cont=>∃ σ' H',Inv X pins σ' H' s' /\D.ct σ' H'
 | .ret u=>∃ v σ' H',Inv X pins σ' H' s' /\jc v u/\D.rt v H'
noncomputable def PE (X:Cx) (e:Expr) (t:TE):Prop:=
 ∀ (pins:List (Addr×Obj)) (s:Shared) (σ:St) (H:Hp) (Q:VK),Inv X pins σ H s->t σ H Q->wpAny (model X.prog X.w) X.A (eval e X.env) (EP X pins σ Q) X.xe s
noncomputable def PT (X:Cx) (e:Expr) (t:TT):Prop:=
 ∀ (pins:List (Addr×Obj)) (s:Shared) (σ:St) (H:Hp) (Q:Bool->Hp->Prop),Inv X pins σ H s->t σ H Q->wpAny (model X.prog X.w) X.A (isTrue e X.env (eval e X.env)) (TP X pins σ Q) X.xe s
noncomputable def PW (X:Cx) (e:Expr) (t:TT):Prop:=
 ∀ (whole:Sem Value) (pins:List (Addr×Obj)) (s:Shared) (σ:St) (H:Hp) (Q:Bool->Hp->Prop),Inv X pins σ H s->t σ H Q->wpAny (model X.prog X.w) X.A (isTrue e X.env whole) (TP X pins σ Q) X.xe s
theorem PW.pt {X:Cx} {e:Expr} {t:TT} (h:PW X e t):PT X e t:=h _
noncomputable def PA (X:Cx) (es:List Expr) (t:TA):Prop:=
 ∀ (pos:Pos) (pins:List (Addr×Obj)) (s:Shared) (σ:St) (H:Hp) (Q:List V->Hp->Prop),Inv X pins σ H s->t σ H Q->wpAny (model X.prog X.w) X.A (spliced (backTo pos (starEach es X.env))) (AP X pins σ Q) X.xe s
noncomputable def PS (X:Cx) (st:Stmt) (t:TS):Prop:=
 ∀ (pins:List (Addr×Obj)) (s:Shared) (σ:St) (H:Hp) (D:xE),Inv X pins σ H s->t D σ H->wpAny (model X.prog X.w) X.A (exec st X.env) (SP X pins D) X.xe s
noncomputable def PSs (X:Cx) (st:List Stmt) (t:TS):Prop:=
 ∀ (pins:List (Addr×Obj)) (s:Shared) (σ:St) (H:Hp) (D:xE),Inv X pins σ H s->t D σ H->wpAny (model X.prog X.w) X.A (execs st X.env) (SP X pins D) X.xe s
theorem thn {α:Type} {t:Sem α} {Q Q' :α->Shared->Prop} {M:Model} {A:Around} {E:Value->Shared->Prop} {s:Shared} (h:wpAny M A t Q E s) (hQ:∀ a s,Q a s->Q' a s):wpAny M A t Q' E s:=wpAny_mono h hQ fun _ _ x=>x
end L2
namespace L2
open PySem PySem.Spec PyProof.Rows
section
variable {X:Cx}
theorem bin {a b:Expr} {ta tb:TE} (ha:PE X a ta) (hb:PE X b tb) {pins:List (Addr×Obj)} {s:Shared} {σ:St} {H:Hp} {R:V->V->Hp->Prop} (I:Inv X pins σ H s) (h:ta σ H fun x H1=>tb σ H1 fun y H2=>R x y H2)
  {α:Type} {Q:α->Shared->Prop} {f:Value->Value->Sem α}
  (hf:∀ v u s2 x y H2,Inv X pins σ H2 s2->jc x v->jc y u->R x y H2->wpAny (model X.prog X.w) X.A (f v u) Q X.xe s2):
  wpAny (model X.prog X.w) X.A (eval a X.env) (fun v s₁=>wpAny (model X.prog X.w) X.A (eval b X.env) (fun u s₂=>wpAny (model X.prog X.w) X.A (f v u) Q X.xe s₂) X.xe s₁) X.xe s:=by
 refine thn (ha pins s σ H _ I h) fun v s1 ⟨x,H1,I1,r1,q1⟩=> ?_
 refine thn (hb pins s1 σ H1 _ I1 q1) fun u s2 ⟨y,H2,I2,r2,q2⟩=> ?_
 exact hf v u s2 x y H2 I2 r1 r2 q2
noncomputable def vi (i:Nat):TE:=fun σ H Q=>∃ v,σ[i]? =some (some v)/\Q v H
noncomputable def tC (v:V):TE:=fun _ H Q=>Q v H
theorem XG {i:Nat} {x:Str} {pos:Pos} (hN:X.N[i]? =some x) (hv:Vis X.env.scope x) (hd:(x == ("__debug__":Str))=false:=by decide) (hcd:(x == ("__classdict__":Str))=false:=by decide):PE X (.Name x pos) (vi i):=by
 intro pins s σ H Q I h
 obtain ⟨v,e,h⟩:=h
 obtain ⟨m,hn,hl⟩:=I.loc
 obtain ⟨u,r,l⟩:=hl i x v hN e hv
 have fin:EP X pins σ Q u s:=⟨v,H,I,r,h⟩
 rcases l with ⟨hk,hm⟩ | ⟨hk,c,hc,hcell⟩
 ·exact wpAny_Name (wpAny_loadName_local I.ok.kind hk hn hm fin) hd
 ·rcases hk with hk | hk
  ·exact wpAny_Name (wpAny_loadName_cell I.ok.kind hk hc hcell fin) hd
  ·exact wpAny_Name (wpAny_loadName_free I.ok.kind hk hc hcell fin hcd) hd
theorem gv {i j pos}:PE X (.Constant (.int i) j pos) (tC (.int i)):=fun _ _ _ H _ I h=>wpAny_Constant_int ⟨.int i,H,I.tok _,⟨_,rfl⟩,h⟩
theorem z0s {b j pos}:PE X (.Constant (.bool b) j pos) (tC (.bl b)):=fun _ _ _ H _ I h=>Constant_bool ⟨.bl b,H,I,rfl,h⟩
theorem XH {j pos}:PE X (.Constant .none j pos) (tC .non):=fun _ _ _ H _ I h=>Constant_none ⟨.non,H,I,rfl,h⟩
theorem XI {x j pos}:PE X (.Constant (.str x) j pos) (tC (.str x)):=fun _ _ _ H _ I h=>Calls.Constant_str ⟨.str x,H,I.tok _,⟨_,rfl⟩,h⟩
noncomputable def Gl (X:Cx) (x:Str):Prop:=X.env.kindOf x=some .globalImplicit
theorem UQ {E:Value->Shared->Prop} {pins:List (Addr×Obj)} {s:Shared} {σ:St} {H:Hp} {x:Str} {u:Value} {pos:Pos} {Q:Value->Shared->Prop} (I:Inv X pins σ H s) (hg:Gl X x) (hm:X.mg x=some u) (h:Q u s)
  (hd:(x == ("__debug__":Str))=false:=by decide):wpAny (model X.prog X.w) X.A (eval (.Name x pos) X.env) Q E s:=
 Calls.Name_function_global I.ok.kind hg (Calls.loadGlobal_global (by rw [I.ok.glob]; exact I.mod.glob.keeps I.bk) hm h) hd
theorem u6 {E:Value->Shared->Prop} {pins:List (Addr×Obj)} {s:Shared} {σ:St} {H:Hp} {x:Str} {u:Value} {pos:Pos} {Q:Value->Shared->Prop} (I:Inv X pins σ H s) (hg:Gl X x) (hm:X.mg x=none) (hv:bootBuiltins x=some u) (h:Q u s)
  (hn:x ≠ "__name__":=by decide) (hd:(x == ("__debug__":Str))=false:=by decide):wpAny (model X.prog X.w) X.A (eval (.Name x pos) X.env) Q E s:=by
 obtain ⟨mb,h1,h2⟩:=I.mod.blt
 exact Calls.Name_function_global I.ok.kind hg (Calls.loadGlobal_builtin (by rw [I.ok.glob]; exact I.mod.glob.keeps I.bk) hm (by rw [I.ok.blt]; exact h1.keeps I.bk) ((h2 x hn).trans hv) h) hd
theorem vj {x:Str} {v:V} {u:Value} {pos:Pos} (hg:Gl X x) (hm:X.mg x=some u) (r:jc v u) (hd:(x == ("__debug__":Str))=false:=by decide):PE X (.Name x pos) (tC v):=
 fun _ _ _ H _ I h=>UQ I hg hm ⟨v,H,I,r,h⟩ hd
theorem vk {x:Str} {v:V} {u:Value} {pos:Pos} (hg:Gl X x) (hm:X.mg x=none) (hv:bootBuiltins x=some u) (r:jc v u) (hn:x ≠ "__name__":=by decide) (hd:(x == ("__debug__":Str))=false:=by decide):PE X (.Name x pos) (tC v):=
 fun _ _ _ H _ I h=>u6 I hg hm hv ⟨v,H,I,r,h⟩ hn hd
variable {a b:Expr} {ta tb:TE} {pos:Pos}
variable {tA tB' :TT} {rest:List Expr}
noncomputable def tAnd (t u:TT):TT:=fun σ H Q=>t σ H fun c H1=>if c=true then u σ H1 Q else Q false H1
noncomputable def tOr (t u:TT):TT:=fun σ H Q=>t σ H fun c H1=>if c=true then Q true H1 else u σ H1 Q
noncomputable def tNot (t:TT):TT:=fun σ H Q=>t σ H fun c H1=>Q (!c) H1
theorem ko (ha:PT X a tA):PW X (.BoolOp .And [a] pos) tA:=by
 intro wh pins s σ H Q I h
 refine isTrue_and (thn (ha pins s σ H Q I h) fun c s1 e=> ?_)
 cases c with
 | true=>exact isTrue_and_nil e
 | false=>exact e
theorem gw (ha:PT X a tA):PW X (.BoolOp .Or [a] pos) tA:=by
 intro wh pins s σ H Q I h
 refine isTrue_or (thn (ha pins s σ H Q I h) fun c s1 e=> ?_)
 cases c with
 | false=>exact isTrue_or_nil e
 | true=>exact e
theorem gy (ha:PT X a tA) (hb:PW X (.BoolOp .And (b :: rest) pos) tB'):PW X (.BoolOp .And (a :: b :: rest) pos) (tAnd tA tB'):=by
 intro wh pins s σ H Q I h
 refine isTrue_and (thn (ha pins s σ H _ I h) fun c s1 ⟨H1,I1,q1⟩=> ?_)
 cases c with
 | true=>exact hb wh pins s1 σ H1 Q I1 q1
 | false=>exact ⟨H1,I1,q1⟩
theorem z0t (ha:PT X a tA) (hb:PW X (.BoolOp .Or (b :: rest) pos) tB'):PW X (.BoolOp .Or (a :: b :: rest) pos) (tOr tA tB'):=by
 intro wh pins s σ H Q I h
 refine isTrue_or (thn (ha pins s σ H _ I h) fun c s1 ⟨H1,I1,q1⟩=> ?_)
 cases c with
 | true=>exact ⟨H1,I1,q1⟩
 | false=>exact hb wh pins s1 σ H1 Q I1 q1
theorem gz (ha:PT X a tA):PT X (.UnaryOp .Not a pos) (tNot tA):=by
 intro pins s σ H Q I h
 exact isTrue_not (ha pins s σ H (fun c H1=>Q (!c) H1) I h)
noncomputable def z0u (ta tb:TE):TE:=fun σ H Q=>ta σ H fun x H1=>∃ c,x= .bl c/\if c=true then tb σ H1 Q else Q (.bl false) H1
noncomputable def tOrV (ta tb:TE):TE:=fun σ H Q=>ta σ H fun x H1=>∃ c,x= .bl c/\if c=true then Q (.bl true) H1 else tb σ H1 Q
noncomputable def z0v (ta:TE):TE:=fun σ H Q=>ta σ H fun x H1=>∃ c,x= .bl c/\Q (.bl (!c)) H1
theorem gA {op} {t:TE} (h:PE X a t):PE X (.BoolOp op [a] pos) t:=fun pins s σ H Q I hw=>BoolOp_one (h pins s σ H Q I hw)
theorem gB (ha:PE X a ta) (hb:PE X (.BoolOp .And (b :: rest) pos) tb):PE X (.BoolOp .And (a :: b :: rest) pos) (z0u ta tb):=by
 intro pins s σ H Q I h
 refine BoolOp_and (thn (ha pins s σ H _ I h) fun v s1 ⟨x,H1,I1,r1,q1⟩=> ?_)
 obtain ⟨c,rfl,q1⟩:=q1
 cases r1
 refine wpAny_truthy_bool ?_
 cases c with
 | true=>exact hb pins s1 σ H1 Q I1 q1
 | false=>exact ⟨.bl false,H1,I1,rfl,q1⟩
theorem z0w (ha:PE X a ta) (hb:PE X (.BoolOp .Or (b :: rest) pos) tb):PE X (.BoolOp .Or (a :: b :: rest) pos) (tOrV ta tb):=by
 intro pins s σ H Q I h
 refine BoolOp_or (thn (ha pins s σ H _ I h) fun v s1 ⟨x,H1,I1,r1,q1⟩=> ?_)
 obtain ⟨c,rfl,q1⟩:=q1
 cases r1
 refine wpAny_truthy_bool ?_
 cases c with
 | false=>exact hb pins s1 σ H1 Q I1 q1
 | true=>exact ⟨.bl true,H1,I1,rfl,q1⟩
theorem gC (ha:PE X a ta):PE X (.UnaryOp .Not a pos) (z0v ta):=by
 intro pins s σ H Q I h
 refine UnaryOp_ (thn (ha pins s σ H _ I h) fun v s1 ⟨x,H1,I1,r1,q1⟩=> ?_)
 obtain ⟨c,rfl,q1⟩:=q1
 cases r1
 exact not_of (wpAny_truthy_bool ⟨.bl (!c),H1,I1,rfl,q1⟩)
noncomputable def tIf (t:TT) (ta tb:TE):TE:=fun σ H Q=>t σ H fun c H1=>if c=true then ta σ H1 Q else tb σ H1 Q
theorem xF {c:Expr} (hc:PT X c tA) (ha:PE X a ta) (hb:PE X b tb):PE X (.IfExp c a b pos) (tIf tA ta tb):=by
 intro pins s σ H Q I h
 refine wpAny_IfExp (thn (hc pins s σ H _ I h) fun d s1 ⟨H1,I1,q1⟩=> ?_)
 cases d with
 | true=>exact ha pins s1 σ H1 Q I1 q1
 | false=>exact hb pins s1 σ H1 Q I1 q1
end
end L2
namespace L2
open PySem PySem.Spec PyProof.Rows
noncomputable def SqL (K:PySem.W.Frag) (H:Hp) (a:Addr) (xs:List V):Prop:=
 Rd H a (.lst xs)\/
  ∃ (o:Obj) (its:Array Value) (n:Nat),K.lookup a=some o/\o.cls= .type "list"/\o.dict=none/\o.data= .seq its n/\its.size<=sizeLine/\ZM xs its.toList
noncomputable def SqT (K:PySem.W.Frag) (H:Hp) (a:Addr) (xs:List V):Prop:=
 Rd H a (.tup xs)\/
  ∃ (o:Obj) (its:Array Value) (n:Nat),K.lookup a=some o/\o.cls= .type "tuple"/\o.data= .seq its n/\its.size<=sizeLine/\ZM xs its.toList
noncomputable def absV:Value->Option V
 | .none=>some .non
 | .bool b=>some (.bl b)
 | .int i _=>some (.int i)
 | .str x _=>some (.str x)
 | .bytes b _=>some (.byt b)
 | .float b _=>some (.flt b)
 | .ref a=>some (.ref a)
 | .type n=>some (.ty n)
 | _=>none
theorem jc.abs {x:V} {u:Value} (r:jc x u):absV u=some x:=by
 cases x with
 | non=>cases r; rfl
 | bl _=>cases r; rfl
 | int _=>obtain ⟨t,rfl⟩:=r; rfl
 | str _=>obtain ⟨t,rfl⟩:=r; rfl
 | byt _=>obtain ⟨t,rfl⟩:=r; rfl
 | flt _=>obtain ⟨t,rfl⟩:=r; rfl
 | ref _=>cases r; rfl
 | ty _=>cases r; rfl
theorem jc.inj {x y:V} {u:Value} (r:jc x u) (q:jc y u):x=y:=Option.some.inj (r.abs.symm.trans q.abs)
theorem ZM.inj:∀ {xs ys:List V} {us:List Value},ZM xs us->ZM ys us->xs=ys
 | _,_,_, .nil, .nil=>rfl
 | _,_,_, .cons r t, .cons r' t' =>by rw [r.inj r',ZM.inj t t']
section
variable {X:Cx} {pins:List (Addr×Obj)} {σ:St} {H:Hp} {s:Shared} {a:Addr} {xs ys:List V}
theorem SqL.of {K:PySem.W.Frag} (h:H a=some (.lst xs)):SqL K H a xs:= .inl (.inl h)
theorem SqT.of {K:PySem.W.Frag} (h:H a=some (.tup xs)):SqT K H a xs:= .inl (.inl h)
theorem Inv.list (I:Inv X pins σ H s) (h:SqL X.K H a xs):∃ its:List Value,ZM xs its/\PlainL s.heap a its.toArray/\xs.length<=sizeLine:=by
 rcases h with h | ⟨o,its,n,hk,hc,hd,hs,hz,r⟩
 ·obtain ⟨z,its,n,r,e⟩:=h.ok I.hok
  exact ⟨its,r,⟨_,n,e,rfl,rfl,rfl⟩,z⟩
 ·refine ⟨its.toList,r,⟨o,n,I.kIn a o hk,hc,hd,by simpa using hs⟩, ?_⟩
  have e:=r.length
  simp only [Array.length_toList] at e
  omega
theorem Inv.tuple (I:Inv X pins σ H s) (h:SqT X.K H a xs):∃ its:List Value,ZM xs its/\IsTup s.heap a its.toArray/\xs.length<=sizeLine:=by
 rcases h with h | ⟨o,its,n,hk,hc,hs,hz,r⟩
 ·obtain ⟨z,its,r,p⟩:=h.ok I.hok
  exact ⟨its,r,p,z⟩
 ·refine ⟨its.toList,r,⟨o,I.kIn a o hk,hc,n,by simpa using hs⟩, ?_⟩
  have e:=r.length
  simp only [Array.length_toList] at e
  omega
theorem Inv.list_inj (I:Inv X pins σ H s) (h:SqL X.K H a xs) (h' :SqL X.K H a ys):xs=ys:=by
 obtain ⟨its,r,⟨o,n,e,_,_,d⟩,_⟩:=I.list h
 obtain ⟨its',r',⟨o',n',e',_,_,d'⟩,_⟩:=I.list h'
 rw [e] at e'; cases e'
 rw [d] at d'
 injection d' with d1 _
 have:its=its' :=by simpa using congrArg Array.toList d1
 subst this
 exact r.inj r'
theorem Inv.tuple_inj (I:Inv X pins σ H s) (h:SqT X.K H a xs) (h' :SqT X.K H a ys):xs=ys:=by
 obtain ⟨its,r,⟨o,e,_,n,d⟩,_⟩:=I.tuple h
 obtain ⟨its',r',⟨o',e',_,n',d'⟩,_⟩:=I.tuple h'
 rw [e] at e'; cases e'
 rw [d] at d'
 injection d' with d1 _
 have:its=its' :=by simpa using congrArg Array.toList d1
 subst this
 exact r.inj r'
end
noncomputable abbrev Cx.wish (X:Cx) (E:Value->Shared->Prop):Cx:={ X with xe:=E }
noncomputable abbrev Cx.nox (X:Cx):Cx:=X.wish fun _ _=>False
theorem Cx.Ok.wish {X:Cx} (ok:X.Ok) (E:Value->Shared->Prop):(X.wish E).Ok:=
 ⟨ok.mod,ok.kind,ok.glob,ok.blt,ok.above,ok.inj,ok.has,ok.cab,ok.hd,ok.frames,ok.stk,ok.exf,ok.bs,ok.bsz,ok.noex,ok.exfs,ok.funs,ok.frf⟩
theorem Cx.Ok.unwish {X:Cx} {E:Value->Shared->Prop} (ok:(X.wish E).Ok):X.Ok:=
 ⟨ok.mod,ok.kind,ok.glob,ok.blt,ok.above,ok.inj,ok.has,ok.cab,ok.hd,ok.frames,ok.stk,ok.exf,ok.bs,ok.bsz,ok.noex,ok.exfs,ok.funs,ok.frf⟩
section
variable {X:Cx} {pins:List (Addr×Obj)} {σ:St} {H:Hp} {s:Shared} {E:Value->Shared->Prop}
theorem Inv.wish (I:Inv X pins σ H s) (E:Value->Shared->Prop):Inv (X.wish E) pins σ H s:=⟨I.ok.wish E,I.os,I.bare,I.base,I.loc,I.cell,I.free,I.freeC,I.pin,I.hok,I.len⟩
theorem Inv.unwish (I:Inv (X.wish E) pins σ H s):Inv X pins σ H s:=⟨I.ok.unwish,I.os,I.bare,I.base,I.loc,I.cell,I.free,I.freeC,I.pin,I.hok,I.len⟩
theorem SP.unwish {D:xE} {f:Flow} {s' :Shared} (h:SP (X.wish E) pins D f s'):SP X pins D f s' :=by
 cases f with
 | next=>obtain ⟨σ',H',I,q⟩:=h; exact ⟨σ',H',I.unwish,q⟩
 | brk=>obtain ⟨σ',H',I,q⟩:=h; exact ⟨σ',H',I.unwish,q⟩
 | cont=>obtain ⟨σ',H',I,q⟩:=h; exact ⟨σ',H',I.unwish,q⟩
 | ret u=>obtain ⟨v,σ',H',I,r,q⟩:=h; exact ⟨v,σ',H',I.unwish,r,q⟩
theorem PSs.nox {st:List Stmt} {t:TS} (h:PSs X.nox st t):PSs X st t:=fun pins s σ H D I hw=>
 wpAny_mono (h pins s σ H D (I.wish _) hw) (fun _ _ q=>q.unwish) fun _ _ z=>False.elim z
end
section
variable {X:Cx} {st:Stmt} {rest:List Stmt} {t u:TS} {e:Expr} {te:TE} {pos:Pos}
noncomputable def z0x:TS:=fun D σ H=>D.nx σ H
noncomputable def tSeq (t u:TS):TS:=fun D σ H=>t { D with nx:=u D } σ H
theorem kq:PSs X [] z0x:=fun _ _ σ H _ I h=>wpAny_execs_nil ⟨σ,H,I,h⟩
theorem xG (h1:PS X st t) (h2:PSs X rest u):PSs X (st :: rest) (tSeq t u):=by
 intro pins s σ H D I h
 refine wpAny_execs_cons (thn (h1 pins s σ H { D with nx:=u D } I h) fun f s1 q=> ?_)
 cases f with
 | next=>
  obtain ⟨σ',H',I',q⟩:=q
  exact h2 pins s1 σ' H' D I' q
 | ret v=>exact q
 | brk=>exact q
 | cont=>exact q
theorem vm (h1:PS X st t):PSs X [st] t:=by
 intro pins s σ H D I h
 refine wpAny_execs_cons (thn (h1 pins s σ H D I h) fun f s1 q=> ?_)
 cases f with
 | next=>exact wpAny_execs_nil q
 | ret v=>exact q
 | brk=>exact q
 | cont=>exact q
theorem Inv.quiet {pins:List (Addr×Obj)} {σ:St} {H:Hp} {s:Shared} (I:Inv X pins σ H s):interactive X.env=false:=by simp [interactive,I.ok.kind]
noncomputable def z0y (te:TE):TS:=fun D σ H=>te σ H fun _ H1=>D.nx σ H1
theorem YM (he:PE X e te) (hs:swapsWith e none pos.line X.env=pure false:=by rfl):PS X (.Expr e pos) (z0y te):=by
 intro pins s σ H D I h
 exact wpAny_Expr_any (thn (he pins s σ H _ I h) fun v s1 ⟨x,H1,I1,r1,q1⟩=>⟨σ,H1,I1,q1⟩) I.quiet hs
noncomputable def tRet (te:TE):TS:=fun D σ H=>te σ H D.rt
theorem gD (he:PE X e te):PS X (.Return (some e) pos) (tRet te):=by
 intro pins s σ H D I h
 exact wpAny_Return_some (thn (he pins s σ H _ I h) fun v s1 ⟨x,H1,I1,r1,q1⟩=>⟨x,σ,H1,I1,r1,q1⟩)
noncomputable def tIfS (c:TT) (t u:TS):TS:=fun D σ H=>c σ H fun b H1=>if b=true then t D σ H1 else u D σ H1
theorem z0z {c:Expr} {a b:List Stmt} {tc:TT} (hc:PT X c tc) (ha:PSs X a t) (hb:PSs X b u):PS X (.If c a b pos) (tIfS tc t u):=by
 intro pins s σ H D I h
 refine wpAny_If (thn (hc pins s σ H _ I h) fun d s1 ⟨H1,I1,q1⟩=> ?_)
 cases d with
 | true=>exact ha pins s1 σ H1 D I1 q1
 | false=>exact hb pins s1 σ H1 D I1 q1
end
noncomputable abbrev TG:=V->St->Hp->(St->Hp->Prop)->Prop
noncomputable abbrev TGs:=List V->St->Hp->(St->Hp->Prop)->Prop
noncomputable def PG (X:Cx) (target:Expr) (t:TG):Prop:=
 ∀ (pins:List (Addr×Obj)) (s:Shared) (σ:St) (H:Hp) (v:V) (u:Value) (Q:St->Hp->Prop),Inv X pins σ H s->jc v u->t v σ H Q->
  wpAny (model X.prog X.w) X.A (assign target X.env u) (fun _ s' =>∃ σ' H',Inv X pins σ' H' s' /\Q σ' H') X.xe s
noncomputable def PGs (X:Cx) (ts:List Expr) (t:TGs):Prop:=
 ∀ (pins:List (Addr×Obj)) (s:Shared) (σ:St) (H:Hp) (vs:List V) (us:List Value) (Q:St->Hp->Prop),Inv X pins σ H s->ZM vs us->t vs σ H Q->
  wpAny (model X.prog X.w) X.A (assignInOrder ((assignEach ts X.env).map (·.2)) us) (fun _ s' =>∃ σ' H',Inv X pins σ' H' s' /\Q σ' H') X.xe s
section
variable {X:Cx} {pos:Pos}
noncomputable def Qu (i:Nat):TG:=fun v σ H Q=>Q (σ.set i (some v)) H
theorem Z1 {i:Nat} {x:Str} (hN:X.N.Nodup) (hi:X.N[i]? =some x) (hx:Loc X.env.scope x) (hf:X.fn x=true\/X.env.scope.names.lookup x=some .local:=by first | exact .inl rfl | exact .inr rfl | assumption):PG X (.Name x pos) (Qu i):=by
 intro pins s σ H v u Q I r h
 exact wpAny_assign_Name (Wm I hN hi hx r (fun s' I' =>⟨_,H,I',h⟩) hf)
noncomputable def gNil:TGs:=fun vs σ H Q=>vs=[]/\Q σ H
noncomputable def kr (t:TG) (u:TGs):TGs:=fun vs σ H Q=>∃ v r,vs=v :: r/\t v σ H fun σ' H' =>u r σ' H' Q
theorem UR:PGs X [] gNil:=by
 intro pins s σ H vs us Q I r h
 obtain ⟨e,h⟩:=h
 subst e
 cases r
 exact assignInOrder_nil ⟨σ,H,I,h⟩
theorem Jn {e:Expr} {es:List Expr} {t:TG} {u:TGs} (h1:PG X e t) (h2:PGs X es u)
  (hs:(assignEach (e :: es) X.env).map (·.2)=assign e X.env :: (assignEach es X.env).map (·.2):=by rfl):PGs X (e :: es) (kr t u):=by
 intro pins s σ H vs us Q I r h
 obtain ⟨v,vr,e1,h⟩:=h
 subst e1
 cases r with
 | cons r rr=>
  rw [hs]
  refine assignInOrder_cons (thn (h1 pins s σ H _ _ _ I r h) fun _ s1 ⟨σ1,H1,I1,q1⟩=> ?_)
  exact h2 pins s1 σ1 H1 _ _ Q I1 rr q1
noncomputable def gTup (K:PySem.W.Frag) (n:Nat) (t:TGs):TG:=fun v σ H Q=>∃ a xs,v= .ref a/\SqT K H a xs/\xs.length=n/\t xs σ H Q
theorem qK {es:List Expr} {k:Nat} {t:TGs} {n:Nat} (hc:X.calm=true) (h:PGs X es t)
  (hn:(assignEach es X.env).length=n:=by rfl) (hst:(assignEach es X.env).findIdx? (·.1)=none:=by rfl):PG X (.Tuple es k pos) (gTup X.K n t):=by
 intro pins s σ H v u Q I r hw
 obtain ⟨a,xs,e1,hq,hl,hw⟩:=hw
 subst e1
 cases r
 obtain ⟨its,rv,ht,hz⟩:=I.tuple hq
 refine assign_Tuple_tuple (I.ok.hd hc) ht (by simp [hn,← hl,rv.length]) hst fun h' hx=> ?_
 have I1:Inv X pins σ H { s with heap:=h' }:=I.kept (t' :=s.toks) fun b o e=>hx b o (Nat.ne_of_lt (Heap.lt_size e)) e
 exact h pins _ σ H xs _ Q I1 (by simpa using rv) hw
noncomputable def tAsg (te:TE) (g:TG):TS:=fun D σ H=>te σ H fun x H1=>g x σ H1 D.nx
theorem qL {i:Nat} {x:Str} {e:Expr} {te:TE} {pos' :Pos} (hN:X.N.Nodup) (hi:X.N[i]? =some x) (hx:Loc X.env.scope x) (he:PE X e te) (hs:swapsWith e (some (.Name x pos')) pos.line X.env=pure false:=by rfl) (hf:X.fn x=true\/X.env.scope.names.lookup x=some .local:=by first | exact .inl rfl | exact .inr rfl | assumption):
  PS X (.Assign [.Name x pos'] e pos) (tAsg te (Qu i)):=by
 intro pins s σ H D I h
 refine wpAny_Assign_Name (thn (he pins s σ H _ I h) fun v s1 ⟨y,H1,I1,r1,q1⟩=> ?_) hs
 exact Wm I1 hN hi hx r1 (fun s2 I2=>⟨_,H1,I2,q1⟩) hf
noncomputable def tPar (i j:Nat) (ta:TA):TS:=fun D σ H=>ta σ H fun vs H1=>∃ v w,vs=[v,w]/\D.nx ((σ.set i (some v)).set j (some w)) H1
theorem gE {i j:Nat} {x y:Str} {a b:Expr} {ta:TA} {px py pt:Pos} {kt k2 pt2} (hc:X.calm=true) (hN:X.N.Nodup) (hi:X.N[i]? =some x) (hj:X.N[j]? =some y) (hij:i ≠ j)
  (hx:X.env.scope.names.lookup x=some .local) (hy:X.env.scope.names.lookup y=some .local) (ha:PA X [a,b] ta)
  (hw:swappedStores [.Tuple [.Name x px, .Name y py] kt pt] (.Tuple [a,b] k2 pt2) X.env=pure (some [x,y]))
  (hs:swapsWithSole [.Tuple [.Name x px, .Name y py] kt pt] (.Tuple [a,b] k2 pt2) pos.line X.env=pure false:=by rfl):
  PS X (.Assign [.Tuple [.Name x px, .Name y py] kt pt] (.Tuple [a,b] k2 pt2) pos) (tPar i j ta):=by
 intro pins s σ H D I h
 rw [exec_Assign_arm]
 refine wpAny_bind (wpAny_standAt ?_)
 rw [hs]
 refine wpAny_bind (wpAny_pure ?_)
 rw [if_neg (by decide)]
 refine wpAny_bind (Tuple_ (thn (ha _ pins s σ H _ I h) fun us s1 ⟨vs,H1,I1,r1,q1⟩=> ?_))
 obtain ⟨v,w,e1,q1⟩:=q1
 subst e1
 obtain ⟨u1,u2,rfl,rv,rw'⟩:∃ u1 u2,us=[u1,u2]/\jc v u1/\jc w u2:=by
  cases r1 with
  | cons p q=>
   cases q with
   | cons p' q' =>
    cases q'
    exact ⟨_,_,rfl,p,p'⟩
 refine wpAny_newObj_type ?_ (by show 2<=sizeLine; decide)
 have I2:Inv X pins σ H1 { s1 with heap:=s1.heap.push { cls:= .type "tuple",data:= .seq [u1,u2].toArray } }:=I1.kept (t' :=s1.toks) fun b o e=>Heap.get?_push_of_some _ e
 rw [hw]
 refine wpAny_bind (wpAny_pure ?_)
 show wpAny (model X.prog X.w) X.A (do rule "assign.swapped-stores"; let items ← unpackItems (.ref s1.heap.objs.size) 2 none; assignInOrder [fun v=>bindName X.env y v,fun v=>bindName X.env x v] items.reverse; pure Flow.next) _ _ _
 refine wpAny_bind (wpAny_rule (wpAny_bind (unpackItems_tuple (items:= #[u1,u2]) (I.ok.hd hc) (IsTup.new s1.heap _) fun h' hx' => ?_)))
 have I3:=I2.kept (h' :=h') (t' :=s1.toks) fun b o e=>hx' b o (Nat.ne_of_lt (Heap.lt_size e)) e
 show wpAny _ _ (assignInOrder [fun v=>bindName X.env y v,fun v=>bindName X.env x v] [u2,u1] >>= fun _=>pure Flow.next) _ _ _
 refine wpAny_bind (assignInOrder_cons (wpAny_bindName (Wm I3 hN hj (.inl hy) rw' (fun s2 I4=> ?_) (.inr hy))))
 refine assignInOrder_cons (wpAny_bindName (Wm I4 hN hi (.inl hx) rv (fun s3 I5=>assignInOrder_nil (wpAny_pure ?_)) (.inr hx)))
 rw [List.set_comm _ _ (Ne.symm hij)] at I5
 exact ⟨_,H1,I5,q1⟩
end
section
variable {X:Cx} {pos:Pos}
end
structure It where
 go:Nat->Hp->Prop
 yld:Nat->Hp->V->Hp->Prop
 stop:Nat->Hp->Prop
noncomputable def YI (X:Cx) (pins:List (Addr×Obj)) (H:Hp) (b:Addr):Prop:=
 H b=none/\b ≠ X.env.locals/\b ∉ X.fs/\(b∈X.ex\/X.s₀.heap.objs.size<=b)/\(∀ x c,X.env.cells.lookup x=some c->c ≠ b)/\∀ p∈X.pn++pins,p.1 ≠ b
theorem Inv.fpOk {X:Cx} {pins:List (Addr×Obj)} {σ:St} {H H' :Hp} {s:Shared} {b:Addr} (I:Inv X pins σ H s) (hb:s.heap.objs.size<=b) (hn:H' b=none):YI X pins H' b:=by
 refine ⟨hn,Nat.ne_of_gt (Nat.lt_of_lt_of_le I.lt hb),I.nofs hb, .inr (Nat.le_trans I.sz hb),fun x c e z=> ?_,fun p hp z=> ?_⟩
 ·obtain ⟨v,q⟩:=I.cell x c e
  exact absurd (Nat.lt_of_lt_of_le q.lt (by rw [z]; exact hb)) (Nat.lt_irrefl _)
 ·exact absurd (Nat.lt_of_lt_of_le (Heap.lt_size (I.pin p hp).1) (by rw [z]; exact hb)) (Nat.lt_irrefl _)
structure xy (P:Program) (w:World) (K:PySem.W.Frag) (tg:Expr) (J:It) (fp:List Addr) (it:Addr) (tn:Nat->Heap->Prop):Prop where
 mem:it∈fp
 obj:∀ i h,tn i h->∀ b∈fp,∃ o,h.get? b=some o/\∀ v,o.data ≠ .cell v
 keep:∀ i h h',tn i h->(∀ b∈fp,∀ o,h.get? b=some o->h'.get? b=some o)->tn i h'
 item:∀ (X:Cx),X.prog=P->X.w=w->X.K=K->X.calm=true->∀ (i:Nat) (pins:List (Addr×Obj)) (s:Shared) (σ:St) (H:Hp) (E:Value->Shared->Prop),Inv X pins σ H s->(∀ b∈fp,YI X pins H b)->tn i s.heap->J.go i H->
  wpAny (model P w) X.A (pyNext (.ref it)) (fun r s1=>∃ u,r=some u/\
   wpAny (model P w) X.A (letOwnedTupleGo tg (.ref it) u) (fun _ s2=>∃ x H',Inv X pins σ H' s2/\jc x u/\J.yld i H x H' /\tn (i+1) s2.heap/\∀ b∈fp,H' b=none) E s1) E s
 done:∀ (X:Cx),X.prog=P->X.w=w->X.K=K->X.calm=true->∀ (i:Nat) (pins:List (Addr×Obj)) (s:Shared) (σ:St) (H:Hp) (E:Value->Shared->Prop),Inv X pins σ H s->(∀ b∈fp,YI X pins H b)->tn i s.heap->J.stop i H->
  wpAny (model P w) X.A (pyNext (.ref it)) (fun r s1=>r=none/\Inv X pins σ H s1) E s
 self:∀ (A:Around) (i:Nat) (s:Shared) (Q:Value->Shared->Prop) (E:Value->Shared->Prop),tn i s.heap->Q (.ref it) s->wpAny (model P w) A (pyIter (.ref it)) Q E s
noncomputable abbrev TI:=St->Hp->(It->Hp->Prop)->Prop
noncomputable def PIE (X:Cx) (pins:List (Addr×Obj)) (σ:St) (tg:Expr) (R:It->Hp->Prop) (itv:Value) (s2:Shared):Prop:=
 ∃ (it:Addr) (fp:List Addr) (tn:Nat->Heap->Prop) (J:It) (H' :Hp),itv= .ref it/\Inv X pins σ H' s2/\xy X.prog X.w X.K tg J fp it tn/\tn 0 s2.heap/\(∀ b∈fp,YI X pins H' b)/\R J H'
noncomputable def PI (X:Cx) (tg iter:Expr) (wi:TI):Prop:=
 ∀ (pins:List (Addr×Obj)) (s:Shared) (σ:St) (H:Hp) (R:It->Hp->Prop),Inv X pins σ H s->wi σ H R->
  wpAny (model X.prog X.w) X.A (eval iter X.env) (fun v s1=>wpAny (model X.prog X.w) X.A (pyIter v) (PIE X pins σ tg R) X.xe s1) X.xe s
theorem xH {M:Model} {A:Around} {E:Value->Shared->Prop} {s:Shared} {tg:Expr} {it:Addr} {u:Value} {o:Obj} {n:String} {vs:Array Value} {Q:Unit->Shared->Prop} (ho:s.heap.get? it=some o) (hc:o.cls= .type n) (hd:o.data= .fields vs)
  (hn:["enumerate","zip","dict_itemiterator","dict_reverseitemiterator","odict_iterator","itertools.zip_longest","itertools.pairwise"].contains n=false) (hQ:Q () s):wpAny M A (letOwnedTupleGo tg (.ref it) u) Q E s:=by
 unfold letOwnedTupleGo
 cases tg <;> first
  | exact wpAny_pure hQ
  | (cases u <;> first
    | exact wpAny_pure hQ
    | (refine wpAny_bind (wpAny_load ho ?_); rw [hc,hd]; show wpAny M A (if (["enumerate","zip","dict_itemiterator","dict_reverseitemiterator","odict_iterator","itertools.zip_longest","itertools.pairwise"].contains n && vs[0]? == some (rawInt _))=true then _ else _) Q E s; rw [if_neg (by intro h; rw [hn,Bool.false_and] at h; cases h)]; exact wpAny_pure hQ))
noncomputable def Itl (K:PySem.W.Frag) (a:Addr):It:=
 ⟨fun i H=>∃ xs x,SqL K H a xs/\xs[i]? =some x,fun i H x H' =>H' =H/\∀ xs,SqL K H a xs->xs[i]? =some x,fun i H=>∃ xs,SqL K H a xs/\xs.length<=i⟩
noncomputable def Itt (K:PySem.W.Frag) (a:Addr):It:=
 ⟨fun i H=>∃ xs x,SqT K H a xs/\xs[i]? =some x,fun i H x H' =>H' =H/\∀ xs,SqT K H a xs->xs[i]? =some x,fun i H=>∃ xs,SqT K H a xs/\xs.length<=i⟩
noncomputable def Itr (lo:Int) (n:Nat):It:=⟨fun i _=>i < n,fun i H x H' =>H' =H/\x= .int (lo+i),fun i _=>n<=i⟩
theorem vn {P:Program} {w:World} {K:PySem.W.Frag} {tg:Expr} (a it:Addr):xy P w K tg (Itl K a) [it] it (fun i h=>h.IsListIter it a i) where
 mem:=by simp
 obj:=fun i h st b hb=>by
  have e:b=it:=by simpa using hb
  subst e
  obtain ⟨o,e,c,d⟩:=st
  exact ⟨o,e,fun v z=>by rw [d] at z; cases z⟩
 keep:=fun i h h' st k=>st.at fun o e=>k it (by simp) o e
 item:=by
  intro X hP hw hK hc i pins s σ H E I hf st hg
  subst hP hw hK
  obtain ⟨xs,x,hq,hx⟩:=hg
  obtain ⟨its,rv,p,hz⟩:=I.list hq
  obtain ⟨u,hu,ru⟩:=rv.get hx
  obtain ⟨f0,f1,f2,f3,f4,f5⟩:=hf it (by simp)
  refine wpAny_pyNext_list_item st p.isList (x:=u) (by simpa using hu) fun h' st' sb=> ?_
  have I1:Inv X pins σ H { s with heap:=h' }:=I.turned (t' :=s.toks) (fun b o hb e=>(sb.2 b hb).trans e) f0 f1 f3 f4 f5
  obtain ⟨o,e,c,d⟩:=id st'
  exact ⟨u,rfl,xH (s:={ s with heap:=h' }) e c d (by decide) ⟨x,H,I1,ru,⟨rfl,fun ys hy=>by rw [I.list_inj hy hq]; exact hx⟩,st',fun b hb=>(hf b hb).1⟩⟩
 done:=by
  intro X hP hw hK hc i pins s σ H E I hf st hg
  subst hP hw hK
  obtain ⟨xs,hq,hx⟩:=hg
  obtain ⟨its,rv,p,hz⟩:=I.list hq
  obtain ⟨f0,f1,f2,f3,f4,f5⟩:=hf it (by simp)
  have hl:=rv.length
  exact wpAny_pyNext_list_end (I.ok.hd hc) st p.isList (by simp; omega) fun h' eb=>⟨rfl,I.turned (t' :=s.toks) (fun b o hb e=>eb b o hb e) f0 f1 f3 f4 f5⟩
 self:=fun _ _ _ _ _ st h=>wpAny_pyIter_listiter st h
theorem Qv {P:Program} {w:World} {K:PySem.W.Frag} {tg:Expr} (a it:Addr):xy P w K tg (Itt K a) [it] it (fun i h=>h.IsTupleIter it a i) where
 mem:=by simp
 obj:=fun i h st b hb=>by
  have e:b=it:=by simpa using hb
  subst e
  obtain ⟨o,e,c,d⟩:=st
  exact ⟨o,e,fun v z=>by rw [d] at z; cases z⟩
 keep:=fun i h h' st k=>st.at fun o e=>k it (by simp) o e
 item:=by
  intro X hP hw hK hc i pins s σ H E I hf st hg
  subst hP hw hK
  obtain ⟨xs,x,hq,hx⟩:=hg
  obtain ⟨its,rv,p,hz⟩:=I.tuple hq
  obtain ⟨u,hu,ru⟩:=rv.get hx
  obtain ⟨f0,f1,f2,f3,f4,f5⟩:=hf it (by simp)
  refine wpAny_pyNext_tuple_item st (show s.heap.IsTuple a its.toArray from p) (x:=u) (by simpa using hu) fun h' st' sb=> ?_
  have I1:Inv X pins σ H { s with heap:=h' }:=I.turned (t' :=s.toks) (fun b o hb e=>(sb.2 b hb).trans e) f0 f1 f3 f4 f5
  obtain ⟨o,e,c,d⟩:=id st'
  exact ⟨u,rfl,xH (s:={ s with heap:=h' }) e c d (by decide) ⟨x,H,I1,ru,⟨rfl,fun ys hy=>by rw [I.tuple_inj hy hq]; exact hx⟩,st',fun b hb=>(hf b hb).1⟩⟩
 done:=by
  intro X hP hw hK hc i pins s σ H E I hf st hg
  subst hP hw hK
  obtain ⟨xs,hq,hx⟩:=hg
  obtain ⟨its,rv,p,hz⟩:=I.tuple hq
  obtain ⟨f0,f1,f2,f3,f4,f5⟩:=hf it (by simp)
  have hl:=rv.length
  exact wpAny_pyNext_tuple_end (I.ok.hd hc) st (show s.heap.IsTuple a its.toArray from p) (by simp; omega) fun h' eb=>⟨rfl,I.turned (t' :=s.toks) (fun b o hb e=>eb b o hb e) f0 f1 f3 f4 f5⟩
 self:=fun _ _ _ _ _ st h=>wpAny_pyIter_tupleiter st h
theorem Qw {P:Program} {w:World} {K:PySem.W.Frag} {tg:Expr} (it:Addr) (lo:Int) (n:Nat):xy P w K tg (Itr lo n) [it] it (fun i h=>IsRangeIter h it (lo+(i:Nat)*1) ((n:Int) - (i:Nat)) 1) where
 mem:=by simp
 obj:=fun i h st b hb=>by
  have e:b=it:=by simpa using hb
  subst e
  exact ⟨_,st,fun v z=>by
   have z' :Data.fields _=Data.cell v:=z
   cases z'⟩
 keep:=fun i h h' st k=>k it (by simp) _ st
 item:=by
  intro X hP hw hK hc i pins s σ H E I hf st hg
  subst hP hw hK
  obtain ⟨f0,f1,f2,f3,f4,f5⟩:=hf it (by simp)
  have W:=Walks.range (prog:=X.prog) (w:=X.w) (I.ok.hd hc) it lo 1 n
  refine W.item i s _ _ hg st fun v h' tk hv st' kk=> ?_
  obtain ⟨t,rfl⟩:=hv
  have I1:Inv X pins σ H { s with heap:=h',toks:=tk }:=I.turned (fun b o hb e=>kk b o (by simpa using hb) e) f0 f1 f3 f4 f5
  refine ⟨_,rfl,xH (s:={ s with heap:=h',toks:=tk }) (n:="range_iterator") st' rfl rfl (by decide) ⟨.int (lo+i),H,I1,⟨t, ?_⟩,⟨rfl,rfl⟩,st',fun b hb=>(hf b hb).1⟩⟩
  rw [Int.mul_one]
 done:=by
  intro X hP hw hK hc i pins s σ H E I hf st hg
  subst hP hw hK
  obtain ⟨f0,f1,f2,f3,f4,f5⟩:=hf it (by simp)
  exact wpAny_pyNext_range_end (I.ok.hd hc) st (by have:n<=i:=hg; omega) fun h' eb=>⟨rfl,I.turned (t' :=s.toks) (fun b o hb e=>eb b o hb e) f0 f1 f3 f4 f5⟩
 self:=fun _ _ _ _ _ st h=>wpAny_pyIter_rangeiter st h
end L2
namespace L2
open PySem PySem.Spec PyProof.Rows
section
variable {X:Cx} {tg:Expr}
theorem qM {pins:List (Addr×Obj)} {σ:St} {H:Hp} {s:Shared} {R:It->Hp->Prop} {E:Value->Shared->Prop} {lo hi:Int} {t u v:Tok} {tk:Nat} (I:Inv X pins σ H s) (h1: -(2 ^ 62)<=lo) (h2:lo < 2 ^ 62) (h3: -(2 ^ 62)<=hi) (h4:hi < 2 ^ 62)
  (q:R (Itr lo (hi - lo).toNat) H):wpAny (model X.prog X.w) X.A (pyIter (.ref s.heap.objs.size)) (PIE X pins σ tg R) E { s with heap:=s.heap.push { cls:= .type "range",data:= .fields #[.int lo t, .int hi u, .int 1 v] },toks:=tk }:=by
 refine wpAny_pyIter_range (IsRange.new ..) (small_one h1 h2 h3 h4) ?_
 have I1:Inv X pins σ H { s with heap:=s.heap.push { cls:= .type "range",data:= .fields #[.int lo t, .int hi u, .int 1 v] },toks:=tk }:=I.kept fun b o e=>Heap.get?_push_of_some _ e
 refine ⟨(s.heap.push { cls:= .type "range",data:= .fields #[.int lo t, .int hi u, .int 1 v] }).objs.size,[(s.heap.push { cls:= .type "range",data:= .fields #[.int lo t, .int hi u, .int 1 v] }).objs.size],_,_,H,rfl,
  I1.kept (t' :=tk) fun b o e=>Heap.get?_push_of_some _ e,Qw _ lo (hi - lo).toNat, ?_,fun b hb=> ?_,q⟩
 ·have e1:lo+((0:Nat):Int)*1=lo:=by simp
  have e2:(((hi - lo).toNat:Nat):Int) - ((0:Nat):Int)=Builtin.Range.rangeSize lo hi 1:=by rw [rangeSize_one]; split <;> omega
  show IsRangeIter _ _ (lo+((0:Nat):Int)*1) ((((hi - lo).toNat:Nat):Int) - ((0:Nat):Int)) 1
  rw [e1,e2]
  exact Heap.get?_push_size _ rfl
 ·have e:b=(s.heap.push { cls:= .type "range",data:= .fields #[.int lo t, .int hi u, .int 1 v] }).objs.size:=by simpa using hb
  subst e
  exact I1.fpOk (Nat.le_refl _) (I1.hok.fresh (Nat.le_refl _))
noncomputable def z0A (ta:TA):TI:=fun σ H R=>ta σ H fun vs H1=>∃ j:Int,vs=[.int j]/\ -(2 ^ 62)<=j/\j < 2 ^ 62/\R (Itr 0 j.toNat) H1
noncomputable def z0B (ta:TA):TI:=fun σ H R=>ta σ H fun vs H1=>∃ i j:Int,vs=[.int i, .int j]/\(-(2 ^ 62)<=i/\i < 2 ^ 62/\ -(2 ^ 62)<=j/\j < 2 ^ 62)/\R (Itr i (j - i).toNat) H1
theorem vo {a:Expr} {ta:TA} {p pos:Pos} (hg:Gl X "range") (hm:X.mg "range"=none) (ha:PA X [a] ta) (hs:starEach [a] X.env=[(false,eval a X.env)]:=by rfl):PI X tg (.Call (.Name "range" p) [a] [] pos) (z0A ta):=by
 intro pins s σ H R I h
 refine Call_ (u6 I hg hm boot_range (PyProof.Rows.callWith_type1 (thn (ha pos pins s σ H _ I h) fun us s1 ⟨vs,H1,I1,r1,q1⟩=> ?_) hs rfl))
 obtain ⟨j,e,q1,q2,q⟩:=q1
 subst e
 cases r1 with
 | cons r rr=>
  cases rr
  obtain ⟨t,rfl⟩:=r
  exact call_range_1 (qM I1 (by omega) (by omega) q1 q2 (by simpa using q))
theorem vp {a b:Expr} {ta:TA} {p pos:Pos} (hg:Gl X "range") (hm:X.mg "range"=none) (ha:PA X [a,b] ta) (hs:starEach [a,b] X.env=[(false,eval a X.env),(false,eval b X.env)]:=by rfl) (hs2:starEach [b] X.env=[(false,eval b X.env)]:=by rfl):
  PI X tg (.Call (.Name "range" p) [a,b] [] pos) (z0B ta):=by
 intro pins s σ H R I h
 refine Call_ (u6 I hg hm boot_range (PyProof.Rows.callWith_type1 (thn (ha pos pins s σ H _ I h) fun us s1 ⟨vs,H1,I1,r1,q1⟩=> ?_) (by rw [hs,hs2]) (by rw [hs2]; rfl)))
 obtain ⟨i,j,e,⟨q1,q2,q3,q4⟩,q⟩:=q1
 subst e
 cases r1 with
 | cons r rr=>
  cases rr with
  | cons r' rr=>
   cases rr
   obtain ⟨t,rfl⟩:=r
   obtain ⟨t',rfl⟩:=r'
   exact call_range_2 (qM I1 q1 q2 q3 q4 q)
noncomputable def tFor (wi:TI) (g:TG) (tb:TS):TS:=fun D σ H=>wi σ H fun J H1=>∃ W:Nat->Nat->St->Hp->Prop,(∃ m,W 0 m σ H1)/\∀ i m σ H,W i m σ H->
 (J.stop i H/\D.nx σ H)\/(J.go i H/\∃ N:St->Hp->Prop,(∀ σ' H',N σ' H' ->∃ m',m' < m/\W (i+1) m' σ' H')/\∀ x H',J.yld i H x H' ->g x σ H' fun σ2 H2=>tb { D with nx:=N,ct:=N,bk:=D.nx } σ2 H2)
noncomputable def yK (fp:List Addr) (h:Heap):List (Addr×Obj):=fp.filterMap fun b=>(h.get? b).map fun o=>(b,o)
theorem wR {fp:List Addr} {h:Heap} {b:Addr} {o:Obj} (hb:b∈fp) (e:h.get? b=some o):(b,o)∈yK fp h:=List.mem_filterMap.mpr ⟨b,hb,by rw [e]; rfl⟩
theorem vq {fp:List Addr} {h:Heap} {p:Addr×Obj} (hp:p∈yK fp h):p.1∈fp/\h.get? p.1=some p.2:=by
 obtain ⟨b,hb,e⟩:=List.mem_filterMap.mp hp
 cases q:h.get? b with
 | none=>rw [q] at e; cases e
 | some o=>
  rw [q] at e
  have e' :(b,o)=p:=Option.some.inj e
  subst e'
  exact ⟨hb,q⟩
theorem Inv.pinned {pins:List (Addr×Obj)} {σ:St} {H:Hp} {s:Shared} {fp:List Addr} (I:Inv X pins σ H s) (hf:∀ b∈fp,YI X pins H b) (ho:∀ b∈fp,∃ o,s.heap.get? b=some o/\∀ v,o.data ≠ .cell v):Inv X (pins++yK fp s.heap) σ H s:=
 I.pins_of fun p hp=>(List.mem_append.mp hp).elim (fun z=>I.pin p (List.mem_append_right _ z)) fun z=>by
  obtain ⟨hb,e⟩:=vq z
  obtain ⟨f0,f1,f2,_⟩:=hf p.1 hb
  obtain ⟨o,e',d⟩:=ho p.1 hb
  rw [e] at e'; cases e'
  exact ⟨e,f0,f1,f2,d⟩
theorem Inv.unpinned {pins pl:List (Addr×Obj)} {σ:St} {H:Hp} {s:Shared} (I:Inv X (pins++pl) σ H s):Inv X pins σ H s:=I.pins_of fun p hp=>I.pin p (List.mem_append_right _ (List.mem_append_left _ hp))
theorem gF {iter:Expr} {body:List Stmt} {wi:TI} {g:TG} {tb:TS} {pos:Pos} (hp:PassesOwn (model X.prog X.w) X.A X.env X.xe) (hc:X.calm=true) (hi:PI X tg iter wi) (hg:PG X tg g) (hb:PSs X body tb)
  (hs:∀ x,foldedSetIterable iter X.env x=pure x:=by intro _; rfl):PS X (.For tg iter body [] pos) (tFor wi g tb):=by
 intro pins s σ H D I h
 refine wpAny_For (thn (hi pins s σ H _ I h) fun v s1 h1=>thn h1 fun itv s2 h2=> ?_) hs
 obtain ⟨it,fp,tn,J,H2,e,I2,T,st2,f2,W,⟨m0,w0⟩,turn⟩:=h2
 subst e
 have stat:∀ {H' :Hp},(∀ b∈fp,H' b=none)->∀ b∈fp,YI X pins H' b:=fun hn b hb=>⟨hn b hb,(f2 b hb).2⟩
 refine codeAny_forLoop_any (fun n s' =>∃ i σ' H',Inv X pins σ' H' s' /\tn i s'.heap/\(∀ b∈fp,H' b=none)/\W i n σ' H') ?_ m0 ⟨0,σ,H2,I2,st2,fun b hb=>(f2 b hb).1,w0⟩
 rintro n s3 ⟨i,σ3,H3,I3,st3,fr3,w3⟩
 rcases turn i n σ3 H3 w3 with ⟨stop,qn⟩ | ⟨go,N,hN,step⟩
 ·refine wpAny_passesOwn hp (thn (T.done X rfl rfl rfl hc i pins s3 σ3 H3 X.xe I3 (stat fr3) st3 stop) fun r s4 ⟨hr,I4⟩=> ?_)
  subst hr
  exact wpAny_execs_nil ⟨σ3,H3,I4,qn⟩
 ·refine wpAny_passesOwn hp (thn (T.item X rfl rfl rfl hc i pins s3 σ3 H3 X.xe I3 (stat fr3) st3 go) fun r s4 ⟨u,hr,h4⟩=> ?_)
  subst hr
  refine wpAny_passesOwn hp (thn h4 fun _ s5 ⟨x,H5,I5,r5,y5,st5,fr5⟩=> ?_)
  have I5' :=I5.pinned (stat fr5) (T.obj _ _ st5)
  refine wpAny_passesOwn hp (thn (hg _ s5 σ3 H5 x u _ I5' r5 (step x H5 y5)) fun _ s6 ⟨σ6,H6,I6,q6⟩=> ?_)
  refine wpAny_passesOwn hp (thn (hb _ s6 σ6 H6 _ I6 q6) fun f s7 q7=> ?_)
  have again:∀ {σ7:St} {H7:Hp},Inv X (pins++yK fp s5.heap) σ7 H7 s7->N σ7 H7->∃ m,m < n/\∃ i σ' H',Inv X pins σ' H' s7/\tn i s7.heap/\(∀ b∈fp,H' b=none)/\W i m σ' H' :=fun {σ7 H7} I7 n7=>by
   obtain ⟨m',hm,w7⟩:=hN σ7 H7 n7
   refine ⟨m',hm,i+1,σ7,H7,I7.unpinned,T.keep _ _ _ st5 fun b hb o e=>(I7.pin (b,o) (List.mem_append_right _ (List.mem_append_right _ (wR hb e)))).1,fun b hb=> ?_,w7⟩
   obtain ⟨o,e,d⟩:=T.obj _ _ st5 b hb
   exact (I7.pin (b,o) (List.mem_append_right _ (List.mem_append_right _ (wR hb e)))).2.1
  cases f with
  | next=>obtain ⟨σ7,H7,I7,n7⟩:=q7; exact again I7 n7
  | cont=>obtain ⟨σ7,H7,I7,n7⟩:=q7; exact again I7 n7
  | brk=>obtain ⟨σ7,H7,I7,q7⟩:=q7; exact ⟨σ7,H7,I7.unpinned,q7⟩
  | ret v=>obtain ⟨x7,σ7,H7,I7,r7,q7⟩:=q7; exact ⟨x7,σ7,H7,I7.unpinned,r7,q7⟩
end
end L2
namespace L2
open PySem PySem.Spec PyProof.Rows
noncomputable abbrev R2:=V->V->Hp->VK->Prop
noncomputable def OpR (X:Cx) (f:Value->Value->Sem Value) (r:R2):Prop:=
 ∀ (pins:List (Addr×Obj)) (s:Shared) (σ:St) (H:Hp) (x y:V) (v u:Value) (Q:VK),Inv X pins σ H s->jc x v->jc y u->r x y H Q->
  wpAny (model X.prog X.w) X.A (f v u) (EP X pins σ Q) X.xe s
noncomputable def UnR (X:Cx) (f:Value->Sem Value) (r:V->Hp->VK->Prop):Prop:=
 ∀ (pins:List (Addr×Obj)) (s:Shared) (σ:St) (H:Hp) (x:V) (v:Value) (Q:VK),Inv X pins σ H s->jc x v->r x H Q->
  wpAny (model X.prog X.w) X.A (f v) (EP X pins σ Q) X.xe s
noncomputable def JG (X:Cx) (f:Value) (r:List V->Hp->VK->Prop):Prop:=
 ∀ (pins:List (Addr×Obj)) (s:Shared) (σ:St) (H:Hp) (xs:List V) (us:List Value) (Q:VK),Inv X pins σ H s->ZM xs us->r xs H Q->
  wpAny (model X.prog X.w) X.A (call f us) (EP X pins σ Q) X.xe s
noncomputable def TruR (X:Cx) (r:V->Hp->(Bool->Hp->Prop)->Prop):Prop:=
 ∀ (pins:List (Addr×Obj)) (s:Shared) (σ:St) (H:Hp) (x:V) (v:Value) (Q:Bool->Hp->Prop),Inv X pins σ H s->jc x v->r x H Q->
  wpAny (model X.prog X.w) X.A (truthy v) (TP X pins σ Q) X.xe s
noncomputable def tOp (r:R2) (ta tb:TE):TE:=fun σ H Q=>ta σ H fun x H1=>tb σ H1 fun y H2=>r x y H2 Q
noncomputable def tUn (r:V->Hp->VK->Prop) (ta:TE):TE:=fun σ H Q=>ta σ H fun x H1=>r x H1 Q
noncomputable def rI (C:Int->Int->Prop) (g:Int->Int->V):R2:=fun x y H Q=>∃ i j,x= .int i/\y= .int j/\C i j/\Q (g i j) H
noncomputable def rI0 (g:Int->Int->V):R2:=fun x y H Q=>∃ i j,x= .int i/\y= .int j/\Q (g i j) H
noncomputable def rU (g:Int->V):V->Hp->VK->Prop:=fun x H Q=>∃ i,x= .int i/\Q (g i) H
section
variable {X:Cx} {a b c:Expr} {ta tb tc:TE} {pos:Pos}
theorem z0C (ha:PE X a ta) (hb:PE X b tb) {pins:List (Addr×Obj)} {s:Shared} {σ:St} {H:Hp} {R:V->V->Hp->Prop} (I:Inv X pins σ H s)
  (h:ta σ H fun x H1=>tb σ H1 fun y H2=>R x y H2) {Q:Value->Shared->Prop} {f:Value->Value->Sem Value}
  (hf:∀ v u s2 x y H2,Inv X pins σ H2 s2->jc x v->jc y u->R x y H2->wpAny (model X.prog X.w) X.A (f v u) Q X.xe s2):
  wpAny (model X.prog X.w) X.A (eval a X.env) (fun v s₁=>wpAny (model X.prog X.w) X.A (eval b X.env) (fun u s₂=>wpAny (model X.prog X.w) X.A (f v u) Q X.xe s₂) X.xe s₁) X.xe s:=by
 refine thn (ha pins s σ H _ I h) fun v s1 ⟨x,H1,I1,r1,q1⟩=> ?_
 refine thn (hb pins s1 σ H1 _ I1 q1) fun u s2 ⟨y,H2,I2,r2,q2⟩=> ?_
 exact hf v u s2 x y H2 I2 r1 r2 q2
theorem z0D {op:Operator} {r:R2} (ho:OpR X (binaryOp op) r) (ha:PE X a ta) (hb:PE X b tb):PE X (.BinOp a op b pos) (tOp r ta tb):=by
 intro pins s σ H Q I h
 exact wpAny_BinOp (z0C ha hb I h fun v u s2 x y H2 I2 rx ry q=>ho pins s2 σ H2 x y v u Q I2 rx ry q)
theorem z0E {op:UnaryOp} {r:V->Hp->VK->Prop} (ho:UnR X (unaryOp op) r) (ha:PE X a ta):PE X (.UnaryOp op a pos) (tUn r ta):=by
 intro pins s σ H Q I h
 exact UnaryOp_ (thn (ha pins s σ H _ I h) fun v s1 ⟨x,H1,I1,r1,q1⟩=>ho pins s1 σ H1 x v Q I1 r1 q1)
theorem opI {f:Value->Value->Sem Value} {C:Int->Int->Prop} {g:Int->Int->Int}
  (rule:∀ (i j:Int) (t u:Tok) (s:Shared) (Q:Value->Shared->Prop) (E:Value->Shared->Prop),C i j->Q (.int (g i j) s.toks) { s with toks:=s.toks+1 }->wpAny (model X.prog X.w) X.A (f (.int i t) (.int j u)) Q E s):
  OpR X f (rI C fun i j=> .int (g i j)):=by
 intro pins s σ H x y v u Q I rx ry h
 obtain ⟨i,j,rfl,rfl,hc,q⟩:=h
 obtain ⟨t,rfl⟩:=rx
 obtain ⟨t',rfl⟩:=ry
 exact rule i j t t' s _ _ hc ⟨.int (g i j),H,I.tok _,⟨_,rfl⟩,q⟩
theorem opI0 {f:Value->Value->Sem Value} {g:Int->Int->Int}
  (rule:∀ (i j:Int) (t u:Tok) (s:Shared) (Q:Value->Shared->Prop) (E:Value->Shared->Prop),Q (.int (g i j) s.toks) { s with toks:=s.toks+1 }->wpAny (model X.prog X.w) X.A (f (.int i t) (.int j u)) Q E s):
  OpR X f (rI0 fun i j=> .int (g i j)):=by
 intro pins s σ H x y v u Q I rx ry h
 obtain ⟨i,j,rfl,rfl,q⟩:=h
 obtain ⟨t,rfl⟩:=rx
 obtain ⟨t',rfl⟩:=ry
 exact rule i j t t' s _ _ ⟨.int (g i j),H,I.tok _,⟨_,rfl⟩,q⟩
theorem z0a {f:Value->Value->Sem Value} {g:Int->Int->Bool}
  (rule:∀ (i j:Int) (t u:Tok) (s:Shared) (Q:Value->Shared->Prop) (E:Value->Shared->Prop),Q (.bool (g i j)) s->wpAny (model X.prog X.w) X.A (f (.int i t) (.int j u)) Q E s):
  OpR X f (rI0 fun i j=> .bl (g i j)):=by
 intro pins s σ H x y v u Q I rx ry h
 obtain ⟨i,j,rfl,rfl,q⟩:=h
 obtain ⟨t,rfl⟩:=rx
 obtain ⟨t',rfl⟩:=ry
 exact rule i j t t' s _ _ ⟨.bl (g i j),H,I,rfl,q⟩
noncomputable def CDiv (i j:Int):Prop:=0 < j/\j < 1073741824
noncomputable def yE (i j:Int):Prop:=(-(2 ^ 64) < i/\i < 2 ^ 64)\/(-(2 ^ 64) < j/\j < 2 ^ 64)
theorem yE.ok {i j:Int} (h:yE i j):IntMulOk i j:=by
 rcases h with ⟨h1,h2⟩ | ⟨h1,h2⟩
 ·exact .of_left (intBits_le_64 h1 h2)
 ·exact .of_right (intBits_le_64 h1 h2)
theorem gG:OpR X (binaryOp .Add) (rI0 fun i j=> .int (i+j)):=opI0 fun _ _ _ _ _ _ _ q=>add_int q
theorem gH:OpR X (binaryOp .Sub) (rI0 fun i j=> .int (i - j)):=opI0 fun _ _ _ _ _ _ _ q=>sub_int q
theorem gI:OpR X (binaryOp .Mult) (rI yE fun i j=> .int (i*j)):=opI fun _ _ _ _ _ _ _ hc q=>mul_int q hc.ok
theorem ku:OpR X (binaryOp .FloorDiv) (rI CDiv fun i j=> .int (i / j)):=opI fun i j _ _ _ _ _ hc q=>by
 have h1:(0:Int) < j:=hc.1
 have h2:j < 1073741824:=hc.2
 exact floordiv_int (by omega) (by rw [Int.fdiv_eq_ediv_of_nonneg i (by omega)]; exact q) (.inl (PyProof.noPylong_small (by omega)))
theorem gJ:OpR X (binaryOp .Mod) (rI (fun _ j=>0 < j) fun i j=> .int (i % j)):=opI fun i j _ _ _ _ _ hc q=>by
 have h1:(0:Int) < j:=hc
 exact mod_int' (by omega) (by rw [Int.fmod_eq_emod_of_nonneg i (by omega)]; exact q)
theorem unI {f:Value->Sem Value} {g:Int->Int}
  (rule:∀ (i:Int) (t:Tok) (s:Shared) (Q:Value->Shared->Prop) (E:Value->Shared->Prop),Q (.int (g i) s.toks) { s with toks:=s.toks+1 }->wpAny (model X.prog X.w) X.A (f (.int i t)) Q E s):
  UnR X f (rU fun i=> .int (g i)):=by
 intro pins s σ H x v Q I rx h
 obtain ⟨i,rfl,q⟩:=h
 obtain ⟨t,rfl⟩:=rx
 exact rule i t s _ _ ⟨.int (g i),H,I.tok _,⟨_,rfl⟩,q⟩
theorem gK:UnR X (unaryOp .USub) (rU fun i=> .int (-i)):=unI fun _ _ _ _ _ q=>neg_int q
theorem vt:OpR X (binaryOp .Add) (fun x y H Q=>∃ i k,x= .int i/\y= .bl k/\Q (.int (i+b2i k)) H):=by
 intro pins s σ H x y v u Q I rx ry h
 obtain ⟨i,k,rfl,rfl,q⟩:=h
 obtain ⟨t,rfl⟩:=rx
 cases ry
 exact add_int_bool ⟨.int (i+b2i k),H,I.tok _,⟨_,rfl⟩,q⟩
end
section
variable {X:Cx} {a b c:Expr} {ta tb tc:TE} {pos:Pos}
theorem z0F:OpR X (compareOp .Lt) (rI0 fun i j=> .bl (decide (i < j))):=z0a fun _ _ _ _ _ _ _ q=>lt_int q
theorem z0G:OpR X (compareOp .LtE) (rI0 fun i j=> .bl (decide (i<=j))):=z0a fun _ _ _ _ _ _ _ q=>le_int q
theorem z0H:OpR X (compareOp .Gt) (rI0 fun i j=> .bl (decide (j < i))):=z0a fun _ _ _ _ _ _ _ q=>gt_int q
theorem z0I:OpR X (compareOp .GtE) (rI0 fun i j=> .bl (decide (j<=i))):=z0a fun _ _ _ _ _ _ _ q=>ge_int q
theorem zl (b:Expr) {op:CmpOp} (h:op ≠ .In:=by decide) (h2:op ≠ .NotIn:=by decide):behindInMarks op b=false:=by
 have e1:(op == CmpOp.In)=false:=by cases op <;> first | rfl | exact absurd rfl h
 have e2:(op == CmpOp.NotIn)=false:=by cases op <;> first | rfl | exact absurd rfl h2
 cases b <;> simp [behindInMarks,e1,e2]
theorem kv {op:CmpOp} {r:R2} (ho:OpR X (compareOp op) r) (ha:PE X a ta) (hb:PE X b tb) (hm:behindInMarks op b=false):PE X (.Compare a [op] [b] pos) (tOp r ta tb):=by
 intro pins s σ H Q I h
 exact wpAny_Compare1 (z0C ha hb I h fun v u s2 x y H2 I2 rx ry q=>ho pins s2 σ H2 x y v u Q I2 rx ry q) hm
noncomputable def gL (t:TE):TT:=fun σ H Q=>t σ H fun x H' =>∃ k,x= .bl k/\Q k H'
theorem vv {op:CmpOp} {r:R2} (ho:OpR X (compareOp op) r) (ha:PE X a ta) (hb:PE X b tb) (hm:behindInMarks op b=false):PT X (.Compare a [op] [b] pos) (gL (tOp r ta tb)):=by
 intro pins s σ H Q I h
 refine wpAny_isTrue_Compare1 (thn (ha pins s σ H _ I h) fun v s1 ⟨x,H1,I1,r1,q1⟩=>thn (hb pins s1 σ H1 _ I1 q1) fun u s2 ⟨y,H2,I2,r2,q2⟩=>
  thn (ho pins s2 σ H2 x y v u _ I2 r1 r2 q2) fun c s3 ⟨z,H3,I3,r3,k,e,q3⟩=> ?_) hm
 subst e
 cases r3
 exact wpAny_truthy_bool ⟨H3,I3,q3⟩
noncomputable def XJ (r r' :R2) (ta tb tc:TE):TE:=fun σ H Q=>ta σ H fun x H1=>tb σ H1 fun y H2=>r x y H2 fun z H3=>∃ k,z= .bl k/\
 (if k=true then tc σ H3 fun w' H4=>r' y w' H4 Q else Q (.bl false) H3)
theorem xI {op op' :CmpOp} {r r' :R2} (ho:OpR X (compareOp op) r) (ho' :OpR X (compareOp op') r') (ha:PE X a ta) (hb:PE X b tb) (hc:PE X c tc)
  (hm:lastMarks [op,op'] [b,c]=false:=by with_unfolding_all rfl):PE X (.Compare a [op,op'] [b,c] pos) (XJ r r' ta tb tc):=by
 intro pins s σ H Q I h
 refine Compare_chain (thn (ha pins s σ H _ I h) fun v s1 ⟨x,H1,I1,r1,q1⟩=>chain_link (thn (hb pins s1 σ H1 _ I1 q1) fun u s2 ⟨y,H2,I2,r2,q2⟩=>
  thn (ho pins s2 σ H2 x y v u _ I2 r1 r2 q2) fun d s3 ⟨z,H3,I3,r3,k,e,q3⟩=> ?_)) hm
 subst e
 cases r3
 refine wpAny_truthy_bool ?_
 cases k with
 | false=>exact ite_ff ⟨.bl false,H3,I3,rfl,q3⟩
 | true=>exact ite_tt (chain_last (thn (hc pins s3 σ H3 _ I3 q3) fun w' s4 ⟨z',H4,I4,r4,q4⟩=>ho' pins s4 σ H4 y z' u w' Q I4 r2 r4 q4))
theorem xJ {op op' :CmpOp} {r r' :R2} (ho:OpR X (compareOp op) r) (ho' :OpR X (compareOp op') r') (ha:PE X a ta) (hb:PE X b tb) (hc:PE X c tc)
  (hm:lastMarks [op,op'] [b,c]=false:=by with_unfolding_all rfl):PT X (.Compare a [op,op'] [b,c] pos) (gL (XJ r r' ta tb tc)):=by
 intro pins s σ H Q I h
 refine isTrue_chain (thn (ha pins s σ H _ I h) fun v s1 ⟨x,H1,I1,r1,q1⟩=>test_link (thn (hb pins s1 σ H1 _ I1 q1) fun u s2 ⟨y,H2,I2,r2,q2⟩=>
  thn (ho pins s2 σ H2 x y v u _ I2 r1 r2 q2) fun d s3 ⟨z,H3,I3,r3,k,e,q3⟩=> ?_)) hm
 subst e
 cases r3
 refine wpAny_truthy_bool ?_
 cases k with
 | false=>
  obtain ⟨k',e',q'⟩:=q3
  cases e'
  exact ite_ff ⟨H3,I3,q'⟩
 | true=>
  refine ite_tt (test_last (thn (hc pins s3 σ H3 _ I3 q3) fun w' s4 ⟨z',H4,I4,r4,q4⟩=>thn (ho' pins s4 σ H4 y z' u w' _ I4 r2 r4 q4) fun d' s5 ⟨z2,H5,I5,r5,k2,e2,q5⟩=> ?_))
  subst e2
  cases r5
  exact wpAny_truthy_bool ⟨H5,I5,q5⟩
noncomputable def TruV (K:PySem.W.Frag) (x:V) (H:Hp) (k:Bool):Prop:=
 match x with
 | .non=>k=false
 | .bl b=>k=b
 | .int i=>k=(i != 0)
 | .str y=>y.length<=sizeLine/\k=((y.length:Int) != 0)
 | .byt y=>y.size<=sizeLine/\k=((y.size:Int) != 0)
 | .ref p=>(∃ xs,SqL K H p xs/\k= !xs.isEmpty)\/(∃ xs,SqT K H p xs/\k= !xs.isEmpty)\/∃ kvs,H p=some (.dK kvs)/\k= !kvs.isEmpty
 | _=>False
theorem Qx {κ:Type} {kvs:List (κ×V)} {vs:List (κ×Value)} (r:KV kvs vs):(!vs.isEmpty)= !kvs.isEmpty:=by
 cases r <;> rfl
theorem Uz {xs:List V} {its:List Value} (r:ZM xs its):(!its.toArray.isEmpty)= !xs.isEmpty:=by
 cases r <;> simp
theorem UA:(sizeLine:Nat) < 2 ^ 63:=by rw [sizeLine_eq]; decide
theorem gM:TruR X (fun x H Q=>∃ k,TruV X.K x H k/\Q k H):=by
 intro pins s σ H x v Q I rx h
 obtain ⟨k,e,q⟩:=h
 have hl:=UA
 have hs:sizeLine=16777216:=sizeLine_eq
 cases x with
 | non=>
  cases rx
  have e' :k=false:=e
  subst e'
  exact truthy_none ⟨H,I,q⟩
 | bl b=>
  cases rx
  have e' :k=b:=e
  subst e'
  exact wpAny_truthy_bool ⟨H,I,q⟩
 | int i=>
  obtain ⟨t,rfl⟩:=rx
  have e' :k=(i != 0):=e
  subst e'
  exact PySem.P.truthy_int ⟨H,I,q⟩
 | str y=>
  obtain ⟨t,rfl⟩:=rx
  obtain ⟨hy,e'⟩:y.length<=sizeLine/\k=((y.length:Int) != 0):=e
  subst e'
  exact PySem.P.truthy_str (by omega) ⟨H,I.tok _,q⟩
 | byt y=>
  obtain ⟨t,rfl⟩:=rx
  obtain ⟨hy,e'⟩:y.size<=sizeLine/\k=((y.size:Int) != 0):=e
  subst e'
  exact PySem.W.truthy_bytes (by omega) ⟨H,I.tok _,q⟩
 | ref p=>
  cases rx
  have e' :(∃ xs,SqL X.K H p xs/\k= !xs.isEmpty)\/(∃ xs,SqT X.K H p xs/\k= !xs.isEmpty)\/∃ kvs,H p=some (.dK kvs)/\k= !kvs.isEmpty:=e
  rcases e' with ⟨xs,hx,e'⟩ | ⟨xs,hx,e'⟩ | ⟨kvs,hx,e'⟩
  ·subst e'
   obtain ⟨its,r,pl,hz⟩:=I.list hx
   have hlen:=r.length
   exact wpAny_truthy_list pl.isList (by simp only [List.size_toArray]; omega) ⟨H,I.tok _,by rw [Uz r]; exact q⟩
  ·subst e'
   obtain ⟨its,r,pl,hz⟩:=I.tuple hx
   have hlen:=r.length
   exact truthy_tuple pl (by simp only [List.size_toArray]; omega) ⟨H,I.tok _,by rw [Uz r]; exact q⟩
  ·subst e'
   obtain ⟨hz,hS,vs,r,m⟩:kvs.length<=sizeLine/\(p == sysModules)=false/\∃ vs,KV kvs vs/\s.heap.DictOf (YL X.prog X.w) p vs:=I.hok p _ hx
   have hlen:kvs.length=vs.length:=Paired.length r
   exact wpAny_truthy_dict hS m (by omega) ⟨H,I.tok _,by rw [Qx r]; exact q⟩
 | _=>exact (show False from e).elim
theorem xK (ha:PE X a ta) (he:∀ whole,isTrue a X.env whole=(do let v ← whole; standAt a.pos; holding [v] (truthy v))):
  PT X a (fun σ H Q=>ta σ H fun x H' =>∃ k,TruV X.K x H' k/\Q k H'):=by
 intro pins s σ H Q I h
 exact isTrue_plain (thn (ha pins s σ H _ I h) fun v s1 ⟨x,H1,I1,r1,q1⟩=>gM pins s1 σ H1 x v Q I1 r1 q1) (he _)
theorem Qy:OpR X (binaryOp .Add) (fun x y H Q=>∃ i j,x= .str i/\y= .str j/\i.length+j.length<=sizeLine/\Q (.str (i++j)) H):=by
 intro pins s σ H x y v u Q I rx ry h
 obtain ⟨i,j,rfl,rfl,hz,q⟩:=h
 obtain ⟨t,rfl⟩:=rx
 obtain ⟨t',rfl⟩:=ry
 exact add_str (fun t' tk=>⟨.str (i++j),H,I.tok _,⟨_,rfl⟩,q⟩) hz
theorem Wa {x:V} {us:List Value} (r:ZM [x] us):∃ u,us=[u]/\jc x u:=by
 cases r with
 | cons r1 r2=>cases r2; exact ⟨_,rfl,r1⟩
theorem vw {x y:V} {us:List Value} (r:ZM [x,y] us):∃ u w',us=[u,w']/\jc x u/\jc y w' :=by
 cases r with
 | cons r1 r2=>
  cases r2 with
  | cons r3 r4=>cases r4; exact ⟨_,_,rfl,r1,r3⟩
theorem vx (hc:X.calm=true):JG X (.builtin "min") (fun xs H Q=>∃ i j,xs=[.int i, .int j]/\Q (.int (if j < i then j else i)) H):=by
 intro pins s σ H xs us Q I r h
 obtain ⟨i,j,rfl,q⟩:=h
 obtain ⟨u,w',rfl,⟨t,rfl⟩,⟨t',rfl⟩⟩:=vw r
 refine min_two_ints (I.ok.hd hc) fun h' tk k=>⟨_,H,I.kept k, ?_,q⟩
 by_cases hj:j < i
 ·rw [if_pos hj,if_pos hj]; exact ⟨_,rfl⟩
 ·rw [if_neg hj,if_neg hj]; exact ⟨_,rfl⟩
theorem vy:JG X (.type "int") (fun xs H Q=>(∃ i,xs=[.int i]/\Q (.int i) H)\/∃ k,xs=[.bl k]/\Q (.int (if k then 1 else 0)) H):=by
 intro pins s σ H xs us Q I r h
 rcases h with ⟨i,rfl,q⟩ | ⟨k,rfl,q⟩
 ·obtain ⟨u,rfl,t,rfl⟩:=Wa r
  exact call_int_int ⟨.int i,H,I,⟨_,rfl⟩,q⟩
 ·obtain ⟨u,rfl,r1⟩:=Wa r
  cases r1
  exact call_int_bool ⟨.int (if k then 1 else 0),H,I.tok _,⟨_,rfl⟩,q⟩
end
end L2
namespace L2
open PySem PySem.Spec PyProof.Rows
structure z0J (h:Heap) (x dx C:Addr) (mA:Str->Option Value):Prop where
 obj:h.get? x=some (PySem.W.instObj C dx)
 ns:h.Ns1 dx mA
 ne:dx ≠ x
theorem vz {h:Heap} {dx:Addr} {mA:Str->Option Value} (n:h.Ns1 dx mA):∃ od,h.get? dx=some od/\∀ name,PySem.W.lookIn name od=some (mA name):=by
 obtain ⟨o,es,ep,ho,hd,hk,_,hm⟩:=n
 refine ⟨o,ho,fun name=> ?_⟩
 have e:=hm name
 unfold nsFind findBy at e
 rw [← Array.find?_toList] at e
 unfold PySem.W.lookIn
 rw [hd]
 dsimp only
 split
 ·rename_i y q
  rw [q] at e
  exact congrArg some e
 ·rename_i q
  rw [q] at e
  have a:es.toList.any (·.refKey)=false:=by
   rw [List.any_eq_false]
   intro y hy
   obtain ⟨z,t,hkey⟩:=hk y (Array.mem_toList_iff.mp hy)
   simp [DictEntry.refKey,hkey]
  have a' :¬ es.toList.any (·.refKey)=true:=by rw [a]; exact Bool.false_ne_true
  rw [if_neg a']
  exact congrArg some e
theorem z0J.look {h:Heap} {x dx C:Addr} {mA:Str->Option Value} (I:z0J h x dx C mA):∃ od,PySem.W.InstAt h x (PySem.W.instObj C dx) C (some od)/\∀ name,PySem.W.lookIn name od=some (mA name):=
 let ⟨od,ho,hl⟩:=vz I.ns
 ⟨od,⟨I.obj,rfl,rfl,ho⟩,hl⟩
section
variable {prog:Program} {w:World} {A:Around} {E:Value->Shared->Prop} {s:Shared} {K:PySem.W.Frag} {x dx C f:Addr} {mA:Str->Option Value} {name:Str} {v:Value}
end
section
variable {P:Program} {w:World} {H H' :Hp} {h h' :Heap} {a C dx:Addr} {fs fs' :List (Str×V)}
theorem kw (hok:HOk P w H h) (e:H a=some (.ins C dx fs)):∃ mA,z0J h a dx C mA/\(∀ f,z0r (fs.lookup f) (mA f))/\PySem.Within mA (fs.map (·.1))/\fs.length<=1000/\H dx=some (.own a):=by
 obtain ⟨d,z,ne,ob,mA,n,r,q⟩:=(show jb P w H h a (.ins C dx fs) from hok a _ e)
 exact ⟨mA,⟨ob,n,ne⟩,r,q,z,d⟩
end
structure Cls (K:PySem.W.Frag) (C:Addr):Prop where
 pg:PySem.W.plainGet K C Str.empty=true
 hd:PySem.W.hasDictIn K C=true
 po:PySem.W.plainOver K C=true
 sa:PySem.W.findIn K (.ref C) "__setattr__"=some (some (.builtin "object.__setattr__"))
theorem Cls.get {K:PySem.W.Frag} {C:Addr} (c:Cls K C) (f:Str):PySem.W.plainGet K C f=true:=c.pg
section
variable {X:Cx} {pins:List (Addr×Obj)} {σ:St} {H:Hp} {s:Shared} {a C dx:Addr} {fs:List (Str×V)} {f:Str} {v:V} {A:Around} {E:Value->Shared->Prop}
end
section
variable {X:Cx} {o e value:Expr} {f:Str} {pos pos' tpos:Pos} {ta tv:TE}
end
section
variable {X:Cx} {pins:List (Addr×Obj)} {σ:St} {H:Hp} {s:Shared} {A:Around} {E:Value->Shared->Prop} {Q:Value->Shared->Prop} {c:Value} {b:Bool}
inductive Qz (K:PySem.W.Frag) (H:Hp):V->Value->Prop where
 | non:Qz K H .non (.type "NoneType")
 | bl (x:Bool):Qz K H (.bl x) (.type "bool")
 | int (i:Int):Qz K H (.int i) (.type "int")
 | str (x:Str):Qz K H (.str x) (.type "str")
 | flt (x:UInt64):Qz K H (.flt x) (.type "float")
 | lst {a:Addr} {xs:List V} (e:H a=some (.lst xs)):Qz K H (.ref a) (.type "list")
 | frz {a:Addr} {o:Obj} {xs:List V} (e:H a=some (.frz o (.lst xs))):Qz K H (.ref a) (.type "list")
 | tup {a:Addr} {xs:List V} (e:H a=some (.tup xs)):Qz K H (.ref a) (.type "tuple")
 | dK {a:Addr} {kvs:List (Key×V)} (e:H a=some (.dK kvs)):Qz K H (.ref a) (.type "dict")
 | dT {a:Addr} {kvs:List (List Key×V)} (e:H a=some (.dT kvs)):Qz K H (.ref a) (.type "dict")
 | ins {a C dx:Addr} {fs:List (Str×V)} (e:H a=some (.ins C dx fs)) (cl:Cls K C) (ha:PySem.W.findIn K (.ref C) "__class__"=some (some (.builtin "object.__class__")))
   (hn:PySem.W.specialIn K (.builtin "object.__class__") "__get__"=some (some (.builtin "getset_descriptor.__get__"))) (htk:PySem.W.takesIn K (.builtin "object.__class__")=some true)
   (hm:PySem.W.mroIn K C (.type "object")=some true):Qz K H (.ref a) (.ref C)
theorem vA {x:V} {u t:Value} (I:Inv X pins σ H s) (rx:jc x u) (ty:Qz X.K H x t) (e:PySem.W.kitOne X.K t c=some b) (h:∀ tk,Q (.bool b) { s with toks:=tk }):
  wpAny (model X.prog X.w) A (call (.builtin "isinstance") [u,c]) Q E s:=by
 cases ty with
 | non=>cases (show u=Value.none from rx); exact PySem.W.kia_one PySem.W.kitx_none I.kIn True.intro e (fun z=>nomatch z) h
 | bl y=>cases (show u=Value.bool y from rx); exact PySem.W.kia_one PySem.W.kitx_bool I.kIn True.intro e (fun z=>nomatch z) h
 | int i=>obtain ⟨t,q⟩:=(show ∃ t,u=Value.int i t from rx); cases q; exact PySem.W.kia_one PySem.W.kitx_int I.kIn True.intro e (fun z=>nomatch z) h
 | str y=>obtain ⟨t,q⟩:=(show ∃ t,u=Value.str y t from rx); cases q; exact PySem.W.kia_one PySem.W.kitx_str I.kIn True.intro e (fun z=>nomatch z) h
 | flt y=>obtain ⟨t,q⟩:=(show ∃ t,u=Value.float y t from rx); cases q; exact PySem.W.kia_one PySem.W.kitx_float I.kIn True.intro e (fun z=>nomatch z) h
 | @lst a xs ea=>
  cases (show u=Value.ref a from rx)
  obtain ⟨_,_,n,_,h1⟩:=(show jb X.prog X.w H s.heap a (.lst xs) from I.hok a _ ea)
  exact PySem.W.kia_one PySem.W.kitx_list I.kIn ⟨_,h1,rfl⟩ e (fun z=>nomatch z) h
 | @frz a ob xs ea=>
  cases (show u=Value.ref a from rx)
  obtain ⟨_,_,_,n,_,h1⟩:=(show jb X.prog X.w H s.heap a (.frz ob (.lst xs)) from I.hok a _ ea)
  exact PySem.W.kia_one PySem.W.kitx_list I.kIn ⟨_,h1,rfl⟩ e (fun z=>nomatch z) h
 | @tup a xs ea=>
  cases (show u=Value.ref a from rx)
  obtain ⟨_,_,_,p⟩:=(show jb X.prog X.w H s.heap a (.tup xs) from I.hok a _ ea)
  obtain ⟨o,h1,h2,_⟩:=p
  exact PySem.W.kia_one PySem.W.kitx_tuple I.kIn ⟨o,h1,h2⟩ e (fun z=>nomatch z) h
 | @dK a kvs ea=>
  cases (show u=Value.ref a from rx)
  obtain ⟨_,_,vs,_,p⟩:=(show jb X.prog X.w H s.heap a (.dK kvs) from I.hok a _ ea)
  obtain ⟨o,es,ep,h1,h2,_⟩:=p
  exact PySem.W.kia_one PySem.W.kitx_dict I.kIn ⟨o,h1,h2.1⟩ e (fun z=>nomatch z) h
 | @dT a kvs ea=>
  cases (show u=Value.ref a from rx)
  obtain ⟨_,_,xs,_,o,es,ep,h1,h2,_⟩:=(show jb X.prog X.w H s.heap a (.dT kvs) from I.hok a _ ea)
  exact PySem.W.kia_one PySem.W.kitx_dict I.kIn ⟨o,h1,h2.1⟩ e (fun z=>nomatch z) h
 | @ins a C dx fs ea cl ha hn htk hm=>
  cases (show u=Value.ref a from rx)
  obtain ⟨mA,O,_⟩:=kw I.hok ea
  obtain ⟨od,J,_⟩:=O.look
  exact PySem.W.kia_one (PySem.W.kitx_own (cl.get _) cl.hd ha hn htk hm) I.kIn J e (fun z=>nomatch z) h
end
end L2
namespace L2
open PySem PySem.Spec PyProof.Rows
structure WD (k:Nat) (A:Around):Prop where
 hd:A.handled=none
 dp:A.depth+3*k+5 < recursionLimit
 un:A.units+16*k+200 < cLine
theorem WD.mono {j k:Nat} {A:Around} (r:WD k A) (h:j<=k):WD j A:=⟨r.hd,by have:=r.dp; omega,by have:=r.un; omega⟩
theorem WD.deeper {k:Nat} {A:Around} (r:WD (k+1) A) (env:Env):WD k (A.deeper env):=
 ⟨r.hd,by have:=r.dp; show A.depth+1+3*k+5 < _; omega,by have:=r.un; show A.units+3+16*k+200 < _; omega⟩
theorem WD.depth {k:Nat} {A:Around} (r:WD k A):A.depth < recursionLimit:=by have:=r.dp; omega
theorem WD.units {k:Nat} {A:Around} (r:WD k A):A.units+64 < cLine:=by have:=r.un; omega
noncomputable def tNil:TA:=fun _ H Q=>Q [] H
noncomputable def z0K (ta:TE) (tr:TA):TA:=fun σ H Q=>ta σ H fun x H1=>tr σ H1 fun xs H2=>Q (x :: xs) H2
section
variable {X:Cx} {e:Expr} {es:List Expr} {te:TE} {t:TA} {pos:Pos}
theorem j7:PA X [] tNil:=fun _ _ _ _ H Q I h=>Calls.spliced_nil ⟨[],H,I, .nil,h⟩
theorem zY (ha:PE X e te) (hr:PA X es t) (hs:starEach (e :: es) X.env=(false,eval e X.env) :: starEach es X.env:=by rfl):PA X (e :: es) (z0K te t):=by
 intro pos pins s σ H Q I h
 rw [hs]
 show wpAny _ _ (spliced ((false,eval e X.env) :: backTo pos (starEach es X.env))) _ _ s
 refine Calls.spliced_cons (thn (ha pins s σ H _ I h) fun u s1 ⟨x,H1,I1,r1,q1⟩=> ?_)
 exact thn (hr pos pins s1 σ H1 _ I1 q1) fun us s2 ⟨xs,H2,I2,r2,q2⟩=>⟨x :: xs,H2,I2, .cons r1 r2,q2⟩
noncomputable def tTup (t:TA):TE:=fun σ H Q=>t σ H fun xs H1=>xs.length<=sizeLine/\∀ p,H1 p=none->Q (.ref p) (upd H1 p (.tup xs))
noncomputable def tLst (t:TA):TE:=fun σ H Q=>t σ H fun xs H1=>xs.length<=sizeLine/\∀ p,H1 p=none->Q (.ref p) (upd H1 p (.lst xs))
theorem gN {x1} (h:PA X es t):PE X (.Tuple es x1 pos) (tTup t):=by
 intro pins s σ H Q I hq
 refine wpAny_Tuple_spliced (thn (h pos pins s σ H _ I hq) fun us s1 ⟨xs,H1,I1,r,z,q⟩=>⟨by rw [← r.length]; exact z, ?_⟩)
 have hf:H1 s1.heap.objs.size=none:=I1.hok.fresh (Nat.le_refl _)
 refine ⟨.ref s1.heap.objs.size,upd H1 s1.heap.objs.size (.tup xs),I1.laid (t' :=s1.toks) (fun b u e=>Heap.get?_push_of_some _ e) (Nat.le_refl _) ?_,rfl,q _ hf⟩
 exact ⟨z,us,r,⟨_,Heap.get?_push_size _ rfl,rfl,_,rfl⟩⟩
theorem XL (h:PA X es t):PE X (.List es pos) (tLst t):=by
 intro pins s σ H Q I hq
 refine wpAny_List_spliced (thn (h pos pins s σ H _ I hq) fun us s1 ⟨xs,H1,I1,r,z,q⟩=>⟨by rw [← r.length]; exact z, ?_⟩)
 have hf:H1 s1.heap.objs.size=none:=I1.hok.fresh (Nat.le_refl _)
 refine ⟨.ref s1.heap.objs.size,upd H1 s1.heap.objs.size (.lst xs),I1.laid (t' :=s1.toks) (fun b u e=>Heap.get?_push_of_some _ e) (Nat.le_refl _) ?_,rfl,q _ hf⟩
 exact ⟨z,us,0,r,Heap.get?_push_size _ rfl⟩
end
noncomputable abbrev Sp:=List V->Hp->VK->XK->Prop
noncomputable abbrev CXT:=List Env->Hp->Shared->XK->Value->Shared->Prop
structure z0b (P:Program) (w:World) (K:PySem.W.Frag) (mg:Str->Option Value) (base:Heap) (A:Around) (outer:List Env) (s:Shared) (H:Hp):Prop where
 frames:A.frames=some outer
 mod:Mod K mg base
 bs:∀ b o,base.get? b=some o->s.heap.get? b=some o/\H b=none
 bsz:base.objs.size<=s.heap.objs.size
 funs:s.heap.FunFrames base outer
 frf:∀ b∈frs outer,H b=none
 hok:HOk P w H s.heap
 bare:AllBare s.gens
noncomputable def CE (outer:List Env) (P:Program) (w:World) (H:Hp) (s:Shared) (Q:VK) (u:Value) (s' :Shared):Prop:=
 ∃ v H',s'.os=s.os/\AllBare s'.gens/\Un (frs outer) [] H H' s.heap s'.heap/\HOk P w H' s'.heap/\jc v u/\Q v H'
noncomputable def CR (CX:CXT) (outer:List Env) (P:Program) (w:World) (H:Hp) (s:Shared) (Q:VK) (E:XK) (r:Result) (s' :Shared):Prop:=
 match r with
 | .ok (.ret u)=>CE outer P w H s Q u s'
 | .ok _=>False
 | .error e=>CX outer H s E e s'
structure jm (P:Program) (w:World) (K:PySem.W.Frag) (mg:Str->Option Value) (base:Heap) (CX:CXT) (k:Nat) (f:Addr) (fd:FuncData) (ps:List Str) (sp:Sp):Prop where
 len:∀ vs H Q E,sp vs H Q E->vs.length=ps.length
 run:∀ (A:Around) (outer:List Env) (s:Shared) (H:Hp) (args:Args) (us:List Value) (vs:List V) (Q:VK) (E:XK),WD k A->z0b P w K mg base A outer s H->BindsTo s fd args (ps.zip us)->ZM vs us->sp vs H Q E->
  codeAny (model P w) A (.call (.ref f) args) (CR CX outer P w H s Q E) s
section
variable {X:Cx} {pins:List (Addr×Obj)} {σ:St} {H:Hp} {s s' :Shared}
theorem Inv.env0 (I:Inv X pins σ H s):z0b X.prog X.w X.K X.mg X.base X.A X.stack s H:=
 ⟨I.ok.frames,I.ok.mod,I.bs,Nat.le_trans I.ok.bsz I.sz,I.stack,I.stkFree,I.hok,I.bare⟩
theorem Inv.after {Q:VK} {u:Value} (I:Inv X pins σ H s) (h:CE X.stack X.prog X.w H s Q u s'):EP X pins σ Q u s' :=by
 obtain ⟨v,H',os,bare,un,hok,r,q⟩:=h
 obtain ⟨hh,g,d,t,os'⟩:=s'
 obtain rfl:os' =s.os:=os
 exact ⟨v,H',I.call (h' :=hh) (g' :=g) (d' :=d) (t' :=t) (ch:=[]) un hok bare (fun b z=>absurd z (by simp)),r,q⟩
end
noncomputable def z0L (sp:Sp) (dvs:List V) (E:XK) (t:TA):TE:=fun σ H Q=>t σ H fun vs H1=>sp (vs++dvs) H1 Q E
noncomputable def Binds (K:PySem.W.Frag) (fd:FuncData) (ps:List Str) (ds:List Value):Prop:=
 ∀ (s:Shared) (us:List Value),K.In s.heap->(us++ds).length=ps.length->BindsTo s fd ⟨us,[]⟩ (ps.zip (us++ds))
theorem Binds.all {K:PySem.W.Frag} {fd:FuncData} {ps:List Str} (h:∀ us:List Value,us.length=ps.length->bindArgs fd ⟨us,[]⟩=pure (ps.zip us)):Binds K fd ps []:=fun s us _ hl=>by
 rw [List.append_nil] at hl ⊢
 exact .of_eq (h us hl)
noncomputable def W3 (CX:CXT) (X:Cx) (E:XK):Prop:=∀ (pins:List (Addr×Obj)) (σ:St) (H:Hp) (s:Shared) (e:Value) (s' :Shared),Inv X pins σ H s->CX X.stack H s E e s' ->X.xe e s'
section
variable {X:Cx} {CX:CXT} {k:Nat} {f C:Addr} {fd:FuncData} {ps:List Str} {sp:Sp} {dvs:List V} {ds:List Value} {E:XK} {x m:Str} {p pos apos:Pos} {e o:Expr} {es:List Expr} {ta:TE} {t:TA}
theorem gO {pins:List (Addr×Obj)} {σ:St} {H:Hp} {s:Shared} {Q:VK} {us:List Value} {vs:List V} (F:jm X.prog X.w X.K X.mg X.base CX k f fd ps sp) (hr:WD k X.A) (hb:Binds X.K fd ps ds) (hd:ZM dvs ds) (hx:W3 CX X E)
  (I:Inv X pins σ H s) (r:ZM vs us) (h:sp (vs++dvs) H Q E):wpAny (model X.prog X.w) X.A (call (.ref f) us) (EP X pins σ Q) X.xe s:=by
 have r2:ZM (vs++dvs) (us++ds):=r.append hd
 have hl:(us++ds).length=ps.length:=by rw [← r2.length]; exact F.len _ _ _ _ h
 refine wpAny_call (codeAny_mono (F.run X.A X.stack s H ⟨us,[]⟩ (us++ds) (vs++dvs) Q E hr I.env0 (hb s us I.kIn hl) r2 h) fun r s' hq=> ?_)
 cases r with
 | error e=>exact hx pins σ H s e s' I hq
 | ok fl=>
  cases fl with
  | ret u=>exact I.after hq
  | next=>exact False.elim hq
  | brk=>exact False.elim hq
  | cont=>exact False.elim hq
theorem vC (F:jm X.prog X.w X.K X.mg X.base CX k f fd ps sp) (hr:WD k X.A) (hg:Gl X x) (hm:X.mg x=some (.ref f)) (hk:PySem.W.keepIn X.K (.ref f)=true) (hb:Binds X.K fd ps ds) (hd:ZM dvs ds) (hx:W3 CX X E)
  (ha:PA X (e :: es) t) (hdb:(x == ("__debug__":Str))=false:=by decide) (he:starEach (e :: es) X.env=(false,eval e X.env) :: starEach es X.env:=by rfl) (hpl:(backTo pos (starEach es X.env)).any (·.1)=false:=by rfl):
  PE X (.Call (.Name x p) (e :: es) [] pos) (z0L sp dvs E t):=by
 intro pins s σ H Q I h
 refine wpAny_Call_Name_kw (UQ I hg hm ?_ hdb)
 refine PySem.W.callWith_K (h₀:=X.base) I.ok.mod.kin hk (thn (ha pos pins s σ H _ I h) fun us s1 ⟨vs,H1,I1,r,q⟩=>⟨I1.kIn, ?_⟩) he hpl
 exact gO F hr hb hd hx I1 r q
end
section
variable {X:Cx} {CX:CXT} {k:Nat} {f C:Addr} {fd:FuncData} {ps ks:List Str} {sp:Sp} {E:XK} {x m:Str} {p pos apos kpos:Pos} {e o:Expr} {es:List Expr} {kws:List Keyword} {te ta:TE} {t tk:TA} {nm:Option Str}
variable {g:List Value->List Value->List Value} {gV:List V->List V->List V}
end
structure zt (N P:List Str) (sc:Scope):Prop where
 kind:sc.kind= .function
 co:sc.isCoroutine=false
 gen:sc.isGenerator=false
 nd:N.Nodup
 pre:N.take P.length=P
 par:∀ x∈P,sc.names.lookup x=some .local\/sc.names.lookup x=some .cell
 nofree:∀ y∈sc.names,y.2 ≠ .free
theorem yL {kindOf:Str->Option NameKind} {x:Str}:∀ {binds:List (Str×Value)} {m:Str->Option Value},(∀ v,(x,v) ∉ binds)->bindL kindOf binds m x=m x
 | [],_,_=>rfl
 | (n,v) :: r,m,h=>by
  unfold bindL
  rw [yL fun w hw=>h w (List.mem_cons_of_mem _ hw)]
  split
  ·have:x ≠ n:=by rintro rfl; exact h v List.mem_cons_self
   simp [this]
  ·rfl
theorem yM {kindOf:Str->Option NameKind} {x:Str}:∀ {binds:List (Str×Value)} {m:Str->Option Value},(∀ v,(x,v) ∉ binds)->bindC kindOf binds m x=m x
 | [],_,_=>rfl
 | (n,v) :: r,m,h=>by
  unfold bindC
  rw [yM fun w hw=>h w (List.mem_cons_of_mem _ hw)]
  split
  ·rfl
  ·have:x ≠ n:=by rintro rfl; exact h v List.mem_cons_self
   simp [this]
theorem yN {kindOf:Str->Option NameKind} {x:Str} {v:Value}:∀ {P:List Str} {vs:List Value} {i:Nat} {m:Str->Option Value},P.Nodup->P[i]? =some x->vs[i]? =some v->kindOf x=some .local->
  bindL kindOf (P.zip vs) m x=some v
 | [],_,_,_,_,h,_,_=>by simp at h
 | _ :: _,[],_,_,_,_,h,_=>by simp at h
 | p :: P,w :: vs,0,m,nd,h1,h2,hk=>by
  simp at h1 h2; subst h1; subst h2
  show bindL kindOf ((p,w) :: P.zip vs) m p=_
  unfold bindL
  rw [yL fun v hv=>(List.nodup_cons.mp nd).1 (List.of_mem_zip hv).1,if_pos hk]
  simp
 | p :: P,w :: vs,i+1,m,nd,h1,h2,hk=>by
  show bindL kindOf ((p,w) :: P.zip vs) m x=_
  unfold bindL
  exact yN (i:=i) (List.nodup_cons.mp nd).2 (by simpa using h1) (by simpa using h2) hk
theorem yO {kindOf:Str->Option NameKind} {x:Str} {v:Value}:∀ {P:List Str} {vs:List Value} {i:Nat} {m:Str->Option Value},P.Nodup->P[i]? =some x->vs[i]? =some v->kindOf x ≠ some .local->
  bindC kindOf (P.zip vs) m x=some v
 | [],_,_,_,_,h,_,_=>by simp at h
 | _ :: _,[],_,_,_,_,h,_=>by simp at h
 | p :: P,w :: vs,0,m,nd,h1,h2,hk=>by
  simp at h1 h2; subst h1; subst h2
  show bindC kindOf ((p,w) :: P.zip vs) m p=_
  unfold bindC
  rw [yM fun v hv=>(List.nodup_cons.mp nd).1 (List.of_mem_zip hv).1,if_neg hk]
  simp
 | p :: P,w :: vs,i+1,m,nd,h1,h2,hk=>by
  show bindC kindOf ((p,w) :: P.zip vs) m x=_
  unfold bindC
  exact yO (i:=i) (List.nodup_cons.mp nd).2 (by simpa using h1) (by simpa using h2) hk
noncomputable def start (N:List Str) (vs:List V):St:=vs.map some++List.replicate (N.length - vs.length) none
noncomputable def Ul (CX:CXT) (P:Program) (w:World) (K:PySem.W.Frag) (mg:Str->Option Value) (base:Heap) (N:List Str) (qual:Str) (scope:Scope) (f:Addr) (cd:Value) (A:Around) (outer:List Env) (s:Shared) (H:Hp) (E:XK):Cx where
 prog:=P
 w:=w
 K:=K
 mg:=mg
 base:=base
 A:=A.deeper (envOfC qual scope s.heap.objs.size f cd)
 N:=N
 s₀:=s
 H₀:=H
 env:=envOfC qual scope s.heap.objs.size f cd
 outer:=outer
 stack:=envOfC qual scope s.heap.objs.size f cd :: outer
 ex:=[]
 calm:=true
 fn:=fun _=>true
 pn:=[]
 xe:=fun e s' =>wpAny (model P w) (A.deeper (envOfC qual scope s.heap.objs.size f cd)) (leaving (envOfC qual scope s.heap.objs.size f cd) e) (fun _ s'' =>CX outer H s E e s'') (fun e' s'' =>CX outer H s E e' s'') s'
theorem qN {sc:Scope} {n:Nat} {x:Str} (h:sc.names.lookup x=some .cell):∃ c,(cellsFrom n sc.names []).lookup x=some c:=by
 have q:=PySem.W.cellsFrom_some sc.names n [] (.inl h)
 exact Option.isSome_iff_exists.mp q
theorem vD {CX:CXT} {P:Program} {w:World} {K:PySem.W.Frag} {mg:Str->Option Value} {base:Heap} {N ps:List Str} {qual:Str} {scope:Scope} {f:Addr} {cd:Value} {A:Around} {outer:List Env} {s s1:Shared} {H:Hp} {E:XK} {us:List Value} {vs:List V}
  (S:zt N ps scope) (hd:A.handled=none) (e0:z0b P w K mg base A outer s H) (hl:vs.length=ps.length) (r:ZM vs us)
  (x:InCallC s s.heap.objs.size (bindL (envOfC qual scope s.heap.objs.size f cd).kindOf (ps.zip us) fun _=>none) (cellsFrom (s.heap.objs.size+1) scope.names []) (bindC (envOfC qual scope s.heap.objs.size f cd).kindOf (ps.zip us) fun _=>none) s1):
  Inv (Ul CX P w K mg base N qual scope f cd A outer s H E) [] (start N vs) H s1:=by
 have hpl:ps.length<=N.length:=by have:=congrArg List.length S.pre; rw [List.length_take] at this; omega
 obtain ⟨h1,tk,rfl,hk⟩:=x.done
 have noA:∀ b:Addr,b ∉ (Ul CX P w K mg base N qual scope f cd A outer s H E).ex:=fun b z=>absurd (show b∈([]:List Addr) from z) (by simp)
 refine ⟨⟨e0.mod,S.kind,rfl,rfl,Nat.le_refl _,fun y z c h1 h2=> ?_,fun y hy=> ?_,fun y c _ h=> ?_,fun _=>hd,Around.frames_deeper e0.frames, .inr ⟨rfl,rfl⟩,fun b z=>absurd z (noA b),e0.bs,e0.bsz,fun b _ _=>noA b,fun b z=>absurd z (noA b),e0.funs,e0.frf⟩,
  rfl,e0.bare,Un.kept hk,⟨_,x.toInCall.ns,fun i y v h1 h2 h3=> ?_⟩,fun y c h=>⟨_,x.cell y c h⟩,e0.hok.fresh (Nat.le_refl _),fun y c h=> ?_,fun p hp=>absurd (show p∈([]:List (Addr×Obj)) from hp) (by simp),e0.hok.kept hk, ?_⟩
 ·exact name_of_addr x.apart (PySem.mem_of_lookup h1) (PySem.mem_of_lookup h2)
 ·have hy:scope.names.lookup y=some .cell\/scope.names.lookup y=some .free:=hy
  rcases hy with hy | hy
  ·exact qN hy
  ·exact absurd rfl (S.nofree _ (PySem.mem_of_lookup hy))
 ·exact Nat.le_of_lt (x.above y c (PySem.mem_of_lookup h))
 ·have hi:i < vs.length:=by
   unfold start at h2
   by_cases hi:i < vs.length
   ·exact hi
   ·rw [List.getElem?_append_right (by simpa using hi)] at h2
    rw [List.getElem?_replicate] at h2
    split at h2 <;> cases h2
  have ha:vs[i]? =some v:=by
   unfold start at h2
   rw [List.getElem?_append_left (by simpa using hi),List.getElem?_map] at h2
   cases e:vs[i]? with
   | none=>rw [e] at h2; cases h2
   | some a=>rw [e] at h2; cases h2; rfl
  obtain ⟨u,hu,rv⟩:=r.get ha
  have hp:ps[i]? =some y:=by
   rw [← S.pre,List.getElem?_take_of_lt (by omega)]; exact h1
  have ndP:ps.Nodup:=by rw [← S.pre]; exact S.nd.sublist (List.take_sublist _ _)
  refine ⟨u,rv, ?_⟩
  rcases S.par y (List.mem_of_getElem? hp) with k | k
  ·exact .inl ⟨k,yN ndP hp hu k⟩
  ·obtain ⟨c,e⟩:=qN (n:=s.heap.objs.size+1) k
   refine .inr ⟨.inl k,c,e, ?_⟩
   have q:=x.cell y c e
   rw [yO ndP hp hu (by show scope.names.lookup y ≠ _; rw [k]; decide)] at q
   exact q
 ·exact e0.hok.fresh (Nat.le_of_lt (x.above y c (PySem.mem_of_lookup h)))
 ·unfold start
  show _=N.length
  rw [List.length_append,List.length_map,List.length_replicate]
  omega
theorem gP {CX:CXT} {P:Program} {w:World} {K:PySem.W.Frag} {mg:Str->Option Value} {base:Heap} {k:Nat} {f:Addr} {name qual:Str} {params:Arguments} {body:List Stmt} {scope:Scope} {dV kV doc pm cdv ct oc:Value} {an od:Option Addr}
  {osl:Array (Option Value)} {N ps:List Str} {sp:Sp} (lk:K.lookup f=some ⟨oc,od, .func (PySem.W.fnOf name qual params body scope dV kV doc pm an cdv ct),osl⟩) (hcd:PySem.W.codeIn K cdv qual=true) (S:zt N ps scope)
  (len:∀ vs H Q E,sp vs H Q E->vs.length=ps.length)
  (hbody:∀ (A:Around) (outer:List Env) (s:Shared) (H:Hp) (vs:List V) (Q:VK) (E:XK),WD k (A.deeper (envOfC qual scope s.heap.objs.size f cdv))->sp vs H Q E->
   ∃ t,PSs (Ul CX P w K mg base N qual scope f cdv A outer s H E) body t/\t { nx:=fun _ H' =>Q .non H',rt:=Q } (start N vs) H):
  jm P w K mg base CX (k+1) f (PySem.W.fnOf name qual params body scope dV kV doc pm an cdv ct) ps sp:=by
 refine ⟨len,fun A outer s H args us vs Q E hr e0 hb r hsp=> ?_⟩
 have hl:=len _ _ _ _ hsp
 have KX:K.In s.heap:=e0.mod.kin.keeps fun b o e=>(e0.bs b o e).1
 have lim:s.heap.NoLimit:=e0.mod.nolimit.keeps fun b o e=>(e0.bs b o e).1
 have hkind:∀ y∈ps.zip us,scope.names.lookup y.1=some .local\/(scope.names.lookup y.1=some .cell/\((cellsFrom (s.heap.objs.size+1) scope.names []).lookup y.1).isSome=true):=fun ⟨n,v⟩ hy=>by
  rcases S.par n (List.of_mem_zip hy).1 with q | q
  ·exact .inl q
  ·exact .inr ⟨q,PySem.W.cellsFrom_some _ _ _ (.inl q)⟩
 refine codeAny_call_function hr.depth (KX _ _ lk) rfl S.co S.gen rfl (PySem.W.codeRec_of KX hcd) (hb _ _ _ _ ?_)
 refine wpAny_newFunctionEnv_cells S.kind hkind fun env he s1 x=> ?_
 subst he
 refine ⟨lim.keeps x.toInCall.keep,codeAny_func ?_⟩
 obtain ⟨t,ht,hq⟩:=hbody A outer s H vs Q E (hr.deeper _) hsp
 have I:Inv (Ul CX P w K mg base N qual scope f cdv A outer s H E) [] (start N vs) H s1:=vD S hr.hd e0 hl r x
 refine wpAny_mono (ht [] s1 (start N vs) H _ I hq) (fun fl s' hs=> ?_) fun e s' hs=>hs
 have fin:∀ {σ' :St} {H' :Hp} {v:V} {u:Value},Inv (Ul CX P w K mg base N qual scope f cdv A outer s H E) [] σ' H' s' ->jc v u->Q v H' ->CE outer P w H s Q u s' :=
  fun {σ' H' v u} J rv q=>⟨v,H',J.os,J.bare,J.base,J.hok,rv,q⟩
 cases fl with
 | ret u=>
  obtain ⟨v,σ',H',J,rv,q⟩:=hs
  exact fin J rv q
 | next=>
  obtain ⟨σ',H',J,q⟩:=hs
  exact fin (v:=V.non) (u:=Value.none) J rfl q
 | brk=>
  obtain ⟨_,_,_,q⟩:=hs
  exact False.elim q
 | cont=>
  obtain ⟨_,_,_,q⟩:=hs
  exact False.elim q
end L2
namespace L2
open PySem PySem.Spec PyProof.Rows
section
variable {X:Cx} {x:Str} {p pos:Pos} {e:Expr} {es:List Expr} {t:TA} {id T:String} {r:List V->Hp->VK->Prop}
noncomputable def tCB (r:List V->Hp->VK->Prop) (t:TA):TE:=fun σ H Q=>t σ H fun vs H1=>r vs H1 Q
theorem Wn (hc:JG X (.builtin id) r) (hg:Gl X x) (hm:X.mg x=none) (hv:bootBuiltins x=some (.builtin id)) (ha:PA X (e :: es) t) (hn:x ≠ "__name__":=by decide) (hdb:(x == ("__debug__":Str))=false:=by decide)
  (he:starEach (e :: es) X.env=(false,eval e X.env) :: starEach es X.env:=by rfl) (hpl:(backTo pos (starEach es X.env)).any (·.1)=false:=by rfl):PE X (.Call (.Name x p) (e :: es) [] pos) (tCB r t):=by
 intro pins s σ H Q I h
 refine wpAny_Call_Name_kw (u6 I hg hm hv ?_ hn hdb)
 exact PyProof.Rows.callWith_builtin1 (thn (ha pos pins s σ H _ I h) fun us s1 ⟨vs,H1,I1,r1,q1⟩=>hc pins s1 σ H1 vs us Q I1 r1 q1) he hpl
theorem uD (hc:JG X (.type T) r) (hg:Gl X x) (hm:X.mg x=none) (hv:bootBuiltins x=some (.type T)) (ha:PA X (e :: es) t) (hn:x ≠ "__name__":=by decide) (hdb:(x == ("__debug__":Str))=false:=by decide)
  (he:starEach (e :: es) X.env=(false,eval e X.env) :: starEach es X.env:=by rfl) (hpl:(backTo pos (starEach es X.env)).any (·.1)=false:=by rfl):PE X (.Call (.Name x p) (e :: es) [] pos) (tCB r t):=by
 intro pins s σ H Q I h
 refine wpAny_Call_Name_kw (u6 I hg hm hv ?_ hn hdb)
 exact PyProof.Rows.callWith_type1 (thn (ha pos pins s σ H _ I h) fun us s1 ⟨vs,H1,I1,r1,q1⟩=>hc pins s1 σ H1 vs us Q I1 r1 q1) he hpl
end
end L2
namespace HT
open PySem PyProof.Rows
section
open PySem.SeqAt
open PySem.AutoSeq1 (wpAny_loadPart')
open PySem.MeetsSeq PySem.MeetsSeq2 PySem.MeetsSeq3
end
section
variable {prog:Program} {w:World} {A:Around} {E:Value->Shared->Prop} {s:Shared}
theorem cat_tup {t b:Addr} {vs ws:List Value} {Q:Value->Shared->Prop} (ht:IsTup s.heap t vs.toArray) (hb:IsTup s.heap b ws.toArray) (hv:vs ≠ [])
  (h1:ws=[]->Q (.ref t) s) (h2:ws ≠ []->Q (.ref s.heap.objs.size) { s with heap:=s.heap.push { cls:= .type "tuple",data:= .seq (vs++ws).toArray } })
  (hsz:vs.length+ws.length<=sizeLine):wpAny (model prog w) A (binaryOp .Add (.ref t) (.ref b)) Q E s:=by
 obtain ⟨⟨cls,dd,data,sl⟩,ho,hc,n,hd⟩:=id ht
 obtain ⟨⟨cls2,dd2,data2,sl2⟩,ho2,hc2,n2,hd2⟩:=id hb
 simp only at hc hd hc2 hd2
 subst hc hd hc2 hd2
 have e:vs.toArray++ws.toArray=(vs++ws).toArray:=by simp
 by_cases hw:ws=[]
 ·exact concat_meets ⟨_,ho,rfl⟩ ⟨_,ho2,rfl⟩ noFill_tuple_add seq_tuple_add PySem.F.slot_tuple_add PySem.F.entry_tuple_add (PySem.F.args_tuple_add_2 _ _)
   (tuple_addW1 t b vs.toArray ws.toArray n n2 dd dd2 sl sl2 (by simpa using hv) (by simp [hw])) ⟨ho,ho2,h1 hw⟩
 ·refine concat_meets ⟨_,ho,rfl⟩ ⟨_,ho2,rfl⟩ noFill_tuple_add seq_tuple_add PySem.F.slot_tuple_add PySem.F.entry_tuple_add (PySem.F.args_tuple_add_2 _ _)
   (tuple_addW2 t b vs.toArray ws.toArray n n2 dd dd2 sl sl2 (by simpa using hv) (by simpa using hw) (by rw [List.size_toArray,List.size_toArray]; exact hsz)) ⟨ho,ho2, ?_⟩
  rw [e]
  exact h2 hw
noncomputable def sIx (n d:Nat):Option Int->Nat
 | none=>d
 | some v=>if v < 0 then (v+(n:Int)).toNat else min v.toNat n
theorem sIx_none (n d:Nat):sIx n d none=d:=rfl
theorem sIx_nat (n d k:Nat):sIx n d (some (k:Int))=min k n:=by
 show (if (k:Int) < 0 then ((k:Int)+(n:Int)).toNat else min (k:Int).toNat n)=min k n
 rw [if_neg (by omega),Int.toNat_natCast]
theorem gQ (n d:Nat) (hd:d<=n) (o:Option Int):sIx n d o<=n:=by
 cases o with
 | none=>exact hd
 | some v=>
  show (if v < 0 then (v+(n:Int)).toNat else min v.toNat n)<=n
  by_cases hv:v < 0
  ·rw [if_pos hv]; omega
  ·rw [if_neg hv]; exact Nat.min_le_right _ _
theorem vF (v:Int) (n d:Nat):(if v < 0 then max (v+(n:Int)) 0 else min v (n:Int))=((sIx n d (some v):Nat):Int):=by
 show (if v < 0 then max (v+(n:Int)) 0 else min v (n:Int))=(((if v < 0 then (v+(n:Int)).toNat else min v.toNat n):Nat):Int)
 by_cases hv:v < 0
 ·simp only [if_pos hv]; omega
 ·simp only [if_neg hv]; omega
theorem QA (lo hi:Option Int) (n:Nat):Builtin.Slice.sliceAdjust lo hi 1 (n:Int)=(((sIx n 0 lo:Nat):Int),((sIx n n hi:Nat):Int)):=by
 have h1:¬ ((1:Int) < 0):=by omega
 unfold Builtin.Slice.sliceAdjust
 simp only [h1,if_false]
 refine Prod.ext ?_ ?_
 ·cases lo with
  | none=>rfl
  | some v=>exact vF v n 0
 ·cases hi with
  | none=>rfl
  | some v=>exact vF v n n
theorem QB (i j:Nat):Builtin.Slice.slicePlaces (i:Int) (j:Int) 1=j - i:=by
 unfold Builtin.Slice.slicePlaces
 have h1:(1:Int) > 0:=by omega
 simp only [h1,if_true,Int.ediv_one]
 split <;> omega
theorem UB {v:Value} {o:Option Int} {Q:Option Int->Shared->Prop} (p:IsPart v o) (h:Q o s):wpAny (model prog w) A (Builtin.Slice.slicePartIndex v) Q E s:=by
 cases p with
 | none=>exact slicePart_none h
 | int i t=>exact slicePart_int h
theorem sliceApplied_gen {sl:Addr} {vl vu:Value} {lo hi:Option Int} {n:Nat} {Q:Int×Int×Nat->Shared->Prop} (hs:s.heap.IsSliceOf sl vl vu .none) (pl:IsPart vl lo) (pu:IsPart vu hi)
  (h:Q (((sIx n 0 lo:Nat):Int),1,sIx n n hi - sIx n 0 lo) s):wpAny (model prog w) A (Builtin.Slice.sliceApplied (.ref sl) (pure (n:Int))) Q E s:=by
 obtain ⟨os,hos,hcs,hds⟩:=id hs
 unfold Builtin.Slice.sliceApplied Builtin.Slice.sliceFields
 refine wpAny_bind (wpAny_bind (wpAny_field hos hds (x:=vl) rfl (wpAny_bind (wpAny_field hos hds (x:=vu) rfl (wpAny_bind (wpAny_field hos hds (x:= .none) rfl (wpAny_pure ?_)))))))
 refine wpAny_bind (slicePart_none ?_)
 show wpAny _ _ (if ((1:Int) == 0)=true then _ else _) _ _ s
 rw [if_neg (by decide)]
 refine wpAny_bind (UB pl (wpAny_bind (UB pu (wpAny_bind (wpAny_pure ?_)))))
 show wpAny _ _ (match Builtin.Slice.sliceAdjust lo hi 1 (n:Int) with | (lo,hi)=>pure (lo,(1:Int),Builtin.Slice.slicePlaces lo hi 1)) _ _ s
 rw [QA lo hi n]
 show wpAny _ _ (pure (((sIx n 0 lo:Nat):Int),(1:Int),Builtin.Slice.slicePlaces ((sIx n 0 lo:Nat):Int) ((sIx n n hi:Nat):Int) 1)) _ _ s
 rw [QB]
 exact wpAny_pure h
theorem xL (xs:Array Value) (i k:Nat):((List.range k).filterMap fun (m:Nat)=>xs[((i:Int)+(m:Int)*1).toNat]?).toArray=((xs.toList.drop i).take k).toArray:=by
 have e:(fun (m:Nat)=>xs[((i:Int)+(m:Int)*1).toNat]?)=fun m=>xs[i+m]? :=by
  funext m
  have:((i:Int)+(m:Int)*1).toNat=i+m:=by omega
  rw [this]
 rw [e]
 have:=pick_run xs i k
 rw [List.filterMap_map] at this
 have e2:((fun x=>xs[x]?) ∘ fun x=>i+x)=fun m=>xs[i+m]? :=rfl
 rw [e2] at this
 rw [this]
theorem getItem_tuple_cut {t sl:Addr} {items:Array Value} {vl vu:Value} {lo hi:Option Int} {Q:Value->Shared->Prop} (ht:IsTup s.heap t items) (hs:s.heap.IsSliceOf sl vl vu .none) (pl:IsPart vl lo) (pu:IsPart vu hi)
  (hw:¬ (sIx items.size 0 lo=0/\sIx items.size items.size hi=items.size))
  (h:Q (.ref s.heap.objs.size) { s with heap:=s.heap.push { cls:= .type "tuple",data:= .seq ((items.toList.drop (sIx items.size 0 lo)).take (sIx items.size items.size hi - sIx items.size 0 lo)).toArray } })
  (hsz:items.size<=sizeLine):wpAny (model prog w) A (getItem (.ref t) (.ref sl)) Q E s:=by
 have htake:sizeOk (.seq ((items.toList.drop (sIx items.size 0 lo)).take (sIx items.size items.size hi - sIx items.size 0 lo)).toArray):=by
  show ((items.toList.drop (sIx items.size 0 lo)).take (sIx items.size items.size hi - sIx items.size 0 lo)).toArray.size<=sizeLine
  rw [List.size_toArray,List.length_take,List.length_drop,Array.length_toList]
  omega
 have hj:sIx items.size items.size hi<=items.size:=gQ _ _ (Nat.le_refl _) hi
 obtain ⟨os,hos,hcs,hds⟩:=id hs
 have hTs:s.TypeIs (.ref sl) "slice":=⟨os,hos,hcs⟩
 unfold getItem
 try with_reducible refine wpAny_holding ?_
 first | refine wpAny_bind (wpAny_pure ?_) | skip
 refine wpAny_bind (wpAny_sequenceKey ht.typeIs (by decide) ?_)
 refine wpAny_bind (wpAny_callSpecial?_slot (name:=Str.ofString "__getitem__") ht.typeIs PyProof.Rows.slot_tuple_getitem
  (wpAny_call_entry PyProof.Rows.slot_tuple_getitem ht.typeIs entry_tuple_getitem ?_ (args_tuple_getitem _ _)))
 show wpAny _ _ (Builtin.Tuple.tupleItemsOf (.ref t) >>= _) _ _ s
 refine wpAny_bind (tupleItemsOf_ ht ?_)
 refine wpAny_bind (wpAny_typeOf hTs ?_)
 rw [if_pos (by decide)]
 refine wpAny_bind (sliceApplied_gen hs pl pu ?_)
 have hno:¬ ((((sIx items.size 0 lo:Nat):Int) == 0 && (1:Int) == 1 && (sIx items.size items.size hi - sIx items.size 0 lo) == items.size)=true):=by
  intro q
  rw [Bool.and_eq_true,Bool.and_eq_true] at q
  have q1:((sIx items.size 0 lo:Nat):Int)=0:=eq_of_beq q.1.1
  have q2:sIx items.size items.size hi - sIx items.size 0 lo=items.size:=eq_of_beq q.2
  exact hw ⟨by omega,by omega⟩
 show wpAny _ _ (if (((sIx items.size 0 lo:Nat):Int) == 0 && (1:Int) == 1 && (sIx items.size items.size hi - sIx items.size 0 lo) == items.size)=true then _ else _) _ _ s
 rw [if_neg hno,xL]
 first
  | exact wpAny_bind (m:=Builtin.Tuple.tupleExact _) (wpAny_newObj_type (wpAny_pure ⟨_,rfl,wpAny_pure h⟩) htake)
  | exact wpAny_bind (m:=Builtin.Tuple.tupleExact _) (wpAny_newObj_type (wpAny_bind (wpAny_pure (wpAny_pure ⟨_,rfl,wpAny_pure h⟩))) htake)
  | exact wpAny_bind (wpAny_bind (m:=Builtin.Tuple.tupleExact _) (wpAny_newObj_type (wpAny_pure (wpAny_pure ⟨_,rfl,wpAny_pure h⟩)) htake))
  | exact wpAny_bind (wpAny_bind (m:=Builtin.Tuple.tupleExact _) (wpAny_newObj_type (wpAny_pure ⟨_,rfl,wpAny_pure h⟩) htake))
end
end HT
namespace L2
open PySem PySem.Spec PyProof.Rows
noncomputable abbrev TO:=St->Hp->(Option Int->Hp->Prop)->Prop
noncomputable def PO (X:Cx) (e:Option Expr) (t:TO):Prop:=
 ∀ (pins:List (Addr×Obj)) (s:Shared) (σ:St) (H:Hp) (Q:Option Int->Hp->Prop),Inv X pins σ H s->t σ H Q->
  wpAny (model X.prog X.w) X.A (evalPart e X.env) (fun u s' =>∃ o H',Inv X pins σ H' s' /\IsPart u o/\Q o H') X.xe s
noncomputable def kx:TO:=fun _ H Q=>Q none H
noncomputable def z0M (t:TE):TO:=fun σ H Q=>t σ H fun x H1=>∃ i,x= .int i/\Q (some i) H1
section
variable {X:Cx} {e:Expr} {te:TE} {lo hi:Option Expr} {tl th:TO} {pos p2:Pos}
theorem ky:PO X none kx:=by
 intro pins s σ H Q I h
 rw [evalPart_none]
 exact wpAny_pure ⟨none,H,I, .none,h⟩
theorem kz (h:PE X e te):PO X (some e) (z0M te):=by
 intro pins s σ H Q I hw
 rw [evalPart_some]
 refine thn (h pins s σ H _ I hw) fun u s1 ⟨x,H1,I1,r1,q1⟩=> ?_
 obtain ⟨i,rfl,q⟩:=q1
 obtain ⟨t,rfl⟩:=r1
 exact ⟨some i,H1,I1, .int i t,q⟩
noncomputable def SlR (X:Cx) (r:V->Option Int->Option Int->Hp->VK->Prop):Prop:=
 ∀ (pins:List (Addr×Obj)) (s:Shared) (σ:St) (H:Hp) (x:V) (v vl vu:Value) (lo hi:Option Int) (sl:Addr) (Q:VK),Inv X pins σ H s->jc x v->s.heap.IsSliceOf sl vl vu .none->IsPart vl lo->IsPart vu hi->r x lo hi H Q->
  ∃ T id,typeLookup (.type T) "__getitem__"=pure (some (.builtin id))/\s.TypeIs v T/\wpAny (model X.prog X.w) X.A (getItem v (.ref sl)) (EP X pins σ Q) X.xe s
theorem SlR.or {r r' :V->Option Int->Option Int->Hp->VK->Prop} (h:SlR X r) (h' :SlR X r'):SlR X (fun x lo hi H Q=>r x lo hi H Q\/r' x lo hi H Q):=by
 intro pins s σ H x v vl vu lo hi sl Q I rx hs pl pu q
 rcases q with q | q
 ·exact h pins s σ H x v vl vu lo hi sl Q I rx hs pl pu q
 ·exact h' pins s σ H x v vl vu lo hi sl Q I rx hs pl pu q
noncomputable def tSl (r:V->Option Int->Option Int->Hp->VK->Prop) (te:TE) (tl th:TO):TE:=fun σ H Q=>te σ H fun x H1=>tl σ H1 fun l H2=>th σ H2 fun u H3=>r x l u H3 Q
theorem xM {r:V->Option Int->Option Int->Hp->VK->Prop} (hr:SlR X r) (he:PE X e te) (hl:PO X lo tl) (hu:PO X hi th):PE X (.Subscript e (.Slice lo hi none p2) pos) (tSl r te tl th):=by
 intro pins s σ H Q I h
 refine Subscript_ (thn (he pins s σ H _ I h) fun v s1 ⟨x,H1,I1,r1,q1⟩=> ?_)
 refine wpAny_Slice (thn (hl pins s1 σ H1 _ I1 q1) fun vl s2 ⟨l,H2,I2,pl,q2⟩=>thn (hu pins s2 σ H2 _ I2 q2) fun vu s3 ⟨u,H3,I3,pu,q3⟩=> ?_)
 rw [evalPart_none]
 refine wpAny_pure ?_
 have I4:Inv X pins σ H3 { s3 with heap:=s3.heap.push { cls:= .type "slice",data:= .fields #[vl,vu, .none] } }:=I3.kept (t' :=s3.toks) fun b ob q=>Heap.get?_push_of_some _ q
 obtain ⟨T,id,hT,ht,hg⟩:=hr pins { s3 with heap:=s3.heap.push { cls:= .type "slice",data:= .fields #[vl,vu, .none] } } σ H3 x v vl vu l u s3.heap.objs.size Q I4 r1 (Heap.IsSliceOf.new ..) pl pu q3
 show wpAny (model X.prog X.w) X.A (subscriptTail e (.Slice lo hi none p2) v (.ref s3.heap.objs.size)) (EP X pins σ Q) X.xe { s3 with heap:=s3.heap.push { cls:= .type "slice",data:= .fields #[vl,vu, .none] } }
 exact tail_any (ops:=[.ref s3.heap.objs.size,v]) ht hT hg (by with_unfolding_all rfl)
noncomputable def XM (xs:List V) (lo hi:Option Int):List V:=(xs.drop (HT.sIx xs.length 0 lo)).take (HT.sIx xs.length xs.length hi - HT.sIx xs.length 0 lo)
theorem uE (xs:List V) (lo hi:Option Int):(XM xs lo hi).length<=xs.length:=by
 unfold XM
 rw [List.length_take,List.length_drop]
 omega
noncomputable def rSlT (K:PySem.W.Frag):V->Option Int->Option Int->Hp->VK->Prop:=fun x lo hi H Q=>∃ a xs,x= .ref a/\SqT K H a xs/\
 ¬ (HT.sIx xs.length 0 lo=0/\HT.sIx xs.length xs.length hi=xs.length)/\∀ p,H p=none->Q (.ref p) (upd H p (.tup (XM xs lo hi)))
theorem gR:SlR X (rSlT X.K):=by
 intro pins s σ H x v vl vu lo hi sl Q I rx hs pl pu h
 obtain ⟨a,xs,rfl,hx,hw,q⟩:=h
 cases rx
 obtain ⟨its,r,ht,hz⟩:=I.tuple hx
 have hlen:its.toArray.size=xs.length:=by rw [List.size_toArray]; exact r.length.symm
 refine ⟨"tuple",_,PyProof.Rows.slot_tuple_getitem.lookup,ht.typeIs, ?_⟩
 refine HT.getItem_tuple_cut ht hs pl pu (by rw [hlen]; exact hw) ?_ (by rw [hlen]; exact hz)
 rw [hlen]
 refine ⟨.ref s.heap.objs.size,_,I.laid (t' :=s.toks) (o:= .tup (XM xs lo hi)) (fun b ob q=>Heap.get?_push_of_some _ q) (Nat.le_refl _) ?_,rfl,q _ (I.hok.fresh (Nat.le_refl _))⟩
 exact ⟨Nat.le_trans (uE xs lo hi) hz,_,(r.drop (HT.sIx xs.length 0 lo)).take (HT.sIx xs.length xs.length hi - HT.sIx xs.length 0 lo),IsTup.new _ _⟩
noncomputable def z0N (K:PySem.W.Frag):R2:=fun x y H Q=>∃ a b xs ys,x= .ref a/\y= .ref b/\SqT K H a xs/\SqT K H b ys/\xs ≠ []/\xs.length+ys.length<=sizeLine/\
 (ys=[]->Q (.ref a) H)/\(ys ≠ []->∀ p,H p=none->Q (.ref p) (upd H p (.tup (xs++ys))))
theorem ZM.nil_iff {xs:List V} {us:List Value} (r:ZM xs us):us=[]↔xs=[]:=by
 cases r with
 | nil=>simp
 | cons _ _=>simp
theorem kA:OpR X (binaryOp .Add) (z0N X.K):=by
 intro pins s σ H x y v u Q I rx ry h
 obtain ⟨a,b,xs,ys,rfl,rfl,ha,hb,hx,hz,q1,q2⟩:=h
 cases rx
 cases ry
 obtain ⟨its,r1,p1,_⟩:=I.tuple ha
 obtain ⟨its2,r2,p2,_⟩:=I.tuple hb
 refine HT.cat_tup p1 p2 (fun z=>hx (r1.nil_iff.mp z)) (fun z=>⟨.ref a,H,I,rfl,q1 (r2.nil_iff.mp z)⟩) (fun z=> ?_) (by rw [← r1.length,← r2.length]; exact hz)
 refine ⟨.ref s.heap.objs.size,_,I.laid (t' :=s.toks) (o:= .tup (xs++ys)) (fun b ob q=>Heap.get?_push_of_some _ q) (Nat.le_refl _) ?_,rfl,q2 (fun w=>z (r2.nil_iff.mpr w)) _ (I.hok.fresh (Nat.le_refl _))⟩
 exact ⟨by rw [List.length_append]; exact hz,_,r1.append r2,IsTup.new _ _⟩
end
end L2
namespace L2
open PySem PySem.Spec PyProof.Rows
noncomputable def ixN (n:Nat) (i:Int):Option Nat:=if 0<=i then (if i < n then some i.toNat else none) else if -(n:Int)<=i then some (i+n).toNat else none
noncomputable def atI {α:Type} (xs:List α) (i:Int):Option α:=(ixN xs.length i).bind fun j=>xs[j]?
theorem kB {n:Nat} {i:Int} {j:Nat} (h:ixN n i=some j):seqIndex? i n=some j/\j < n/\ -(n:Int)<=i/\i < n:=by
 unfold ixN at h
 by_cases h0:0<=i
 ·rw [if_pos h0] at h
  by_cases h1:i < n
  ·rw [if_pos h1] at h
   have e:i.toNat=j:=Option.some.inj h
   exact ⟨by rw [seqIndex_of h0 h1,e],by omega,by omega,h1⟩
  ·rw [if_neg h1] at h; cases h
 ·rw [if_neg h0] at h
  by_cases h1: -(n:Int)<=i
  ·rw [if_pos h1] at h
   have e:(i+n).toNat=j:=Option.some.inj h
   exact ⟨by rw [seqIndex_neg (by omega) h1,e],by omega,h1,by omega⟩
  ·rw [if_neg h1] at h; cases h
theorem YN {α:Type} {xs:List α} {i:Int} {v:α} (h:atI xs i=some v):∃ j,seqIndex? i xs.length=some j/\xs[j]? =some v/\j < xs.length/\ -(xs.length:Int)<=i/\i < xs.length:=by
 unfold atI at h
 cases e:ixN xs.length i with
 | none=>rw [e] at h; cases h
 | some j=>
  rw [e] at h
  obtain ⟨h1,h2,h3,h4⟩:=kB e
  exact ⟨j,h1,h,h2,h3,h4⟩
theorem JH {α:Type} {xs:List α} {j:Nat} {v:α} (h:xs[j]? =some v):atI xs (j:Int)=some v:=by
 have hj:j < xs.length:=(List.getElem?_eq_some_iff.mp h).1
 have e:ixN xs.length (j:Int)=some j:=by
  unfold ixN
  rw [if_pos (by omega),if_pos (by omega)]; simp
 unfold atI; rw [e]; exact h
noncomputable def vG (b:Expr):Prop:=∀ o i,subscripted b false o i=operate [o,i] (getItem o i)
noncomputable def IxR (X:Cx) (r:R2):Prop:=
 ∀ (value slice:Expr) (pins:List (Addr×Obj)) (s:Shared) (σ:St) (H:Hp) (x y:V) (v u:Value) (Q:VK),Inv X pins σ H s->jc x v->jc y u->r x y H Q->
  subscripted slice false v u=operate [v,u] (getItem v u)->wpAny (model X.prog X.w) X.A (subscriptTail value slice v u) (EP X pins σ Q) X.xe s
noncomputable def MtR (X:Cx) (id:String) (r:V->List V->Hp->VK->Prop):Prop:=
 ∀ (pins:List (Addr×Obj)) (s:Shared) (σ:St) (H:Hp) (x:V) (xs:List V) (v:Value) (us:List Value) (Q:VK),Inv X pins σ H s->jc x v->ZM xs us->r x xs H Q->
  wpAny (model X.prog X.w) X.A (call (.builtin id) (v :: us)) (EP X pins σ Q) X.xe s
section
variable {X:Cx} {a b:Expr} {ta tb:TE} {pos:Pos}
theorem IxR.or {r r' :R2} (h:IxR X r) (h' :IxR X r'):IxR X (fun x y H Q=>r x y H Q\/r' x y H Q):=by
 intro value slice pins s σ H x y v u Q I rx ry q hs
 rcases q with q | q
 ·exact h value slice pins s σ H x y v u Q I rx ry q hs
 ·exact h' value slice pins s σ H x y v u Q I rx ry q hs
theorem z0O {r:R2} (hr:IxR X r) (ha:PE X a ta) (hb:PE X b tb) (hs:vG b):PE X (.Subscript a b pos) (tOp r ta tb):=by
 intro pins s σ H Q I h
 exact Subscript_ (z0C ha hb I h fun v u s2 x y H2 I2 rx ry q=>hr a b pins s2 σ H2 x y v u Q I2 rx ry q (hs _ _))
noncomputable def rIxL (K:PySem.W.Frag):R2:=fun x y H Q=>∃ p xs i v,x= .ref p/\y= .int i/\SqL K H p xs/\atI xs i=some v/\Q v H
noncomputable def rIxT (K:PySem.W.Frag):R2:=fun x y H Q=>∃ p xs i v,x= .ref p/\y= .int i/\SqT K H p xs/\atI xs i=some v/\Q v H
noncomputable def rIxS:R2:=fun x y H Q=>∃ z i c,x= .str z/\y= .int i/\z.length<=sizeLine/\atI z.cps.toList i=some c/\Q (.str ⟨#[c]⟩) H
theorem kC:IxR X (rIxL X.K):=by
 intro value slice pins s σ H x y v u Q I rx ry h hs
 obtain ⟨p,xs,i,z,rfl,rfl,hq,he,q⟩:=h
 cases rx
 obtain ⟨t,rfl⟩:=ry
 obtain ⟨its,r,pl,hz⟩:=I.list hq
 obtain ⟨j,h1,h2,h3,h4,h5⟩:=YN he
 obtain ⟨w,ew,rw'⟩:=r.get h2
 have hl:=r.length
 have hn:=UA
 have fin:EP X pins σ Q w s:=⟨z,H,I,rw',q⟩
 by_cases h0:0<=i
 ·have hj:i.toNat=j:=by
   rw [seqIndex_of h0 h5] at h1
   exact Option.some.inj h1
  exact item_listR pl.isList h0 (by omega) (by rw [hj]; simpa using ew) fin hs
 ·have hj:(i+(its.toArray.size:Int)).toNat=j:=by
   rw [seqIndex_neg (by omega) h4] at h1
   rw [List.size_toArray,← hl]
   exact Option.some.inj h1
  exact subscriptTail_builtinR (x:=w) pl.isList.typeIs slot_list_getitem.lookup
   (wpAny_getItem_list_neg (Q:=fun r s' =>r=w/\EP X pins σ Q r s') pl.isList (by omega) (by rw [List.size_toArray] <;> omega) (by omega) (by rw [hj]; simpa using ew) ⟨rfl,fin⟩) hs
theorem gS:IxR X (rIxT X.K):=by
 intro value slice pins s σ H x y v u Q I rx ry h hs
 obtain ⟨p,xs,i,z,rfl,rfl,hq,he,q⟩:=h
 cases rx
 obtain ⟨t,rfl⟩:=ry
 obtain ⟨its,r,pl,hz⟩:=I.tuple hq
 obtain ⟨j,h1,h2,h3,h4,h5⟩:=YN he
 obtain ⟨w,ew,rw'⟩:=r.get h2
 have hl:=r.length
 have hn:=UA
 have fin:EP X pins σ Q w s:=⟨z,H,I,rw',q⟩
 exact subscriptTail_builtinR (x:=w) pl.typeIs slot_tuple_getitem.lookup
  (getItem_tuple (j:=j) (Q:=fun r s' =>r=w/\EP X pins σ Q r s') pl (by omega) (by omega) (by rw [List.size_toArray,← hl]; exact h1) (by simpa using ew) ⟨rfl,fin⟩) hs
theorem gT:IxR X rIxS:=by
 intro value slice pins s σ H x y v u Q I rx ry h hs
 obtain ⟨z,i,c,rfl,rfl,hz,he,q⟩:=h
 obtain ⟨t,rfl⟩:=rx
 obtain ⟨t',rfl⟩:=ry
 obtain ⟨j,h1,h2,h3,h4,h5⟩:=YN he
 have hl:z.cps.toList.length=z.length:=by simp [Str.length]
 rw [hl] at h1 h4 h5
 have hn:=UA
 exact tail_any (typeIs_str s z t) slot_str_getitem.lookup (getItem_str (c:=c) (by
  have e1:decide (i < -(2 ^ 63:Int))=false:=decide_eq_false (by omega)
  have e2:decide (i ≥ 2 ^ 63)=false:=decide_eq_false (by omega)
  rw [e1,e2,Bool.or_false]) (by rw [h1]; simpa using h2) ⟨.str ⟨#[c]⟩,H,I.tok _,⟨_,rfl⟩,q⟩) hs
noncomputable def rIx (K:PySem.W.Frag):R2:=fun x y H Q=>rIxL K x y H Q\/rIxT K x y H Q\/rIxS x y H Q
theorem gU:IxR X (rIx X.K):=kC.or (gS.or gT)
theorem yP (lo hi:Option Int) (n:Nat):(sliceBounds lo hi none n).1=((HT.sIx n 0 lo:Nat):Int)/\(sliceBounds lo hi none n).2.1=((HT.sIx n n hi:Nat):Int)/\(sliceBounds lo hi none n).2.2=1:=by
 refine ⟨?_, ?_,rfl⟩
 ·cases lo with
  | none=>simp [sliceBounds,HT.sIx]
  | some i=>
   simp only [sliceBounds,HT.sIx,Option.getD_none,show (1:Int) > 0 by decide,if_true]
   by_cases h:i < 0
   ·simp only [h,if_true] <;> omega
   ·simp only [h,if_false] <;> omega
 ·cases hi with
  | none=>simp [sliceBounds,HT.sIx]
  | some i=>
   simp only [sliceBounds,HT.sIx,Option.getD_none,show (1:Int) > 0 by decide,if_true]
   by_cases h:i < 0
   ·simp only [h,if_true] <;> omega
   ·simp only [h,if_false] <;> omega
theorem US (its:List Value) (lo hi:Option Int):slicePick its.toArray lo hi none=((its.drop (HT.sIx its.length 0 lo)).take (HT.sIx its.length its.length hi - HT.sIx its.length 0 lo)).toArray:=by
 obtain ⟨h1,h2,h3⟩:=yP lo hi its.toArray.size
 unfold slicePick
 rw [h1,h2,h3]
 simp only [sliceRange_one,pick_run,List.size_toArray] <;> rfl
noncomputable def rSlL (K:PySem.W.Frag):V->Option Int->Option Int->Hp->VK->Prop:=fun x lo hi H Q=>∃ a xs,x= .ref a/\SqL K H a xs/\∀ p,H p=none->Q (.ref p) (upd H p (.lst (XM xs lo hi)))
theorem kD:SlR X (rSlL X.K):=by
 intro pins s σ H x v vl vu lo hi sl Q I rx hs pl pu h
 obtain ⟨a,xs,rfl,hx,q⟩:=h
 cases rx
 obtain ⟨its,r,ht,hz⟩:=I.list hx
 have hlen:=r.length
 refine ⟨"list",_,slot_list_getitem.lookup,ht.isList.typeIs, ?_⟩
 refine wpAny_getItem_list_slice ht.isList hs pl pu .none (by simp) ?_ (by rw [List.size_toArray] <;> omega)
 rw [US,← hlen]
 refine ⟨.ref s.heap.objs.size,_,I.laid (t' :=s.toks) (o:= .lst (XM xs lo hi)) (fun b ob q=>Heap.get?_push_of_some _ q) (Nat.le_refl _) ?_,rfl,q _ (I.hok.fresh (Nat.le_refl _))⟩
 exact ⟨Nat.le_trans (uE xs lo hi) hz,_,0,(r.drop (HT.sIx xs.length 0 lo)).take (HT.sIx xs.length xs.length hi - HT.sIx xs.length 0 lo),Heap.get?_push_size _ rfl⟩
theorem yQ:JG X (.builtin "len") (fun xs H Q=>∃ p ys,xs=[.ref p]/\(SqL X.K H p ys\/SqT X.K H p ys)/\Q (.int ys.length) H):=by
 intro pins s σ H xs us Q I r h
 obtain ⟨p,ys,rfl,hq,q⟩:=h
 obtain ⟨u,rfl,rx⟩:=Wa r
 cases rx
 have hn:=UA
 rcases hq with hq | hq
 ·obtain ⟨its,r',pl,hz⟩:=I.list hq
  have hlen:=r'.length
  exact Calls.call_len_list pl.isList (by simp only [List.size_toArray] <;> omega) ⟨.int ys.length,H,I.tok _,⟨s.toks+1,by rw [List.size_toArray,hlen]⟩,q⟩
 ·obtain ⟨its,r',pl,hz⟩:=I.tuple hq
  have hlen:=r'.length
  exact len_tuple pl (by simp only [List.size_toArray] <;> omega) ⟨.int ys.length,H,I.tok _,⟨s.toks+1,by rw [List.size_toArray,hlen]⟩,q⟩
theorem yR:JG X (.builtin "len") (fun xs H Q=>∃ z,xs=[.str z]/\z.length<=sizeLine/\Q (.int z.length) H):=by
 intro pins s σ H xs us Q I r h
 obtain ⟨z,rfl,hz,q⟩:=h
 obtain ⟨u,rfl,t,rfl⟩:=Wa r
 have hn:=UA
 exact len_str (by omega) ⟨.int z.length,H,I.tok _,⟨_,rfl⟩,q⟩
theorem JG.or {f:Value} {r r' :List V->Hp->VK->Prop} (h:JG X f r) (h' :JG X f r'):JG X f (fun xs H Q=>r xs H Q\/r' xs H Q):=by
 intro pins s σ H xs us Q I rs q
 rcases q with q | q
 ·exact h pins s σ H xs us Q I rs q
 ·exact h' pins s σ H xs us Q I rs q
theorem UT:JG X (.type "tuple") (fun xs H Q=>∃ p ys,xs=[.ref p]/\((SqL X.K H p ys/\∀ l,H l=none->Q (.ref l) (upd H l (.tup ys)))\/(SqT X.K H p ys/\Q (.ref p) H))):=by
 intro pins s σ H xs us Q I r h
 obtain ⟨p,ys,rfl,h⟩:=h
 obtain ⟨u,rfl,rx⟩:=Wa r
 cases rx
 rcases h with ⟨hq,q⟩ | ⟨hq,q⟩
 ·obtain ⟨its,r',pl,hz⟩:=I.list hq
  have hlen:=r'.length
  refine call_tuple_list pl.isList (fun h' kp=> ?_) (by simp only [List.size_toArray] <;> omega)
  have I1:Inv X pins σ H { s with heap:=h' }:=I.kept (t' :=s.toks) kp
  have I2:Inv X pins σ (upd H h'.objs.size (.tup ys)) { s with heap:=h'.push { cls:= .type "tuple",data:= .seq its.toArray } }:=
   I1.laid (t' :=s.toks) (fun b o e=>Heap.get?_push_of_some _ e) (Nat.le_refl _) (show jb X.prog X.w _ _ _ (.tup ys) from ⟨hz,its,r',IsTup.new _ _⟩)
  exact ⟨.ref h'.objs.size,_,I2,rfl,q _ (I1.hok.fresh (Nat.le_refl _))⟩
 ·obtain ⟨its,r',pl,hz⟩:=I.tuple hq
  exact call_tuple_same pl ⟨.ref p,H,I,rfl,q⟩
noncomputable def tyV (K:PySem.W.Frag) (T:String) (x:V) (H:Hp):Prop:=match x with
 | .str _=>T="str"
 | .int _=>T="int"
 | .ref p=>(T="list"/\∃ xs,SqL K H p xs)\/(T="tuple"/\∃ o,K.lookup p=some o/\o.cls= .type "tuple"/\o.dict=none)\/
   (T="dict"/\((∃ kvs,H p=some (.dK kvs))\/∃ kvs,H p=some (.dT kvs)))\/(T="set"/\∃ S n,H p=some (.set S n))
 | _=>False
theorem gW {pins:List (Addr×Obj)} {σ:St} {H:Hp} {s:Shared} {T:String} {x:V} {v:Value} (I:Inv X pins σ H s) (r:jc x v) (ty:tyV X.K T x H):
  s.TypeIs v T/\∀ a,v= .ref a->∃ ob,s.heap.get? a=some ob/\ob.dict=none:=by
 cases x with
 | str z=>
  obtain ⟨t,rfl⟩:=r
  cases (show T="str" from ty)
  exact ⟨typeIs_str s z t,fun _ e=>nomatch e⟩
 | int i=>
  obtain ⟨t,rfl⟩:=r
  cases (show T="int" from ty)
  exact ⟨typeIs_int s i t,fun _ e=>nomatch e⟩
 | ref p=>
  cases r
  rcases ty with ⟨rfl,xs,hq⟩ | ⟨rfl,o,hk,hc,hd⟩ | ⟨rfl,hk⟩ | ⟨rfl,S,n,hk⟩
  ·obtain ⟨its,_,pl,_⟩:=I.list hq
   refine ⟨pl.isList.typeIs,fun a e=> ?_⟩
   cases e
   obtain ⟨o,n,e,c,hd,_⟩:=pl
   exact ⟨o,e,hd⟩
  ·refine ⟨⟨o,I.kIn p o hk,hc⟩,fun a e=> ?_⟩
   cases e
   exact ⟨o,I.kIn _ o hk,hd⟩
  ·have z:∃ o,s.heap.get? p=some o/\o.ExactDict:=by
    rcases hk with ⟨kvs,hk⟩ | ⟨kvs,hk⟩
    ·obtain ⟨_,_,_,_,o,_,_,e,ex,_⟩:=I.hok p _ hk
     exact ⟨o,e,ex⟩
    ·obtain ⟨_,_,_,_,o,_,_,e,ex,_⟩:=I.hok p _ hk
     exact ⟨o,e,ex⟩
   obtain ⟨o,e,ex⟩:=z
   refine ⟨⟨o,e,ex.1⟩,fun a e2=> ?_⟩
   cases e2
   exact ⟨o,e,ex.2.1⟩
  ·obtain ⟨o,_,_,_,e,ex,_⟩:=I.hok p _ hk
   refine ⟨⟨o,e,ex.1⟩,fun a e2=> ?_⟩
   cases e2
   exact ⟨o,e,ex.2.1⟩
 | _=>exact False.elim ty
noncomputable def tBM (K:PySem.W.Frag) (T:String) (r:V->List V->Hp->VK->Prop) (to:TE) (t:TA):TE:=fun σ H Q=>to σ H fun x H1=>tyV K T x H1/\t σ H1 fun xs H2=>r x xs H2 Q
variable {o e:Expr} {es:List Expr} {to:TE} {t:TA} {name:Str} {apos cpos:Pos} {T id:String} {r:V->List V->Hp->VK->Prop}
theorem vH (pa:PlainAttrs T) (slot:Slot T name id) (hty:typeOf (.builtin id)=pure (.type "method_descriptor")) (hm:MtR X id r) (ho:PE X o to) (ha:PA X (e :: es) t)
  (hbase:attributeBase o name X.env (eval o X.env)=eval o X.env:=by rfl)
  (hfew:((backTo cpos (starEach (e :: es) X.env)).all (fun x=> !x.1) && (backToKw cpos (keywordEach [] X.env)).all (fun x=>x.1.isSome)
   && decide ((e :: es).length+([]:List Keyword).length+(if ([]:List Keyword).isEmpty then 0 else 1) < 30))=true:=by rfl)
  (hline:(apos.endLine == cpos.line)=true:=by rfl) (hs:starEach (e :: es) X.env=(false,eval e X.env) :: starEach es X.env:=by rfl) (hplain:(backTo cpos (starEach es X.env)).any (·.1)=false:=by rfl):
  PE X (.Call (.Attribute o name apos) (e :: es) [] cpos) (tBM X.K T r to t):=by
 intro pins s σ H Q I h
 refine wpAny_Call_method_late hbase hfew hline rfl (thn (ho pins s σ H _ I h) fun v s1 ⟨x,H1,I1,r1,ty,q1⟩=> ?_)
 obtain ⟨h1,h2⟩:=gW I1 r1 ty
 refine ⟨T,id,pa,slot,hty,h1,h2, ?_⟩
 have hA:=ha cpos pins s1 σ H1 _ I1 q1
 rw [hs] at hA ⊢
 refine Calls.callWith_builtin (by show (false || (backTo cpos (starEach es X.env)).any (·.1))=false; rw [hplain] <;> rfl) (Calls.evalArgs_plain ?_)
 exact thn hA fun us s2 ⟨vs,H2,I2,r2,q2⟩=>hm pins s2 σ H2 x vs v us Q I2 r1 r2 q2
end
end L2
namespace L2
open PySem PySem.Spec PyProof.Rows
noncomputable def MtM (X:Cx) (id:String) (r:V->List V->Hp->VK->Prop):Prop:=
 ∀ (pins:List (Addr×Obj)) (s:Shared) (σ:St) (H:Hp) (x:V) (xs:List V) (v:Value) (us:List Value) (Q:VK),Inv X pins σ H s->jc x v->ZM xs us->r x xs H Q->
  wpAny (model X.prog X.w) X.A (call (.builtin id) (v :: us)) (EP X pins σ Q) X.xe s
theorem ZM.one:∀ {x:V} {us:List Value},ZM [x] us->∃ u,us=[u]/\jc x u
 | _,_, .cons r .nil=>⟨_,rfl,r⟩
theorem ZM.rep {xs:List V} {us:List Value} (h:ZM xs us):∀ k:Nat,ZM (List.replicate k xs).flatten (List.replicate k us).flatten
 | 0=> .nil
 | k+1=>by
  rw [List.replicate_succ,List.replicate_succ,List.flatten_cons,List.flatten_cons]
  exact ZM.append h (ZM.rep h k)
theorem Wo (its:List Value):∀ (k:Nat) (acc:List Value),
  List.foldl (fun x1 x2=>x1++x2) acc.toArray (List.replicate k its.toArray)=(acc++(List.replicate k its).flatten).toArray
 | 0,acc=>by simp
 | k+1,acc=>by
  have e:acc.toArray++its.toArray=(acc++its).toArray:=by simp
  have e2:(acc++its)++(List.replicate k its).flatten=acc++(List.replicate (k+1) its).flatten:=by
   rw [List.replicate_succ,List.flatten_cons,List.append_assoc]
  rw [← e2,← Wo its k (acc++its),← e,List.replicate_succ,List.foldl_cons]
section
variable {X:Cx} {pins:List (Addr×Obj)} {σ:St} {H:Hp} {s:Shared} {l b:Addr} {xs ys zs:List V}
theorem Inv.lset {its its' :List Value} {n:Nat} {f:Array Value->Array Value} {t' :Nat} (I:Inv X pins σ H s) (hH:H l=some (.lst xs))
  (e:s.heap.get? l=some { cls:= .type "list",data:= .seq its.toArray n }) (hf:f its.toArray=its'.toArray) (hv:ZM ys its') (hz:ys.length<=sizeLine):
  Inv X pins σ (upd H l (.lst ys)) { s with heap:=s.heap.update l (Obj.mapSeq f),toks:=t' }:=by
 have q:=PySem.IsL.update e f
 rw [hf] at q
 refine I.write (x:=l) (e:=l) (by rw [hH]; exact trivial) (.inl rfl) (fun b' u hb hu=>(Heap.get?_update_other s.heap (Obj.mapSeq f) (Ne.symm hb)).trans hu) ⟨_,q⟩ ?_
 exact ⟨hz,its',_,hv,q⟩
theorem Inv.lnew {its:List Value} {t' :Nat} (I:Inv X pins σ H s) (hv:ZM ys its) (hz:ys.length<=sizeLine):
  Inv X pins σ (upd H s.heap.objs.size (.lst ys)) { s with heap:=s.heap.push { cls:= .type "list",data:= .seq its.toArray },toks:=t' }:=
 I.laid (fun _ _ q=>Heap.get?_push_of_some _ q) (Nat.le_refl _) ⟨hz,its,0,hv,Heap.get?_push_size _ rfl⟩
theorem Inv.fresh (I:Inv X pins σ H s):H s.heap.objs.size=none:=I.hok.fresh (Nat.le_refl _)
theorem Inv.lstM (I:Inv X pins σ H s) (hH:H l=some (.lst xs)):xs.length<=sizeLine/\∃ (its:List Value) (n:Nat),ZM xs its/\xs.length=its.length/\s.heap.get? l=some { cls:= .type "list",data:= .seq its.toArray n }:=by
 obtain ⟨z,its,n,r,e⟩:=I.hok l _ hH
 exact ⟨z,its,n,r,r.length,e⟩
theorem qO {n:Nat} (h:n<=sizeLine):Builtin.List.listTooLong n=false:=by
 unfold Builtin.List.listTooLong
 exact decide_eq_false (by omega)
end
section
variable {X:Cx}
noncomputable def kE:V->List V->Hp->VK->Prop:=fun x vs H Q=>∃ l xs y,x= .ref l/\vs=[y]/\H l=some (.lst xs)/\xs.length < sizeLine/\Q .non (upd H l (.lst (xs++[y])))
theorem yS:MtM X "list.append" kE:=by
 intro pins s σ H x vs v us Q I rx rv h
 obtain ⟨l,xs,y,rfl,rfl,hH,hz,q⟩:=h
 cases rx
 obtain ⟨u,rfl,ru⟩:=rv.one
 obtain ⟨z,its,n,r,hl,e⟩:=I.lstM hH
 refine call_meets F.slot_list_append ⟨_,e,rfl⟩ F.entry_list_append (F.args_list_append_2 _ _) (PySem.list_append l its.toArray n u (by rw [List.size_toArray]; omega)) ⟨e, ?_⟩
 refine ⟨.non,_,I.lset (its' :=its++[u]) hH e (by simp) (r.append (.cons ru .nil)) ?_,rfl,q⟩
 rw [List.length_append,List.length_singleton]
 omega
noncomputable def kF:V->List V->Hp->VK->Prop:=fun x vs H Q=>∃ l b xs zs,x= .ref l/\vs=[.ref b]/\H l=some (.lst xs)/\H b=some (.lst zs)/\xs.length+zs.length<=sizeLine/\Q .non (upd H l (.lst (xs++zs)))
theorem vI:MtM X "list.extend" kF:=by
 intro pins s σ H x vs v us Q I rx rv h
 obtain ⟨l,b,xs,zs,rfl,rfl,hH,hB,hz,q⟩:=h
 cases rx
 obtain ⟨u,rfl,ru⟩:=rv.one
 cases ru
 obtain ⟨z,its,n,r,hl,e⟩:=I.lstM hH
 obtain ⟨z2,its2,n2,r2,hl2,e2⟩:=I.lstM hB
 have hsz:its.toArray.size+its2.toArray.size<=sizeLine:=by rw [List.size_toArray,List.size_toArray]; omega
 have hlong:¬ (!its.toArray.isEmpty && Builtin.List.listTooLong (its.toArray.size+its2.toArray.size))=true:=by
  rw [qO hsz,Bool.and_false]
  exact Bool.false_ne_true
 refine call_meets F.slot_list_extend ⟨_,e,rfl⟩ F.entry_list_extend (F.args_list_extend_2 _ _)
  (AutoSeq1.list_extend_list_list_0 l its.toArray n b its2.toArray n2 hlong (by rw [List.size_toArray]; omega) (by omega)) ⟨e,e2, ?_⟩
 refine ⟨.non,_,I.lset (its' :=its++its2) hH e (by simp) (r.append r2) ?_,rfl,q⟩
 rw [List.length_append]
 omega
noncomputable def rCat:R2:=fun x y H Q=>∃ l b xs zs,x= .ref l/\y= .ref b/\H l=some (.lst xs)/\H b=some (.lst zs)/\xs.length+zs.length<=sizeLine/\∀ p,H p=none->Q (.ref p) (upd H p (.lst (xs++zs)))
theorem gX:OpR X (binaryOp .Add) rCat:=by
 intro pins s σ H x y v u Q I rx ry h
 obtain ⟨l,b,xs,zs,rfl,rfl,hH,hB,hz,q⟩:=h
 cases rx
 cases ry
 obtain ⟨z,its,n,r,hl,e⟩:=I.lstM hH
 obtain ⟨z2,its2,n2,r2,hl2,e2⟩:=I.lstM hB
 refine PySem.P.add_list e e2 ?_ (by rw [List.size_toArray,List.size_toArray]; omega)
 have ea:its.toArray++its2.toArray=(its++its2).toArray:=by simp
 rw [ea]
 exact ⟨.ref _,_,I.lnew (t' :=s.toks) (r.append r2) (by rw [List.length_append]; omega),rfl,q _ I.fresh⟩
noncomputable def rRep:R2:=fun x y H Q=>∃ l k xs,x= .ref l/\y= .int k/\H l=some (.lst xs)/\ -(2 ^ 63)<=k/\k < 2 ^ 63/\xs.length*k.toNat<=sizeLine/\
 ∀ p,H p=none->Q (.ref p) (upd H p (.lst (List.replicate k.toNat xs).flatten))
theorem UU {α:Type} (xs:List α) (k:Nat):(List.replicate k xs).flatten.length=k*xs.length:=by
 induction k with
 | zero=>simp
 | succ k ih=>rw [List.replicate_succ,List.flatten_cons,List.length_append,ih,Nat.succ_mul,Nat.add_comm]
theorem gY:OpR X (binaryOp .Mult) rRep:=by
 intro pins s σ H x y v u Q I rx ry h
 obtain ⟨l,k,xs,rfl,rfl,hH,h1,h2,hz,q⟩:=h
 cases rx
 obtain ⟨t,rfl⟩:=ry
 obtain ⟨z,its,n,r,hl,e⟩:=I.lstM hH
 have hlen:its.toArray.size*k.toNat<=sizeLine:=by rw [List.size_toArray,← hl]; exact hz
 have hcap:¬ its.toArray.size*k.toNat > (2 ^ 63 - 1) / 8:=by
  have:(sizeLine:Nat)<=(2 ^ 63 - 1) / 8:=by decide
  omega
 have hfit:¬ (!Builtin.List.listFitsIndex k)=true:=by
  rw [fitsIndex_both h1 h2]
  exact Bool.false_ne_true
 have hlong:¬ Builtin.List.listTooLong (its.toArray.size*k.toNat)=true:=by
  rw [qO hlen]
  exact Bool.false_ne_true
 have hnew:List.foldl (fun x1 x2=>x1++x2) #[] (List.replicate (if its.toArray.isEmpty=true then 0 else k.toNat) its.toArray)=(List.replicate k.toNat its).flatten.toArray:=by
  have f0:∀ m:Nat,List.foldl (fun x1 x2=>x1++x2) #[] (List.replicate m its.toArray)=(List.replicate m its).flatten.toArray:=fun m=>by
   have:=Wo its m []
   rw [List.nil_append] at this
   exact this
  rw [f0]
  cases its with
  | nil=>simp
  | cons a r' =>rw [if_neg (by simp)]
 refine wpAny_binaryOp_repeat_ref (T:="list") (U:="int") (by decide) ⟨_,e,rfl⟩ (fun s' =>typeIs_int s' k t) noFill_list_mul F.fills_int_mul F.slot_int_rmul repeat_list F.slot_int_index.lookup
  (call_meets F.slot_int_rmul (typeIs_int s k t) F.entry_int_rmul (F.args_int_rmul_2 _ _) (int___rmul___int_list k t l its.toArray n)
   ⟨e,rfl,⟨_,e,rfl⟩,call_meets F.slot_list_mul ⟨_,e,rfl⟩ F.entry_list_mul (F.args_list_mul_2 _ _) (AutoListH.list___mul___list_int_3 l its.toArray n k t hfit hcap hlong) ⟨e, ?_⟩⟩)
 rw [hnew]
 exact ⟨.ref _,_,I.lnew (t' :=s.toks) (r.rep k.toNat) (by rw [UU,Nat.mul_comm]; exact hz),rfl,q _ I.fresh⟩
end
section
variable {prog:Program} {w:World} {A:Around} {E:Value->Shared->Prop} {s:Shared}
end
section
variable {X:Cx}
end
end L2
namespace Att
open PySem PySem.W PySem.Calls PyProof.Rows
theorem uF {P:Params} {h:Heap}:∀ (ns:List Int) (vs:List Value),WellAll P h vs (ns.map WData.int)->IntsAre vs ns:=by
 intro ns
 induction ns with
 | nil=>
  intro vs w
  rw [List.map_nil] at w
  cases w
  exact .nil
 | cons n ns ih=>
  intro vs w
  rw [List.map_cons] at w
  cases w with
  | cons a b=>
   cases a
   exact .cons _ _ (ih _ b)
theorem vJ {l:OpenLaw} {n:Nat} (hn:l.most=some n) {P:Params} {h:Heap} {args:List WData} {vals:List Value}
  (hpre:l.row.toRowW.claim.pre args=true) (hwl:WellAll P h vals args):
  ∃ a vs ns,vals=[Value.ref a]/\args=[WData.list (ns.map WData.int)]/\h.get? a=some { cls:= .type "list",data:= .seq vs.toArray }/\IntsAre vs ns/\ns.length<=n:=by
 have hsh:WShape.hasAll [] args [.list .int]=true:=(pre_splitW hpre).1
 have hc:l.pre.holds [] { args:=args }=true:=(pre_splitW hpre).2
 obtain ⟨d,r,rfl,h1,h2⟩:=hasAllW_cons hsh
 obtain rfl:=hasAllW_nil h2
 obtain ⟨xs,rfl,h3⟩:=hasW_list h1
 obtain ⟨ns,rfl⟩:=items_int h3
 have hlen:ns.length<=n:=by
  unfold OpenLaw.pre at hc
  have h4:(WTm.not (.lt (.lit (.int (n:Int))) (.len (.arg 0)))).holds [] { args:=[.list (ns.map .int)] }=true:=by
   have h4:=(holds_andW hc).1
   rw [hn] at h4
   exact h4
  have h5:=condW_of h4 (w_not (w_lt w_lit (w_len_list (w_arg rfl))))
  rw [List.length_map] at h5
  refine Nat.le_of_not_lt fun q=> ?_
  have q' :(n:Int) < ((ns.length:Nat):Int):=by omega
  first
   | (rw [decide_eq_true q'] at h5; exact absurd h5 (by decide))
   | (simp at h5; omega)
 cases hwl with
 | cons w1 w2=>
  cases w2
  cases w1 with
  | list ho hall=>exact ⟨_,_,ns,rfl,rfl,ho,uF ns _ hall,hlen⟩
theorem vK (l:OpenLaw) (args:List WData):l.row.toRowW.claim.post args (.bool true) args=true:=
 postW_of (r:=l.row.toRowW) (X:=(true == true))
  (show WShape.has [] (.bool true) .bool=true by first | rfl | decide | simp [WShape.has,WShape.arms,WShape.armsAll])
  (show (WTm.eq .res (.lit (.bool true))).value [] { args:=args,res:=some (.bool true),after:=args }=some (.bool (true == true)) from w_eq_bool (w_res rfl) w_lit) rfl
theorem attach_call {l:OpenLaw} {n:Nat} {q:Program} {loose:List Str} {XP:(Str->Option Value)->Heap->Prop} {YP:World->Heap->Prop} {d:DefRec}
  (hn:l.most=some n) (hdf:d.params.defaults=[])
  (call:∀ (w:World) (s₀ s₁:Shared) (mg mb:Str->Option Value) (fa:Addr) (o:Obj) (pm cd doc:Value) (a:Addr) (vs:List Value) (ns:List Int),
   Ground q loose [] XP w s₀ mg mb s₁.heap->YP w s₁.heap->
   s₁.heap.get? fa=some o->o.data= .func (docDef d.name d.params d.body d.scope pm cd doc)->s₁.heap.CodeRec cd d.name->mg d.name=some (.ref fa)->
   s₁.heap.get? a=some { cls:= .type "list",data:= .seq vs.toArray }->IntsAre vs ns->ns.length<=n->s₁.gens= #[]->
   codeAny (model l.prog w) callerA (.call (.ref fa) ⟨[.ref a],[]⟩) (fun r s' =>r= .ok (.ret (.bool true))/\OldK s₁.heap s'.heap/\s'.os=s₁.os/\AllBare s'.gens) s₁):
  WalkO q loose XP YP l.row.toRowW d [] (fun f vs=>PySem.call f vs):=by
 intro w s₀ s₁ mg mb G Y fa o pm cd doc dV kV ho hd hcd hD hmg hg args vals as hpre hlay hrd hwl hlo
 obtain rfl:dV= .none:=Dflts.none hD hdf
 obtain rfl:kV= .none:=Dflts.noKw hD
 obtain ⟨a,vs,ns,rfl,rfl,hobj,hints,hlen⟩:=vJ hn hpre hwl
 refine enter_call (codeAny_mono (call w s₀ s₁ mg mb fa o pm cd doc a vs ns G Y ho (fd_plain hd) hcd hmg hobj hints hlen hg) fun r s' hq=> ?_)
 obtain ⟨rfl,h2,h3,h4⟩:=hq
 exact ⟨.inl ⟨.bool true, .bool true,[],rfl,fun _=>rfl, .bool true,vK l _,fun _=>⟨List.Pairwise.nil,fun _ hm=>(nomatch hm)⟩⟩,h2,h3,h4⟩
section
variable {prog:Program} {w:World} {A:Around} {E:Value->Shared->Prop} {s:Shared} {K:Frag}
end
end Att
namespace L2
open PySem PySem.Spec PyProof.Rows
theorem Wp:∀ {vs:List Value} {ns:List Int},IntsAre vs ns->ZM (ns.map V.int) vs
 | _,_, .nil=> .nil
 | _,_, .cons n t h=> .cons ⟨t,rfl⟩ (Wp h)
noncomputable def z0c (H:Hp):Prop:=∀ b,H b=none\/∃ o xs,H b=some (.frz o (.lst xs))
theorem xN {P:Program} {w:World} {K:PySem.W.Frag} {mg mb:Str->Option Value} {CX:CXT} {k:Nat} {fa a:Addr} {fd:FuncData} {x:Str} {sp:Sp} {s₁:Shared} {vs:List Value} {ns:List Int}
  (KX:K.In s₁.heap) (hns:s₁.heap.Ns mainGlobals mg) (hb:s₁.heap.Ns builtinsNs mb) (hbb:∀ x:Str,x ≠ "__name__"->mb x=bootBuiltins x) (hlim:s₁.heap.NoLimit) (hg:s₁.gens= #[])
  (ha:s₁.heap.get? a=some { cls:= .type "list",data:= .seq vs.toArray }) (hi:IntsAre vs ns) (hl:ns.length<=sizeLine) (hr:WD k callerA)
  (F:∀ base:Heap,K.In base->base.Ns mainGlobals mg->jm P w K mg base CX k fa fd [x] sp) (hbind:∀ (s:Shared) (u:Value),BindsTo s fd ⟨[u],[]⟩ [(x,u)])
  (hsp:∀ H:Hp,z0c H->SqL K H a (ns.map V.int)->sp [.ref a] H (fun v _=>v= .bl true) fun _ _ _=>False)
  (hCX:∀ H e s',CX [] H s₁ (fun _ _ _=>False) e s' ->False):
  codeAny (model P w) callerA (.call (.ref fa) ⟨[.ref a],[]⟩) (fun r s' =>r= .ok (.ret (.bool true))/\OldK s₁.heap s'.heap/\s'.os=s₁.os/\AllBare s'.gens) s₁:=by
 have rv:=Wp hi
 have lenV:=hi.length
 have core:∀ H:Hp,z0c H->SqL K H a (ns.map V.int)->HOk P w H s₁.heap->(∀ b,H b ≠ none->b=a)->(H a ≠ none->K.lookup a=none)->
   codeAny (model P w) callerA (.call (.ref fa) ⟨[.ref a],[]⟩) (fun r s' =>r= .ok (.ret (.bool true))/\OldK s₁.heap s'.heap/\s'.os=s₁.os/\AllBare s'.gens) s₁:=by
  intro H hO hS hok hA hK
  have base_of:∀ {b:Addr} {o:Obj},s₁.heap.get? b=some o->H b=none->(xC s₁.heap H).get? b=some o:=fun e n=>xD e n
  have noA:∀ {b:Addr} {o:Obj} {es:Array DictEntry} {ep:Nat},s₁.heap.get? b=some o->o.data= .dict es ep->H b=none:=fun {b o es ep} e d=>by
   cases q:H b with
   | none=>rfl
   | some u=>
    have e' :b=a:=hA b (by rw [q]; simp)
    subst e'
    rw [ha] at e; cases e
    have d' :Data.seq vs.toArray _=Data.dict es ep:=d
    cases d'
  have nsK:∀ {b:Addr} {m:Str->Option Value},s₁.heap.Ns b m->(xC s₁.heap H).Ns b m:=fun {b m} ⟨o,es,ep,e,d,r⟩=>⟨o,es,ep,base_of e (noA e d),d,r⟩
  have hKb:K.In (xC s₁.heap H):=fun b o e=>base_of (KX b o e) (by
   cases q:H b with
   | none=>rfl
   | some u=>
    have e' :b=a:=hA b (by rw [q]; simp)
    subst e'
    rw [hK (by rw [q]; simp)] at e; cases e)
  have hM:Mod K mg (xC s₁.heap H):=⟨hKb,nsK hns,⟨mb,nsK hb,hbb⟩,let ⟨mc,h1,h2⟩:=hlim; ⟨mc,nsK h1,h2⟩⟩
  have e0:z0b P w K mg (xC s₁.heap H) callerA [] s₁ H:=⟨rfl,hM,fun b o e=>kn e,Nat.le_of_eq (vh _ _),trivial,fun b hb=>absurd (show b∈([]:List Addr) from hb) (by simp),hok, .of_eq hg⟩
  refine codeAny_mono ((F _ hKb (nsK hns)).run callerA [] s₁ H ⟨[.ref a],[]⟩ [.ref a] [.ref a] _ _ hr e0 (hbind s₁ (.ref a)) (.cons rfl .nil) (hsp H hO hS)) fun r s' h=> ?_
  cases r with
  | error e=>exact (hCX H e s' h).elim
  | ok fl=>
   cases fl with
   | next=>exact False.elim h
   | brk=>exact False.elim h
   | cont=>exact False.elim h
   | ret u=>
    obtain ⟨v,H',os,bare,un,hok',r',q⟩:=h
    have q' :v= .bl true:=q
    subst q'
    obtain rfl:u=Value.bool true:=r'
    refine ⟨rfl,OldK.of_keep fun b o e=> ?_,os,bare⟩
    cases q:H b with
    | none=>exact un.keep b o e q (by intro z; exact absurd (show b∈([]:List Addr) from z) (by simp)) (by simp)
    | some u=>
     rcases hO b with z | ⟨ob,xs,z⟩
     ·rw [q] at z; cases z
     ·have z2:=un.frzs b ob _ z
      obtain ⟨e1,_⟩:=hok b _ z
      obtain ⟨e2,_⟩:=hok' b _ z2
      rw [e] at e1; cases e1
      exact e2
 cases hk:K.lookup a with
 | some o=>
  have e:=KX a o hk
  rw [ha] at e
  cases e
  refine core (fun _=>none) (fun _=> .inl rfl) (.inr ⟨_,vs.toArray,_,hk,rfl,rfl,rfl,by rw [List.size_toArray,lenV]; exact hl,by simpa using rv⟩) (fun b u z=>by have z' :(none:Option HO)=some u:=z; cases z') (fun b z=>absurd rfl z) fun z=>absurd rfl z
 | none=>
  refine core (fun b=>if b=a then some (.frz { cls:= .type "list",data:= .seq vs.toArray } (.lst (ns.map V.int))) else none) (fun b=> ?_) (.inl (.inr ⟨{ cls:= .type "list",data:= .seq vs.toArray },if_pos rfl⟩)) (fun b u z=> ?_) (fun b z=> ?_) fun _=>hk
  ·by_cases hb:b=a
   ·exact .inr ⟨_,_,if_pos hb⟩
   ·exact .inl (if_neg hb)
  ·by_cases hb:b=a
   ·have z' :=(if_pos hb).symm.trans z
    cases z'
    subst hb
    exact ⟨ha,by rw [List.length_map]; exact hl,vs,_,rv,ha⟩
   ·have z' :=(if_neg hb).symm.trans z
    cases z'
  ·by_cases hb:b=a
   ·exact hb
   ·exact absurd (if_neg hb) z
end L2
namespace L2
open PySem PySem.Spec PyProof.Rows
theorem walk_of {l:PySem.W.OpenLaw} {n k:Nat} {q:Program} {loose:List Str} {XP:(Str->Option Value)->Heap->Prop} {YP:World->Heap->Prop} {d:DefRec} {K:Params->PySem.W.Frag} {CX:World->CXT} {sp:World->Sp} {x:Str}
  (hn:l.most=some n) (hn2:n<=sizeLine) (hdf:d.params.defaults=[]) (hr:WD k callerA)
  (hY:∀ (w:World) (h:Heap),YP w h->(K w.params).In h)
  (F:∀ (w:World) (mg:Str->Option Value) (fa:Addr) (h:Heap),(K w.params).In h->h.Ns mainGlobals mg->mg d.name=some (.ref fa)->
   ∃ fd:FuncData,(∀ (s:Shared) (u:Value),BindsTo s fd ⟨[u],[]⟩ [(x,u)])/\
    ∀ base:Heap,(K w.params).In base->base.Ns mainGlobals mg->jm l.prog w (K w.params) mg base (CX w) k fa fd [x] (sp w))
  (hsp:∀ (w:World) (H:Hp) (a:Addr) (ns:List Int),ns.length<=n->z0c H->SqL (K w.params) H a (ns.map V.int)->sp w [.ref a] H (fun v _=>v= .bl true) fun _ _ _=>False)
  (hCX:∀ (w:World) (H:Hp) (s:Shared) (e:Value) (s' :Shared),CX w [] H s (fun _ _ _=>False) e s' ->False):
  PySem.W.WalkO q loose XP YP l.row.toRowW d [] (fun f vs=>PySem.call f vs):=by
 refine Att.attach_call hn hdf fun w s₀ s₁ mg mb fa o pm cd doc a vs ns G Y ho hd hcd hmg hobj hints hlen hg=> ?_
 have KX:=hY w _ Y
 obtain ⟨fd,hb,hF⟩:=F w mg fa _ KX G.T.g hmg
 exact xN KX G.T.g G.T.b G.T.builtins G.T.nolimit hg hobj hints (Nat.le_trans hlen hn2) hr hF hb (fun H hO hS=>hsp w H a ns hlen hO hS) fun H e s' =>hCX w H s₁ e s'
end L2
namespace L2
open PySem PySem.Spec PyProof.Rows
noncomputable def wy (s:Stmt):Arguments:=match s with
 | .FunctionDef _ a _ _ _ _ _ _ _ _=>a
 | _=>{ posonlyargs:=[],args:=[],vararg:=none,kwonlyargs:=[],kw_defaults:=[],kwarg:=none,defaults:=[] }
noncomputable def jn (s:Stmt):List Stmt:=match s with
 | .FunctionDef _ _ b _ _ _ _ _ _ _=>b
 | _=>[]
noncomputable def zf (s:Stmt):Scope:=match s with
 | .FunctionDef _ _ _ _ _ _ sc _ _ _=>sc
 | _=>{ kind:= .function,names:=[],isGenerator:=false,isCoroutine:=false }
noncomputable abbrev CX0:CXT:=fun _ _ _ _ _ _=>False
structure Fun (K:PySem.W.Frag) (x qual:Str) (st:Stmt) (f:Addr) (fd:FuncData):Prop where
 ex:∃ (oc:Value) (od:Option Addr) (kV doc pm:Value) (an:Option Addr) (cdv ct:Value) (osl:Array (Option Value)),
  fd=PySem.W.fnOf x qual (wy st) (jn st) (zf st) .none kV doc pm an cdv ct/\K.lookup f=some ⟨oc,od, .func fd,osl⟩/\PySem.W.codeIn K cdv qual=true
 kp:PySem.W.keepIn K (.ref f)=true
section
variable {P:Program} {w:World} {K:PySem.W.Frag} {mg:Str->Option Value} {base:Heap}
theorem Fun.ok {x qual:Str} {st:Stmt} {f:Addr} {fd:FuncData} {N ps:List Str} {k:Nat} {sp:Sp} (F:Fun K x qual st f fd) (S:zt N ps (zf st)) (len:∀ vs H Q E,sp vs H Q E->vs.length=ps.length)
  (hbody:∀ (cdv:Value) (A:Around) (outer:List Env) (s:Shared) (H:Hp) (vs:List V) (Q:VK) (E:XK),WD k (A.deeper (envOfC qual (zf st) s.heap.objs.size f cdv))->sp vs H Q E->
   ∃ t,PSs (Ul CX0 P w K mg base N qual (zf st) f cdv A outer s H E).nox (jn st) t/\t { nx:=fun _ H' =>Q .non H',rt:=Q } (start N vs) H):jm P w K mg base CX0 (k+1) f fd ps sp:=by
 obtain ⟨oc,od,kV,doc,pm,an,cdv,ct,osl,rfl,lk,hcd⟩:=F.ex
 refine gP lk hcd S len fun A outer s H vs Q E hr hsp=> ?_
 obtain ⟨t,h,q⟩:=hbody cdv A outer s H vs Q E hr hsp
 exact ⟨t,h.nox,q⟩
theorem Fun.binds {x qual:Str} {st:Stmt} {f:Addr} {fd:FuncData} {ps:List Str} (F:Fun K x qual st f fd)
  (h:∀ (kV doc pm:Value) (an:Option Addr) (cdv ct:Value) (us:List Value),us.length=ps.length->bindArgs (PySem.W.fnOf x qual (wy st) (jn st) (zf st) .none kV doc pm an cdv ct) ⟨us,[]⟩=pure (ps.zip us)):Binds K fd ps []:=by
 obtain ⟨oc,od,kV,doc,pm,an,cdv,ct,osl,rfl,lk,hcd⟩:=F.ex
 exact .all (h kV doc pm an cdv ct)
theorem gZ {x qual:Str} {st:Stmt} {f:Addr} {oc:Value} {od an:Option Addr} {osl:Array (Option Value)} {kV doc pm cdv ct:Value} (l:K.lookup f=some ⟨oc,od, .func (PySem.W.fnOf x qual (wy st) (jn st) (zf st) .none kV doc pm an cdv ct),osl⟩)
  (c:PySem.W.codeIn K cdv qual=true) (k:PySem.W.keepIn K (.ref f)=true):Fun K x qual st f (PySem.W.fnOf x qual (wy st) (jn st) (zf st) .none kV doc pm an cdv ct):=⟨⟨oc,od,kV,doc,pm,an,cdv,ct,osl,rfl,l,c⟩,k⟩
end
section
variable {X:Cx}
theorem pv (i:Nat) {x:Str} {pos:Pos} (hN:X.N[i]? =some x:=by rfl) (hv:Vis X.env.scope x:=by first | exact Or.inl rfl | exact Or.inr (Or.inl rfl) | exact Or.inr (Or.inr rfl)) (hd:(x == ("__debug__":Str))=false:=by decide)
  (hcd:(x == ("__classdict__":Str))=false:=by decide):PE X (.Name x pos) (vi i):=XG hN hv hd hcd
end
noncomputable def zS (H H' :Hp):Prop:=∀ b o,H b=some o->H' b=some o
theorem zS.refl (H:Hp):zS H H:=fun _ _ h=>h
theorem zS.trans {H H1 H2:Hp} (a:zS H H1) (b:zS H1 H2):zS H H2:=fun c o h=>b c o (a c o h)
theorem zS.free {H H' :Hp} (e:zS H H') {l:Addr} (h:H' l=Option.none):H l=Option.none:=by
 cases q:H l with
 | none=>rfl
 | some o=>
  rw [e l o q] at h
  cases h
end L2
namespace L2
open PySem PySem.Spec PyProof.Rows PySem.W
theorem qP {env:Env} {outer:List Env} {L:Addr} (h:env.frame=some L):frs (env :: outer)=L :: frs outer:=by
 unfold frs; rw [List.filterMap_cons,h]
structure YO (P:Program) (w:World) (outer:List Env) (H:Hp) (s s' :Shared) (ea:Addr) (cls a0:Value) (B:Heap) (H' :Hp):Prop where
 os:s'.os=s.os
 bare:AllBare s'.gens
 fly:Heap.FlyingW B outer ea cls a0 s'.heap
 hok:HOk P w H' B
 un:Un (frs outer) [] H H' s.heap s'.heap
 inB:∀ b o,s.heap.get? b=some o->b ∉ frs outer->(H b=none->B.get? b=some o)/\∃ o',B.get? b=some o'
noncomputable def CX1 (P:Program) (w:World):CXT:=fun outer H s E e s' =>∃ ea cls a0 B H',e= .ref ea/\YO P w outer H s s' ea cls a0 B H' /\E cls none H'
section
variable {X:Cx} {pins:List (Addr×Obj)} {σ:St} {H H' :Hp} {s s' :Shared} {ea:Addr} {cls a0:Value} {B:Heap} {h' h'' :Heap}
theorem Inv.frNf (I:Inv X pins σ H s):∀ b∈frs X.stack,H b=none/\∃ o,s.heap.get? b=some o/\∀ vs,o.data ≠ .fields vs:=fun b hb=>⟨I.stkFree b hb,(I.stack.mem hb).2⟩
theorem YO.on {P:Program} {w:World} {outer:List Env} (L:YO P w outer H s s' ea cls a0 B H') (ff:∀ b∈frs outer,H b=none/\∃ o,s.heap.get? b=some o/\∀ vs,o.data ≠ .fields vs)
  (fl:Heap.FlyingW B outer ea cls a0 h') (sl:s'.heap.UpToSlots h'):YO P w outer H s { s' with heap:=h' } ea cls a0 B H' where
 os:=L.os
 bare:=L.bare
 fly:=fl
 hok:=L.hok
 inB:=L.inB
 un:=by
  have slot:∀ b o,s.heap.get? b=some o->H b=none->b∈frs outer->∃ sl,h'.get? b=some { o with slots:=sl }:=fun b o e n hb=>by
   obtain ⟨sl1,e1⟩:=L.un.slot b o e n hb (by simp)
   obtain ⟨_,o2,e2,nf⟩:=ff b hb
   rw [e] at e2; cases e2
   obtain ⟨sl2,e3⟩:=sl b _ e1 nf
   exact ⟨sl2,e3⟩
  exact ⟨fun b o e n hb _=>fl.1 b o ((L.inB b o e hb).1 n),fun b o e n hb _=>slot b o e n hb,L.un.free,fun b o e _=>by
   by_cases hb:b∈frs outer
   ·obtain ⟨sl1,e1⟩:=slot b o e (ff b hb).1 hb
    exact ⟨_,e1⟩
   ·obtain ⟨o',e'⟩:=(L.inB b o e hb).2
    exact ⟨o',fl.1 b o' e'⟩,L.un.tups,L.un.frzs,L.un.tbls⟩
theorem Inv.old (I:Inv X pins σ H s) {b:Addr} {o:Obj} (hX:X.stack=X.env :: X.outer) (hf:X.env.frame=some X.env.locals) (e:X.s₀.heap.get? b=some o) (hb:b ∉ frs X.outer):b ∉ frs X.stack:=by
 rw [hX,qP hf]
 intro z
 rcases List.mem_cons.mp z with z | z
 ·exact absurd (Nat.lt_of_lt_of_le (Heap.lt_size e) I.ok.above) (by rw [z]; exact Nat.lt_irrefl _)
 ·exact hb z
theorem YQ {X:Cx} (hX:X.stack=X.env :: X.outer) (hf:X.env.frame=some X.env.locals) {b:Addr} (hb:b∈frs X.outer):b∈frs X.stack:=by
 rw [hX,qP hf]; exact List.mem_cons_of_mem _ hb
theorem YO.out (I:Inv X pins σ H s) (hX:X.stack=X.env :: X.outer) (hf:X.env.frame=some X.env.locals) (hex:X.ex=[]) (L:YO X.prog X.w X.stack H s s' ea cls a0 B H')
  (fl:Heap.FlyingW B X.outer ea cls a0 h') (sl:s'.heap.UpToSlots h'):YO X.prog X.w X.outer X.H₀ X.s₀ { s' with heap:=h' } ea cls a0 B H' where
 os:=L.os.trans I.os
 bare:=L.bare
 fly:=fl
 hok:=L.hok
 inB:=fun b o e hb=>by
  have nx:b ∉ X.ex:=by rw [hex]; simp
  obtain ⟨o1,e1⟩:=I.base.there b o e nx
  have hb' :=I.old hX hf e hb
  exact ⟨fun n=>(L.inB b o (I.base.keep b o e n hb nx) hb').1 (I.base.free b o e n nx),(L.inB b o1 e1 hb').2⟩
 un:=by
  have nx:∀ b,b ∉ X.ex:=fun b=>by rw [hex]; simp
  have slot:∀ b o,X.s₀.heap.get? b=some o->X.H₀ b=none->b∈frs X.outer->∃ sl,h'.get? b=some { o with slots:=sl }:=fun b o e n hb=>by
   obtain ⟨sl1,e1⟩:=I.base.slot b o e n hb (nx b)
   have n1:=I.base.free b o e n (nx b)
   obtain ⟨sl2,e2⟩:=L.un.slot b _ e1 n1 (YQ hX hf hb) (by simp)
   obtain ⟨_,o3,e3,nf⟩:=I.frNf b (YQ hX hf hb)
   rw [e1] at e3; cases e3
   obtain ⟨sl4,e4⟩:=sl b _ e2 nf
   exact ⟨sl4,e4⟩
  refine ⟨fun b o e n hb _=> ?_,fun b o e n hb _=>slot b o e n hb,fun b o e n _=> ?_,fun b o e _=> ?_,fun b xs e=>L.un.tups b xs (I.base.tups b xs e),fun b o xs e=>L.un.frzs b o xs (I.base.frzs b o xs e),fun b ps e=> ?_⟩
  ·exact fl.1 b o ((L.inB b o (I.base.keep b o e n hb (nx b)) (I.old hX hf e hb)).1 (I.base.free b o e n (nx b)))
  ·obtain ⟨o1,e1⟩:=I.base.there b o e (nx b)
   exact L.un.free b o1 e1 (I.base.free b o e n (nx b)) (by simp)
  ·by_cases hb:b∈frs X.outer
   ·obtain ⟨sl1,e1⟩:=slot b o e (I.ok.frf b hb) hb
    exact ⟨_,e1⟩
   ·obtain ⟨o1,e1⟩:=I.base.there b o e (nx b)
    obtain ⟨o',e'⟩:=(L.inB b o1 e1 (I.old hX hf e hb)).2
    exact ⟨o',fl.1 b o' e'⟩
  ·obtain ⟨m1,e1⟩:=I.base.tbls b ps e
   obtain ⟨m2,e2⟩:=L.un.tbls b _ e1
   exact ⟨m1++m2,by rw [e2,Array.append_assoc]⟩
theorem YO.made (I:Inv X pins σ H s) (hX:X.stack=X.env :: X.outer) (hf:X.env.frame=some X.env.locals) (hex:X.ex=[]) {vs:List Value} (hx:Heap.MadeExcOf s.heap h' ea cls vs)
  (fl:Heap.FlyingW (hideAll s.heap (frs X.stack)) X.outer ea cls a0 h'') (sl:h'.UpToSlots h''):YO X.prog X.w X.outer X.H₀ X.s₀ { s with heap:=h'' } ea cls a0 (hideAll s.heap (frs X.stack)) H where
 os:=I.os
 bare:=I.bare
 fly:=fl
 hok:=fun a o e=>(I.hok a o e).stay (fun b u hb q=>hideAll_get _ q fun z=>by
   have:=I.stkFree b z
   rcases hb with rfl | hb
   ·rw [e] at this; cases this
   ·rw [hb] at this; cases this) (fun _ q=>q) fun _ _ q=>q
 inB:=fun b o e hb=>by
  have nx:b ∉ X.ex:=by rw [hex]; simp
  obtain ⟨o1,e1⟩:=I.base.there b o e nx
  have hb' :=I.old hX hf e hb
  exact ⟨fun n=>hideAll_get _ (I.base.keep b o e n hb nx) hb',o1,hideAll_get _ e1 hb'⟩
 un:=by
  have nx:∀ b,b ∉ X.ex:=fun b=>by rw [hex]; simp
  have slot:∀ b o,X.s₀.heap.get? b=some o->X.H₀ b=none->b∈frs X.outer->∃ sl,h''.get? b=some { o with slots:=sl }:=fun b o e n hb=>by
   obtain ⟨sl1,e1⟩:=I.base.slot b o e n hb (nx b)
   obtain ⟨_,o3,e3,nf⟩:=I.frNf b (YQ hX hf hb)
   rw [e1] at e3; cases e3
   obtain ⟨sl4,e4⟩:=sl b _ (hx.keeps b _ e1) nf
   exact ⟨sl4,e4⟩
  refine ⟨fun b o e n hb _=> ?_,fun b o e n hb _=>slot b o e n hb,fun b o e n _=>I.base.free b o e n (nx b),fun b o e _=> ?_,I.base.tups,I.base.frzs,I.base.tbls⟩
  ·exact fl.1 b o (hideAll_get _ (I.base.keep b o e n hb (nx b)) (I.old hX hf e hb))
  ·by_cases hb:b∈frs X.outer
   ·obtain ⟨sl1,e1⟩:=slot b o e (I.ok.frf b hb) hb
    exact ⟨_,e1⟩
   ·obtain ⟨o1,e1⟩:=I.base.there b o e (nx b)
    exact ⟨o1,fl.1 b o1 (hideAll_get _ e1 (I.old hX hf e hb))⟩
end
section
variable {P:Program} {w:World} {K:Frag} {mg:Str->Option Value} {base:Heap} {N:List Str} {qual:Str} {scope:Scope} {f:Addr} {cd:Value} {A:Around} {outer:List Env} {s:Shared} {H:Hp} {E:XK}
theorem z0P:W3 (CX1 P w) (Ul (CX1 P w) P w K mg base N qual scope f cd A outer s H E) E:=by
 intro pins σ H1 s1 e s' I ⟨ea,cls,a0,B,H',he,L,hE⟩
 subst he
 exact wpAny_leaves_onW (base:=B) I.ok.frames rfl L.fly fun h' fl sl=>⟨ea,cls,a0,B,H',rfl,L.out I rfl rfl rfl fl sl,hE⟩
theorem vL {x:Str} {C:Addr} {bm bmN:List Value} {Bn Bb newId nid initId inN:String} {np cpos pos:Pos} {e:Expr} {t:TA} (O:OwnCls x C bm newId mg base) (Fn:ExcBaseFacts Bn newId inN bmN) (hBn:bm.contains (.type Bn)=true) (FB:ExcBaseFacts Bb nid initId bm)
  (hg:Gl (Ul (CX1 P w) P w K mg base N qual scope f cd A outer s H E) x) (ha:PA (Ul (CX1 P w) P w K mg base N qual scope f cd A outer s H E) [e] t)
  (he:starEach [e] (envOfC qual scope s.heap.objs.size f cd)=[(false,eval e (envOfC qual scope s.heap.objs.size f cd))]) (hd:(x == ("__debug__":Str))=false:=by decide):
  PS (Ul (CX1 P w) P w K mg base N qual scope f cd A outer s H E) (.Raise (some (.Call (.Name x np) [e] [] cpos)) none pos) (fun _ σ H1=>t σ H1 fun vs H2=>vs.length<=sizeLine/\E (.ref C) none H2):=by
 intro pins s1 σ H1 D I hw
 obtain ⟨tl,N',nm,q,bs,hdct,sn,sub,ab,col,dd,k0,k1,k2,k3,k5,mN,hC,hN,hni,T⟩:=O.obj
 have hp:(backTo cpos (starEach [e] (envOfC qual scope s.heap.objs.size f cd))).any (·.1)=false:=by rw [he]; rfl
 refine wpAny_Raise_call_subU (C:=C) (nm:=nm) (q:=q) (N:=N') (bs:=bs) (bm:=tl) (hdct:=hdct) (sn:=sn) (sub:=sub) (ab:=ab) (col:=col) (dd:=dd) (k0:=k0) (k1:=k1) (k2:=k2) (k3:=k3) (k5:=k5)
  Fn hBn FB (mN:=mN) (T.hasType FB.hasBase) (I.ok.hd rfl) hp hni (UQ I hg O.bound ⟨rfl, ?_⟩ hd)
 have h2:=ha cpos pins s1 σ H1 _ I hw
 have he' :starEach [e] (Ul (CX1 P w) P w K mg base N qual scope f cd A outer s H E).env=[(false,eval e (Ul (CX1 P w) P w K mg base N qual scope f cd A outer s H E).env)]:=he
 rw [he'] at h2 ⊢
 refine Calls.evalArgs_plain (thn h2 fun us s2 ⟨vs,H2,I2,r,hl,hE⟩=>⟨rfl,by rw [← r.length]; exact hl,I2.bk _ _ hC,hN.keeps I2.bk,T.keeps I2.bk,fun h' ea hx=> ?_⟩)
 have hin:∀ env∈(Ul (CX1 P w) P w K mg base N qual scope f cd A outer s H E).stack,∀ b,env.frame=some b->b∈frs (Ul (CX1 P w) P w K mg base N qual scope f cd A outer s H E).stack:=fun env he b hb=>List.mem_filterMap.mpr ⟨env,he,hb⟩
 exact wpAny_leaves_madeW (base:=hideAll s2.heap (frs (Ul (CX1 P w) P w K mg base N qual scope f cd A outer s H E).stack)) (h:=s2.heap) I2.ok.frames rfl (fun b o q=>of_hideAll _ q) (funFrames_hide I2.stack hin) hx fun h'' t' fl _ _ sl=>
  ⟨ea, .ref C, .ref t',_,H2,rfl,YO.made I2 rfl rfl rfl hx fl sl,hE⟩
end
end L2
namespace L2
open PySem PySem.Spec PyProof.Rows PySem.W
theorem jb.there {P:Program} {w:World} {H:Hp} {h:Heap} {a:Addr} {o:HO} (x:jb P w H h a o):∃ ob,h.get? a=some ob:=by
 cases o with
 | lst xs=>obtain ⟨_,_,_,_,e⟩:=x; exact ⟨_,e⟩
 | tup xs=>obtain ⟨_,_,_,_,e,_⟩:=x; exact ⟨_,e⟩
 | dK kvs=>obtain ⟨_,_,_,_,o,_,_,e,_⟩:=x; exact ⟨_,e⟩
 | dT kvs=>obtain ⟨_,_,_,_,o,_,_,e,_⟩:=x; exact ⟨_,e⟩
 | set S n=>obtain ⟨o,_,_,_,e,_⟩:=x; exact ⟨_,e⟩
 | ins C dx fs=>obtain ⟨_,_,_,e,_⟩:=x; exact ⟨_,e⟩
 | own y=>obtain ⟨_,e⟩:=x; exact ⟨_,e⟩
 | xd fs=>obtain ⟨_,⟨_,_,_,e,_⟩,_⟩:=x; exact ⟨_,e⟩
 | rng lo hi=>obtain ⟨_,_,_,e⟩:=x; exact ⟨_,e⟩
 | frz ob u=>obtain ⟨e,_⟩:=x; exact ⟨_,e⟩
 | tbl ps=>exact ⟨_,(show h.get? a=some _ from x)⟩
 | met f y=>exact ⟨_,(show h.get? a=some _ from x)⟩
 | ext φ=>obtain ⟨_,e,_⟩:=x; exact e
noncomputable def YR (cls:Value) (a:Addr) (h:Heap):Prop:=∃ o,h.get? a=some o/\o.cls=cls
theorem YR.ok {P:Program} {w:World} {H:Hp} {h:Heap} {a:Addr} {cls:Value} (x:YR cls a h):jb P w H h a (.ext (YR cls a)):=
 ⟨x,let ⟨o,e,_⟩:=x; ⟨o,e⟩,fun _ _ ⟨o,e,c⟩ k=>⟨o,k o e,c⟩⟩
noncomputable abbrev Cx.try' (X:Cx) (pn:List (Addr×Obj)) (xe:Value->Shared->Prop):Cx:={ X with pn:=pn,xe:=xe }
noncomputable abbrev Cx.mark' (X:Cx) (e:Value):Cx:={ X with A:=X.A.mark (some e),calm:=false,xe:=fun _ _=>False }
section
variable {X:Cx} {pins pins' :List (Addr×Obj)} {σ:St} {H H' :Hp} {s s' :Shared} {xe:Value->Shared->Prop}
theorem Cx.Ok.try' (ok:X.Ok) {pn:List (Addr×Obj)}:(X.try' pn xe).Ok:=
 ⟨ok.mod,ok.kind,ok.glob,ok.blt,ok.above,ok.inj,ok.has,ok.cab,ok.hd,ok.frames,ok.stk,ok.exf,ok.bs,ok.bsz,ok.noex,ok.exfs,ok.funs,ok.frf⟩
theorem Cx.Ok.untry {pn:List (Addr×Obj)} (ok:(X.try' pn xe).Ok):X.Ok:=
 ⟨ok.mod,ok.kind,ok.glob,ok.blt,ok.above,ok.inj,ok.has,ok.cab,ok.hd,ok.frames,ok.stk,ok.exf,ok.bs,ok.bsz,ok.noex,ok.exfs,ok.funs,ok.frf⟩
theorem Inv.try' (I:Inv X pins σ H s) (xe:Value->Shared->Prop):Inv (X.try' (X.pn++pins) xe) [] σ H s:=
 ⟨I.ok.try',I.os,I.bare,I.base,I.loc,I.cell,I.free,I.freeC,fun p hp=>I.pin p (by simpa using hp),I.hok,I.len⟩
theorem Inv.untry (I:Inv (X.try' (X.pn++pins) xe) pins' σ H s):Inv X pins σ H s:=
 ⟨I.ok.untry,I.os,I.bare,I.base,I.loc,I.cell,I.free,I.freeC,fun p hp=>I.pin p (List.mem_append_left _ hp),I.hok,I.len⟩
theorem Inv.mark' (I:Inv X pins σ H s) (e:Value):Inv (X.mark' e) pins σ H s:=
 ⟨⟨I.ok.mod,I.ok.kind,I.ok.glob,I.ok.blt,I.ok.above,I.ok.inj,I.ok.has,I.ok.cab,fun z=>(by cases z),I.ok.frames,I.ok.stk,I.ok.exf,I.ok.bs,I.ok.bsz,I.ok.noex,I.ok.exfs,I.ok.funs,I.ok.frf⟩,I.os,I.bare,I.base,I.loc,I.cell,I.free,I.freeC,I.pin,I.hok,I.len⟩
theorem Inv.unmark {e:Value} (I:Inv (X.mark' e) pins σ H s) (hd:X.calm=true->X.A.handled=none):Inv X pins σ H s:=
 ⟨⟨I.ok.mod,I.ok.kind,I.ok.glob,I.ok.blt,I.ok.above,I.ok.inj,I.ok.has,I.ok.cab,hd,I.ok.frames,I.ok.stk,I.ok.exf,I.ok.bs,I.ok.bsz,I.ok.noex,I.ok.exfs,I.ok.funs,I.ok.frf⟩,I.os,I.bare,I.base,I.loc,I.cell,I.free,I.freeC,I.pin,I.hok,I.len⟩
theorem SP.untry {D:xE} {f:Flow} {pins' :List (Addr×Obj)} (h:SP (X.try' (X.pn++pins) xe) pins' D f s'):SP X pins D f s' :=by
 cases f with
 | next=>obtain ⟨σ',H',I,q⟩:=h; exact ⟨σ',H',I.untry,q⟩
 | brk=>obtain ⟨σ',H',I,q⟩:=h; exact ⟨σ',H',I.untry,q⟩
 | cont=>obtain ⟨σ',H',I,q⟩:=h; exact ⟨σ',H',I.untry,q⟩
 | ret u=>obtain ⟨v,σ',H',I,r,q⟩:=h; exact ⟨v,σ',H',I.untry,r,q⟩
theorem kG {A:Around} {E:Value->Shared->Prop} {M:Model} {i:Nat} {n:Str} {pos:Pos} {Q:Unit->Shared->Prop} (I:Inv X pins σ H s) (hN:X.N.Nodup) (hi:X.N[i]? =some n) (hl:X.env.kindOf n=some .local) (h:∀ s',Inv X pins (σ.set i none) H s' ->Q () s'):
  wpAny M A (do bindName X.env n .none; unbindBehindTheSuite X.env n pos) Q E s:=by
 obtain ⟨m,hn,hlo⟩:=id I.loc
 have hcls:(X.env.scope.kind == .class || (X.env.scope.kind == .module && X.env.locals != X.env.globals))=false:=by rw [I.ok.kind]; rfl
 refine wpAny_nameGoes_keeps hl hn hcls fun h' v hn' hs=> ?_
 obtain ⟨oL,_,_,hoL,_⟩:=id hn
 refine h _ ⟨I.ok,I.os,I.bare,⟨fun b o e n hb hx=> ?_,fun b o e n hb hx=> ?_,I.base.free,fun b o e hx=> ?_,I.base.tups,I.base.frzs,I.base.tbls⟩,⟨_,hn',fun j y v' e1 e2 e3=> ?_⟩,fun y c e=> ?_,I.free,I.freeC,fun p hp=> ?_,fun b ob e=> ?_,by simpa using I.len⟩
 ·exact (hs.2 b (Nat.ne_of_lt (Nat.lt_of_lt_of_le (Heap.lt_size e) I.ok.above))).trans (I.base.keep b o e n hb hx)
 ·obtain ⟨sl,e1⟩:=I.base.slot b o e n hb hx
  exact ⟨sl,(hs.2 b (Nat.ne_of_lt (Nat.lt_of_lt_of_le (Heap.lt_size e) I.ok.above))).trans e1⟩
 ·obtain ⟨o',e1⟩:=I.base.there b o e hx
  exact ⟨o',(hs.2 b (Nat.ne_of_lt (Nat.lt_of_lt_of_le (Heap.lt_size e) I.ok.above))).trans e1⟩
 ·by_cases hj:j=i
  ·subst hj
   have hiσ:j < σ.length:=by rw [I.len]; exact (List.getElem?_eq_some_iff.mp hi).1
   rw [List.getElem?_set_self hiσ] at e2
   cases e2
  ·rw [List.getElem?_set_ne (Ne.symm hj)] at e2
   obtain ⟨u',r',q⟩:=hlo j y v' e1 e2 e3
   refine ⟨u',r', ?_⟩
   rcases q with ⟨k,e⟩ | ⟨k,c,e,z⟩
   ·refine .inl ⟨k, ?_⟩
    have:y ≠ n:=fun e=>hj (UP hN e1 (e ▸ hi))
    simp [this,e]
   ·exact .inr ⟨k,c,e,z.sameBut hs (I.cne y c e)⟩
 ·obtain ⟨w',z⟩:=I.cell y c e
  exact ⟨w',z.sameBut hs (I.cne y c e)⟩
 ·obtain ⟨e,n,ne,nf,d⟩:=I.pin p hp
  exact ⟨(hs.2 p.1 ne).trans e,n,ne,nf,d⟩
 ·refine (I.hok b ob e).stay (fun c w' hc q=>(hs.2 c ?_).trans q) (fun _ q=>q) fun _ _ q=>q
  rintro rfl
  rcases hc with rfl | hc
  ·rw [I.free] at e; cases e
  ·rw [I.free] at hc; cases hc
end
section
variable {prog:Program} {w:World} {A:Around} {E:Value->Shared->Prop} {s:Shared} {env:Env}
theorem QC {K:Frag} {e:Addr} {cls c:Value} {t:Expr} {n:Str} {b₀:Stmt} {suite:List Stmt} {pos:Pos} {rest:List ExceptHandler} {Q:Flow->Shared->Prop} (hx:exmOne K cls c=some true)
  (h:wpAny (model prog w) (A.mark (some (.ref e))) (eval t env) (fun v s₁=>v=c/\K.In s₁.heap/\(∃ oe,s₁.heap.get? e=some oe/\oe.cls=cls)/\
   wpAny (model prog w) (A.mark (some (.ref e))) (setFlight (.ref e) none) (fun _ s₂=>
     wpAny (model prog w) (A.mark (some (.ref e))) (storeName env n (.ref e)) (fun _ s₃=>
      wpAny (model prog w) (A.mark (some (.ref e))) (execs (b₀ :: suite) env)
       (fun f s₄=>wpAny (model prog w) A (do bindName env n .none; unbindBehindTheSuite env n pos) (fun _ s₅=>Q f s₅) E s₄)
       (fun _ _=>False) s₃) (fun _ _=>False) s₂) (fun _ _=>False) s₁) (fun _ _=>False) s):
  wpAny (model prog w) A (handleBy (.ref e) env (.ExceptHandler (some t) (some n) (b₀ :: suite) pos :: rest)) Q E s:=by
 refine wpAny_handleBy_cons (codeAny_handlers_test (wpAny_mono h (fun v s₁ h₁=> ?_) fun _ _ y=>y.elim)) (by intro q; cases q)
 obtain ⟨rfl,X,⟨oe,he,hcls⟩,hk⟩:=h₁
 have LT:Looks (model prog w) s₁.heap (typeOf (.ref e)) cls:=by
  rw [← hcls]
  exact (Looks.ld he).andThen .now
 refine (exm_one X LT hx) _ _ _ _ (fun b o q=>q) (codeAny_handlers_suite_as ?_)
 exact wpAny_mono hk (fun _ s₂ h₂=>wpAny_mono h₂ (fun _ s₃ h₃=>wpAny_mono h₃ (fun _ _ y=>y) fun _ _ y=>y.elim) fun _ _ y=>y.elim) fun _ _ y=>y.elim
end
end L2
namespace L2
open PySem PySem.Spec PyProof.Rows PySem.W
section
variable {X:Cx} {pins:List (Addr×Obj)} {σ:St} {H H' :Hp} {s s' :Shared} {ea:Addr} {cls a0:Value} {B:Heap} {h3:Heap}
theorem Inv.caught (I:Inv X pins σ H s) (L:YO X.prog X.w X.stack H s s' ea cls a0 B H') (fl:Heap.FlyingW B X.stack ea cls a0 h3) (sl:s'.heap.UpToSlots h3):Inv X pins σ H' { s' with heap:=h3 }:=
 have L3:=L.on I.frNf fl sl
 I.call' (ch:=[]) L3.os L3.un (L.hok.kept fl.1) L3.bare (fun b z=>absurd z (by simp))
theorem YO.fresh {P:Program} {w:World} {outer:List Env} (L:YO P w outer H s s' ea cls a0 B H'):H' ea=none:=by
 cases q:H' ea with
 | none=>rfl
 | some o=>
  obtain ⟨ob,e⟩:=(L.hok ea o q).there
  have:=L.fly.2.1
  rw [e] at this; cases this
theorem Inv.caughtX (I:Inv X pins σ H s) (L:YO X.prog X.w X.stack H s s' ea cls a0 B H') (fl:Heap.FlyingW B X.stack ea cls a0 h3) (sl:s'.heap.UpToSlots h3):Inv X pins σ (upd H' ea (.ext (YR cls ea))) { s' with heap:=h3 }:=by
 have L3:=L.on I.frNf fl sl
 have hfree:=L.fresh
 obtain ⟨oe,vs,he,hc,hd,_⟩:=fl.first
 have hne:∀ b o,s.heap.get? b=some o->b ≠ ea:=fun b o e z=>by
  subst z
  by_cases hb:b∈frs X.stack
  ·obtain ⟨n,o2,e2,nf⟩:=I.frNf b hb
   obtain ⟨sl1,e3⟩:=L3.un.slot b o2 e2 n hb (by simp)
   have e3:h3.get? b=some { o2 with slots:=sl1 }:=e3
   rw [he] at e3; cases e3
   exact nf vs hd
  ·obtain ⟨o',e'⟩:=(L.inB b o e hb).2
   have:=L.fly.2.1
   rw [e'] at this; cases this
 have nt:∀ b u,H' b=some u->b ≠ ea:=fun b u e z=>by rw [z,hfree] at e; cases e
 refine I.call' (ch:=[]) L3.os ⟨L3.un.keep,L3.un.slot,fun b o e n hx=> ?_,L3.un.there,fun b xs e=> ?_,fun b o xs e=> ?_,fun b ps e=> ?_⟩ ?_ L3.bare (fun b z=>absurd z (by simp))
 ·rw [zJ (hne b o e)]; exact L3.un.free b o e n hx
 ·have:=L3.un.tups b xs e
  rw [zJ (nt b _ this)]; exact this
 ·have:=L3.un.frzs b o xs e
  rw [zJ (nt b _ this)]; exact this
 ·obtain ⟨m,this⟩:=L3.un.tbls b ps e
  exact ⟨m,by rw [zJ (nt b _ this)]; exact this⟩
 ·intro b u e
  by_cases hb:b=ea
  ·subst hb
   rw [Zu] at e; cases e
   exact YR.ok ⟨oe,he,hc⟩
  ·rw [zJ hb] at e
   exact ((L.hok.kept fl.1) b u e).stay (fun _ _ _ q=>q) (fun c q=>by rw [zJ (nt c _ q)]; exact q) fun c xs q=>by rw [zJ (nt c _ q)]; exact q
end
theorem kH {X:Cx} {tb:XK->TS} {body:List Stmt} {c n y:Str} {C:Addr} {cp np yp hp apos pos:Pos} {i k:Nat}
  (hX:X.stack=X.env :: X.outer) (hf:X.env.frame=some X.env.locals) (hN:X.N.Nodup)
  (hi:X.N[i]? =some n) (hl:X.env.scope.names.lookup n=some .local) (hk:X.N[k]? =some y) (hy:X.env.scope.names.lookup y=some .local)
  (hg:Gl X c) (hm:X.mg c=some (.ref C))
  (hb:∀ (E' :XK) (pn:List (Addr×Obj)) (xe:Value->Shared->Prop),W3 (CX1 X.prog X.w) (X.try' pn xe) E' ->PSs (X.try' pn xe) body (tb E'))
  (hs:swapsWith (.Name n np) (some (.Name y yp)) apos.line X.env=pure false:=by rfl)
  (hdc:(c == ("__debug__":Str))=false:=by decide) (hdn:(n == ("__debug__":Str))=false:=by decide) (hcd:(n == ("__classdict__":Str))=false:=by decide):
  PS X (.Try body [.ExceptHandler (some (.Name c cp)) (some n) [.Assign [.Name y yp] (.Name n np) apos] hp] [] [] pos)
   (fun D σ H=>∃ E' :XK,(∀ (cls:Value) (d:Option Addr) (H' :Hp) (ea:Addr) (σ' :St),E' cls d H' ->exmOne X.K cls (.ref C)=some true/\(H' ea=none->σ'.length=σ.length->σ.length=X.N.length->D.nx (((σ'.set i (some (.ref ea))).set k (some (.ref ea))).set i none) (upd H' ea (.ext (YR cls ea)))))/\tb E' D σ H):=by
 intro pins s σ H D I ⟨E',hE,hw⟩
 have pass:W3 (CX1 X.prog X.w) (X.try' (X.pn++pins) fun e s1=>wpAny (model X.prog X.w) X.A (noteFrame e X.env) (fun _ s2=>wpAny (model X.prog X.w) X.A (setFlight e none) (fun _ s3=>wpAny (model X.prog X.w) X.A (handleBy e X.env [.ExceptHandler (some (.Name c cp)) (some n) [.Assign [.Name y yp] (.Name n np) apos] hp]) (SP X pins D) X.xe s3) X.xe s2) X.xe s1) E' :=by
  intro pins' σ' H1 s1 e s' I1 ⟨ea,cls,a0,B,H',he,L,hw'⟩
  subst he
  have I0:Inv X pins σ' H1 s1:=I1.untry
  have L:YO X.prog X.w X.stack H1 s1 s' ea cls a0 B H' :=L
  have fr:X.A.frames=some (X.env :: X.outer):=by rw [← hX]; exact I0.ok.frames
  show wpAny (model X.prog X.w) X.A (noteFrame (.ref ea) X.env) _ _ s'
  refine wpAny_looks_onW (base:=B) fr hf (hX ▸ L.fly) fun h1 held sl1=> ?_
  refine wpAny_landsW held fun h2 fl2 sl2=> ?_
  rw [← hX] at fl2
  have sl12:s'.heap.UpToSlots h2:=sl1.trans sl2
  have I2:=I0.caught L fl2 sl12
  obtain ⟨hm1,hD⟩:=hE cls none H' ea σ' hw'
  refine QC hm1 ?_
  refine UQ (X:=X.mark' (.ref ea)) (I2.mark' (.ref ea)) hg hm ⟨rfl,I2.kIn,fl2.there, ?_⟩ hdc
  refine lands_againW fl2 fun h3 fl3 sl3=> ?_
  have I3:=I0.caughtX L fl3 (sl12.trans sl3)
  have hlen:σ'.length=X.N.length:=I0.len
  refine Wm (X:=X.mark' (.ref ea)) (I3.mark' _) hN hi (.inl hl) (v:= .ref ea) rfl (fun s4 I4=> ?_) (.inr hl)
  have hiσ:i < σ'.length:=by rw [hlen]; exact (List.getElem?_eq_some_iff.mp hi).1
  have hs1:=vm (qL (X:=X.mark' (.ref ea)) (pos:=apos) (pos' :=yp) hN hk (.inl hy) (XG (pos:=np) hi (.inl hl) hdn hcd) hs (.inr hy))
  have hr:=hs1 pins s4 _ _ { nx:=fun σ5 H5=>σ5=(σ'.set i (some (.ref ea))).set k (some (.ref ea))/\H5=upd H' ea (.ext (YR cls ea)),rt:=fun _ _=>False } I4 ⟨.ref ea,List.getElem?_set_self hiσ,rfl,rfl⟩
  refine wpAny_mono hr (fun f s5 h5=> ?_) fun _ _ z=>z
  cases f with
  | next=>
   obtain ⟨σ5,H5,I5,rfl,rfl⟩:=h5
   refine kG (X:=X) (I5.unmark I.ok.hd) hN hi hl fun s6 I6=> ?_
   exact ⟨_,_,I6,hD L.fresh (hlen.trans I.len.symm) I.len⟩
  | brk=>obtain ⟨_,_,_,z⟩:=h5; exact z.elim
  | cont=>obtain ⟨_,_,_,z⟩:=h5; exact z.elim
  | ret u=>obtain ⟨_,_,_,_,_,z⟩:=h5; exact z.elim
 have hr:=hb E' (X.pn++pins) _ pass [] s σ H D (I.try' _) hw
 refine wpAny_Try_except (wpAny_mono hr (fun f s1 h1=> ?_) fun _ _ z=>z)
 have h1:=h1.untry
 cases f with
 | next=>exact wpAny_execs_nil h1
 | brk=>exact h1
 | cont=>exact h1
 | ret u=>exact h1
end L2
namespace L2
open PySem PySem.Spec PyProof.Rows
theorem PE.imp {X:Cx} {e:Expr} {t t' :TE} (h:PE X e t) (i:∀ σ H Q,t' σ H Q->t σ H Q):PE X e t' :=fun pins s σ H Q I q=>h pins s σ H Q I (i σ H Q q)
theorem PT.imp {X:Cx} {e:Expr} {t t' :TT} (h:PT X e t) (i:∀ σ H Q,t' σ H Q->t σ H Q):PT X e t' :=fun pins s σ H Q I q=>h pins s σ H Q I (i σ H Q q)
theorem PA.imp {X:Cx} {e:List Expr} {t t' :TA} (h:PA X e t) (i:∀ σ H Q,t' σ H Q->t σ H Q):PA X e t' :=fun pos pins s σ H Q I q=>h pos pins s σ H Q I (i σ H Q q)
theorem PS.imp {X:Cx} {e:Stmt} {t t' :TS} (h:PS X e t) (i:∀ D σ H,t' D σ H->t D σ H):PS X e t' :=fun pins s σ H D I q=>h pins s σ H D I (i D σ H q)
theorem PSs.imp {X:Cx} {e:List Stmt} {t t' :TS} (h:PSs X e t) (i:∀ D σ H,t' D σ H->t D σ H):PSs X e t' :=fun pins s σ H D I q=>h pins s σ H D I (i D σ H q)
end L2
namespace PV
open PySem
noncomputable def yT:Expr->Bool
 | .Starred _ _=>false
 | _=>true
theorem ZH {e:Expr} {rest:List Expr} {env:Env} (h:yT e=true):starEach (e :: rest) env=(false,eval e env) :: starEach rest env:=by
 cases e <;> first | rfl | cases h
theorem st2 {a b:Expr} {env:Env} (h:yT a=true) (h' :yT b=true):starEach [a,b] env=[(false,eval a env),(false,eval b env)]:=by
 rw [ZH h,ZH h']; rfl
theorem st1 {a:Expr} {env:Env} (h:yT a=true):starEach [a] env=[(false,eval a env)]:=by
 rw [ZH h]; rfl
theorem jU {pos:Pos} {env:Env}:∀ {es:List Expr},es.all yT=true->((backTo pos (starEach es env)).any fun x=>x.fst)=false
 | [],_=>rfl
 | e :: es,h=>by
  rw [List.all_cons,Bool.and_eq_true] at h
  rw [ZH h.1]
  have:=jU (pos:=pos) (env:=env) h.2
  show (false || ((backTo pos (starEach es env)).any fun x=>x.fst))=false
  rw [this]; rfl
open PySem PySem.Spec PyProof.Rows L2
noncomputable abbrev Sg:=L2.St
inductive T where
 | non | bl (b:Bool) | int (i:Int) | str (x:Str) | tup (xs:List T) | lst (xs:List T) | fz (xs:List T)
inductive R (α:Type) where
 | ok (a:α) | ex (c:Nat) | bad
noncomputable def R.bind {α β:Type} (r:R α) (f:α->R β):R β:=match r with
 | .ok a=>f a
 | .ex c=> .ex c
 | .bad=> .bad
mutual
inductive Rep (H:Hp):V->T->Prop where
 | non:Rep H .non .non
 | bl (b:Bool):Rep H (.bl b) (.bl b)
 | int (i:Int):Rep H (.int i) (.int i)
 | str (x:Str):Rep H (.str x) (.str x)
 | tup {a:Addr} {xs:List V} {ts:List T}:H a=some (.tup xs)->Z4 H xs ts->Rep H (.ref a) (.tup ts)
 | lst {a:Addr} {xs:List V} {ts:List T}:H a=some (.lst xs)->Z4 H xs ts->Rep H (.ref a) (.lst ts)
 | fz {a:Addr} {o:Obj} {xs:List V} {ts:List T}:H a=some (.frz o (.lst xs))->Z4 H xs ts->Rep H (.ref a) (.fz ts)
inductive Z4 (H:Hp):List V->List T->Prop where
 | nil:Z4 H [] []
 | cons {v:V} {t:T} {vs:List V} {ts:List T}:Rep H v t->Z4 H vs ts->Z4 H (v :: vs) (t :: ts)
end
mutual
theorem Rep.mono {H H' :Hp} (s:zS H H'):∀ {v:V} {t:T},Rep H v t->Rep H' v t
 | _,_, .non=> .non
 | _,_, .bl b=> .bl b
 | _,_, .int i=> .int i
 | _,_, .str x=> .str x
 | _,_, .tup h r=> .tup (s _ _ h) (Z4.mono s r)
 | _,_, .lst h r=> .lst (s _ _ h) (Z4.mono s r)
 | _,_, .fz h r=> .fz (s _ _ h) (Z4.mono s r)
theorem Z4.mono {H H' :Hp} (s:zS H H'):∀ {v:List V} {t:List T},Z4 H v t->Z4 H' v t
 | _,_, .nil=> .nil
 | _,_, .cons h r=> .cons (Rep.mono s h) (Z4.mono s r)
end
theorem Z4.length {H:Hp}:∀ {vs:List V} {ts:List T},Z4 H vs ts->vs.length=ts.length
 | _,_, .nil=>rfl
 | _,_, .cons _ r=>congrArg (·+1) (Z4.length r)
theorem Z4.get {H:Hp}:∀ {vs:List V} {ts:List T} {i:Nat} {t:T},Z4 H vs ts->ts[i]? =some t->∃ v,vs[i]? =some v/\Rep H v t
 | _,_,_,_, .nil,e=>by simp at e
 | _,_,0,_, .cons r _,e=>by simp at e; subst e; exact ⟨_,rfl,r⟩
 | _,_,i+1,t, .cons _ q,e=>by
  obtain ⟨v,h1,h2⟩:=Z4.get (i:=i) (t:=t) q (by simpa using e)
  exact ⟨v,by simpa using h1,h2⟩
theorem Z4.getV {H:Hp}:∀ {vs:List V} {ts:List T} {i:Nat} {v:V},Z4 H vs ts->vs[i]? =some v->∃ t,ts[i]? =some t/\Rep H v t
 | _,_,_,_, .nil,e=>by simp at e
 | _,_,0,_, .cons r _,e=>by simp at e; subst e; exact ⟨_,rfl,r⟩
 | _,_,i+1,v, .cons _ q,e=>by
  obtain ⟨t,h1,h2⟩:=Z4.getV (i:=i) (v:=v) q (by simpa using e)
  exact ⟨t,by simpa using h1,h2⟩
theorem Z4.append {H:Hp}:∀ {vs ws:List V} {ts us:List T},Z4 H vs ts->Z4 H ws us->Z4 H (vs++ws) (ts++us)
 | _,_,_,_, .nil,q=>q
 | _,_,_,_, .cons r t,q=> .cons r (Z4.append t q)
theorem Z4.take {H:Hp}:∀ {vs:List V} {ts:List T} (n:Nat),Z4 H vs ts->Z4 H (vs.take n) (ts.take n)
 | _,_,0,_=> .nil
 | _,_,_+1, .nil=> .nil
 | _,_,n+1, .cons r t=> .cons r (Z4.take n t)
theorem Z4.drop {H:Hp}:∀ {vs:List V} {ts:List T} (n:Nat),Z4 H vs ts->Z4 H (vs.drop n) (ts.drop n)
 | _,_,0,r=>r
 | _,_,_+1, .nil=> .nil
 | _,_,n+1, .cons _ t=>Z4.drop n t
theorem Z4.rep {H:Hp} {vs:List V} {ts:List T} (h:Z4 H vs ts):∀ n:Nat,Z4 H (List.replicate n vs).flatten (List.replicate n ts).flatten
 | 0=> .nil
 | n+1=>by
  rw [List.replicate_succ,List.replicate_succ,List.flatten_cons,List.flatten_cons]
  exact h.append (Z4.rep h n)
theorem Z4.nil_iff {H:Hp} {vs:List V} {ts:List T} (h:Z4 H vs ts):vs=[]↔ts=[]:=by
 cases h <;> simp
noncomputable def Zl (B H H' :Hp):Hp:=fun b=>match H b with
 | none=>H' b
 | some _=>B b
theorem ZI {B H H' :Hp} {b:Addr} (h:H b=none):Zl B H H' b=H' b:=by unfold Zl; rw [h]
theorem ZN {B H H' :Hp} {b:Addr} {o:HO} (h:H b=some o):Zl B H H' b=B b:=by unfold Zl; rw [h]
theorem Zl.ge {B H H' :Hp} (s:zS B H) (s' :zS H H'):zS B (Zl B H H'):=fun b o h=>by
 rw [ZN (s b o h)]; exact h
theorem Zl.le {B H H' :Hp} (s:zS B H) (s' :zS H H'):zS (Zl B H H') H' :=fun b o h=>by
 cases q:H b with
 | none=>rw [ZI q] at h; exact h
 | some u=>rw [ZN q] at h; exact s' b o (s b o h)
theorem Zl.self (B H:Hp) (s:zS B H):Zl B H H=B:=by
 funext b
 cases q:H b with
 | none=>
  rw [ZI q,q]
  cases z:B b with
  | none=>rfl
  | some o=>rw [s b o z] at q; cases q
 | some u=>rw [ZN q]
theorem Zl.trans {B H H1 H2:Hp} (s1:zS H H1) (s2:zS H1 H2):Zl (Zl B H H1) H1 H2=Zl B H H2:=by
 funext b
 cases q:H b with
 | none=>
  rw [ZI q]
  cases z:H1 b with
  | none=>rw [ZI z]
  | some o=>rw [ZN z,ZI q,z,s2 b o z]
 | some u=>rw [ZN q,ZN (s1 b u q),ZN q]
inductive Sl where
 | un | vl (t:T) | ow (ts:List T) | xc (c:Nat)
noncomputable abbrev En:=List Sl
structure Fx where
 B0:Hp
 H0:Hp
 E:XK
 cl:Nat->Value
structure SI (Y:Fx) (B:Hp) (ρ:En) (σ:Sg) (H:Hp):Prop where
 s0:zS Y.B0 Y.H0
 sH:zS Y.H0 H
 sB:zS B H
 old:∀ b o,Y.H0 b=some o->B b=Y.B0 b
 len:ρ.length=σ.length
 vl:∀ (i:Nat) (t:T),ρ[i]? =some (Sl.vl t)->∃ v:V,σ[i]? =some (some v)/\Rep B v t
 ow:∀ (i:Nat) (ts:List T),ρ[i]? =some (Sl.ow ts)->∃ (a:Addr) (xs:List V),σ[i]? =some (some (V.ref a))/\B a=none/\Y.H0 a=none/\H a=some (.lst xs)/\Z4 B xs ts/\
  ∀ (j:Nat) (us:List T),j ≠ i->ρ[j]? =some (Sl.ow us)->σ[j]? ≠ some (some (V.ref a))
 xc:∀ (i:Nat) (c:Nat),ρ[i]? =some (Sl.xc c)->∃ a:Addr,σ[i]? =some (some (V.ref a))/\B a=some (.ext (YR (Y.cl c) a))
theorem SI.grow {Y:Fx} {B:Hp} {ρ:En} {σ:Sg} {H H' :Hp} (I:SI Y B ρ σ H) (s:zS H H'):SI Y (Zl B H H') ρ σ H' where
 s0:=I.s0
 sH:=I.sH.trans s
 sB:=Zl.le I.sB s
 old:=fun b o h=>by rw [ZN (I.sH b o h)]; exact I.old b o h
 len:=I.len
 vl:=fun i t h=>let ⟨v,e,r⟩:=I.vl i t h; ⟨v,e,r.mono (Zl.ge I.sB s)⟩
 ow:=fun i ts h=>let ⟨a,xs,e,b,h0,hh,r,d⟩:=I.ow i ts h; ⟨a,xs,e,by rw [ZN hh]; exact b,h0,s _ _ hh,r.mono (Zl.ge I.sB s),d⟩
 xc:=fun i c h=>let ⟨a,e,r⟩:=I.xc i c h; ⟨a,e,Zl.ge I.sB s a _ r⟩
noncomputable def XP (Y:Fx) (B:Hp) (c:Nat):Prop:=∀ (d:Option Addr) (H' :Hp),zS Y.H0 H' ->zS B H' ->Y.E (Y.cl c) d H'
noncomputable def Po {α β:Type} (Y:Fx) (rel:Hp->Hp->β->α->Prop) (B H:Hp) (r:R α) (Q:β->Hp->Prop):Prop:=match r with
 | .ok a=>∀ b H',zS H H' ->rel (Zl B H H') H' b a->Q b H'
 | .ex c=>XP Y B c
 | .bad=>False
noncomputable abbrev rC:Hp->Hp->V->T->Prop:=fun B _ v t=>Rep B v t
noncomputable abbrev rB:Hp->Hp->V->T->Prop:=fun _ H v t=>Rep H v t
noncomputable abbrev rCs:Hp->Hp->List V->List T->Prop:=fun B _ v t=>Z4 B v t
noncomputable abbrev rE {α:Type}:Hp->Hp->α->α->Prop:=fun _ _ a b=>a=b
noncomputable def tS {α β:Type} (Y:Fx) (rel:Hp->Hp->β->α->Prop) (f:En->R α) (ρ:En):Sg->Hp->(β->Hp->Prop)->Prop:=fun σ H Q=>∃ B,SI Y B ρ σ H/\Po Y rel B H (f ρ) Q
structure Snd (X:Cx) (Y:Fx) (e:Expr) (f:En->R T):Prop where
 mk ::
 go:∀ ρ,PE X e (tS Y rC f ρ)
noncomputable instance {X:Cx} {Y:Fx} {e:Expr} {f:En->R T}:CoeFun (Snd X Y e f) fun _=>∀ ρ,PE X e (tS Y rC f ρ):=⟨Snd.go⟩
structure WF (X:Cx) (Y:Fx) (e:Expr) (f:En->R T):Prop where
 mk ::
 go:∀ ρ,PE X e (tS Y rB f ρ)
noncomputable instance {X:Cx} {Y:Fx} {e:Expr} {f:En->R T}:CoeFun (WF X Y e f) fun _=>∀ ρ,PE X e (tS Y rB f ρ):=⟨WF.go⟩
structure YJ (X:Cx) (Y:Fx) (e:Expr) (f:En->R Bool):Prop where
 mk ::
 go:∀ ρ,PT X e (tS Y rE f ρ)
noncomputable instance {X:Cx} {Y:Fx} {e:Expr} {f:En->R Bool}:CoeFun (YJ X Y e f) fun _=>∀ ρ,PT X e (tS Y rE f ρ):=⟨YJ.go⟩
structure YS (X:Cx) (Y:Fx) (es:List Expr) (f:En->R (List T)):Prop where
 mk ::
 go:∀ ρ,PA X es (tS Y rCs f ρ)
noncomputable instance {X:Cx} {Y:Fx} {es:List Expr} {f:En->R (List T)}:CoeFun (YS X Y es f) fun _=>∀ ρ,PA X es (tS Y rCs f ρ):=⟨YS.go⟩
theorem step {α α' β β' :Type} {Y:Fx} {rel:Hp->Hp->β->α->Prop} {rel' :Hp->Hp->β' ->α' ->Prop} {f:En->R α} {k:α->R α'} {ρ:En} {B:Hp} {σ:Sg} {H:Hp} {Q:β' ->Hp->Prop} {K:β->Hp->Prop}
  (I:SI Y B ρ σ H) (h:Po Y rel' B H ((f ρ).bind k) Q)
  (n:∀ a b H1,f ρ= .ok a->zS H H1->rel (Zl B H H1) H1 b a->SI Y (Zl B H H1) ρ σ H1->Po Y rel' (Zl B H H1) H1 (k a) Q->K b H1):tS Y rel f ρ σ H K:=by
 refine ⟨B,I, ?_⟩
 cases e:f ρ with
 | bad=>rw [e] at h; exact h
 | ex c=>rw [e] at h; exact h
 | ok a=>
  rw [e] at h
  intro b H1 s r
  refine n a b H1 e s r (I.grow s) ?_
  have h' :Po Y rel' B H (k a) Q:=h
  revert h'
  cases k a with
  | bad=>exact fun h' =>h'
  | ex c=>exact fun h' d H' s0 sB' =>h' d H' s0 ((Zl.ge I.sB s).trans sB')
  | ok a' =>exact fun h' b' H2 s2 r2=>h' b' H2 (s.trans s2) (by rw [← Zl.trans s s2]; exact r2)
theorem Jo {α β:Type} {Y:Fx} {rel:Hp->Hp->β->α->Prop} {ρ:En} {B:Hp} {σ:Sg} {H:Hp} {a:α} {b:β} {Q:β->Hp->Prop} (I:SI Y B ρ σ H) (h:Po Y rel B H (.ok a) Q) (r:rel B H b a):Q b H:=h b H (zS.refl H) (by rw [Zl.self B H I.sB]; exact r)
theorem Snd.b {X:Cx} {Y:Fx} {e:Expr} {f:En->R T} (h:Snd X Y e f):WF X Y e f:= .mk fun ρ=>PE.imp (h ρ) fun σ H Q ⟨B,I,q⟩=>⟨B,I,by
 revert q
 cases f ρ with
 | bad=>exact fun q=>q
 | ex c=>exact fun q=>q
 | ok a=>exact fun q b H' s r=>q b H' s (r.mono (Zl.le I.sB s))⟩
section
variable {X:Cx} {Y:Fx} {a b c:Expr} {fa fb fc:En->R T} {pos:Pos}
noncomputable def vE (i:Nat):En->R T:=fun ρ=>match ρ[i]? with
 | some (.vl t)=> .ok t
 | _=> .bad
noncomputable def vB (i:Nat):En->R T:=fun ρ=>match ρ[i]? with
 | some (.vl t)=> .ok t
 | some (.ow ts)=> .ok (.lst ts)
 | _=> .bad
noncomputable def cE (t:T):En->R T:=fun _=> .ok t
theorem za (i:Nat) {x:Str} (h:PE X (.Name x pos) (vi i)):Snd X Y (.Name x pos) (vE i):= .mk fun ρ=>PE.imp h fun σ H Q ⟨B,I,q⟩=>by
 unfold vE at q
 split at q
 ·rename_i t e
  obtain ⟨v,e1,r⟩:=I.vl i t e
  exact ⟨v,e1,Jo I q r⟩
 ·exact q.elim
theorem zm (i:Nat) {x:Str} (h:PE X (.Name x pos) (vi i)):WF X Y (.Name x pos) (vB i):= .mk fun ρ=>PE.imp h fun σ H Q ⟨B,I,q⟩=>by
 unfold vB at q
 split at q
 ·rename_i t e
  obtain ⟨v,e1,r⟩:=I.vl i t e
  exact ⟨v,e1,Jo I q (r.mono I.sB)⟩
 ·rename_i ts e
  obtain ⟨a,xs,e1,_,_,hh,r,_⟩:=I.ow i ts e
  exact ⟨.ref a,e1,Jo I q (.lst hh (r.mono I.sB))⟩
 ·exact q.elim
theorem zc {i j}:Snd X Y (.Constant (.int i) j pos) (cE (.int i)):= .mk fun ρ=>PE.imp gv fun σ H Q ⟨B,I,q⟩=>Jo I q (.int i)
theorem YT {i j}:Snd X Y (.Constant (.bool i) j pos) (cE (.bl i)):= .mk fun ρ=>PE.imp z0s fun σ H Q ⟨B,I,q⟩=>Jo I q (.bl i)
theorem kI {j}:Snd X Y (.Constant .none j pos) (cE .non):= .mk fun ρ=>PE.imp XH fun σ H Q ⟨B,I,q⟩=>Jo I q .non
theorem zp {i j}:Snd X Y (.Constant (.str i) j pos) (cE (.str i)):= .mk fun ρ=>PE.imp XI fun σ H Q ⟨B,I,q⟩=>Jo I q (.str i)
noncomputable def zd:En->R (List T):=fun _=> .ok []
noncomputable def z0 (f:En->R T) (g:En->R (List T)):En->R (List T):=fun ρ=>(f ρ).bind fun t=>(g ρ).bind fun ts=> .ok (t :: ts)
theorem zg:YS X Y [] zd:= .mk fun ρ=>PA.imp j7 fun σ H Q ⟨B,I,q⟩=>Jo I q .nil
theorem z9 {es:List Expr} {g:En->R (List T)} (h:Snd X Y a fa) (hs:YS X Y es g) (hq:starEach (a :: es) X.env=(false,eval a X.env) :: starEach es X.env:=by exact ZH rfl):YS X Y (a :: es) (z0 fa g):= .mk fun ρ=>
 PA.imp (zY (h ρ) (hs ρ) hq) fun σ H Q ⟨B,I,q⟩=>step I q fun t v H1 _ s1 r1 I1 q1=>step I1 q1 fun ts vs H2 _ s2 r2 I2 q2=>Jo I2 q2 (.cons (r1.mono (Zl.ge I1.sB s2)) r2)
theorem zS.new {H:Hp} {p:Addr} (h:H p=none) (o:HO):zS H (upd H p o):=fun b u q=>by rw [zJ (Zd q h)]; exact q
theorem wz {B H:Hp} {p:Addr} (h:H p=none) (o:HO):Zl B H (upd H p o) p=some o:=by rw [ZI h,Zu]
noncomputable def bnd:Nat:=16777216
theorem JW {n:Nat} (h:n<=bnd):n<=sizeLine:=by rw [sizeLine_eq]; exact h
noncomputable def zG (g:En->R (List T)):En->R T:=fun ρ=>(g ρ).bind fun ts=>if ts.length<=bnd then .ok (.tup ts) else .bad
noncomputable def J6 (g:En->R (List T)):En->R T:=fun ρ=>(g ρ).bind fun ts=>if ts.length<=bnd then .ok (.lst ts) else .bad
theorem kJ {ρ:En} {σ:Sg} {B H:Hp} {xs:List V} {ts:List T} (I:SI Y B ρ σ H) (r:Z4 B xs ts) {p:Addr} (h:H p=none):Rep (Zl B H (upd H p (.tup xs))) (.ref p) (.tup ts):=
 .tup (wz h _) (r.mono (Zl.ge I.sB (zS.new h _)))
theorem kK {ρ:En} {σ:Sg} {B H:Hp} {xs:List V} {ts:List T} (I:SI Y B ρ σ H) (r:Z4 B xs ts) {p:Addr} (h:H p=none):Rep (Zl B H (upd H p (.lst xs))) (.ref p) (.lst ts):=
 .lst (wz h _) (r.mono (Zl.ge I.sB (zS.new h _)))
theorem zW {es:List Expr} {g:En->R (List T)} {x1} (h:YS X Y es g):Snd X Y (.Tuple es x1 pos) (zG g):= .mk fun ρ=>PE.imp (gN (h ρ)) fun σ H Q ⟨B,I,q⟩=>
 step I q fun ts vs H1 _ s1 r1 I1 q1=>by
  split at q1
  ·rename_i hb
   refine ⟨by rw [r1.length]; exact JW hb,fun p hp=>q1 _ _ (zS.new hp _) (kJ I1 r1 hp)⟩
  ·exact q1.elim
theorem Jl {es:List Expr} {g:En->R (List T)} (h:YS X Y es g):Snd X Y (.List es pos) (J6 g):= .mk fun ρ=>PE.imp (XL (h ρ)) fun σ H Q ⟨B,I,q⟩=>
 step I q fun ts vs H1 _ s1 r1 I1 q1=>by
  split at q1
  ·rename_i hb
   refine ⟨by rw [r1.length]; exact JW hb,fun p hp=>q1 _ _ (zS.new hp _) (kK I1 r1 hp)⟩
  ·exact q1.elim
end
end PV
namespace PV
open PySem PySem.Spec PyProof.Rows L2
noncomputable def eqL (f:T->T->Option Bool):List T->List T->Option Bool
 | [],[]=>some true
 | [],_ :: _=>some false
 | _ :: _,[]=>some false
 | x :: xs,y :: ys=>match f x y with
  | none=>none
  | some b=>match eqL f xs ys with
   | none=>none
   | some c=>some (b && c)
noncomputable def b2 (b:Bool):Int:=if b then 1 else 0
noncomputable def eqF:Nat->T->T->Option Bool
 | _, .non, .non=>some true
 | _, .bl a, .bl b=>some (a == b)
 | _, .bl a, .int j=>some (b2 a == j)
 | _, .int i, .bl b=>some (i == b2 b)
 | _, .int i, .int j=>some (i == j)
 | _, .str x, .str y=>some (x == y)
 | n+1, .tup xs, .tup ys=>eqL (eqF n) xs ys
 | n+1, .lst xs, .lst ys=>eqL (eqF n) xs ys
 | n+1, .fz xs, .lst ys=>eqL (eqF n) xs ys
 | n+1, .lst xs, .fz ys=>eqL (eqF n) xs ys
 | n+1, .fz xs, .fz ys=>eqL (eqF n) xs ys
 | 0, .tup _, .tup _=>none
 | 0, .lst _, .lst _=>none
 | 0, .fz _, .lst _=>none
 | 0, .lst _, .fz _=>none
 | 0, .fz _, .fz _=>none
 | _, .non,_=>some false
 | _, .bl _,_=>some false
 | _, .int _,_=>some false
 | _, .str _,_=>some false
 | _, .tup _,_=>some false
 | _, .lst _,_=>some false
 | _, .fz _,_=>some false
mutual
theorem Rep.fn {H:Hp}:∀ {v:V} {t t' :T},Rep H v t->Rep H v t' ->t=t'
 | _,_,_, .non, .non=>rfl
 | _,_,_, .bl _, .bl _=>rfl
 | _,_,_, .int _, .int _=>rfl
 | _,_,_, .str _, .str _=>rfl
 | _,_,_, .tup h r, .tup h' r' =>by
  rw [h] at h'; cases h'; rw [Z4.fn r r']
 | _,_,_, .tup h r, .lst h' r' =>by rw [h] at h'; cases h'
 | _,_,_, .tup h r, .fz h' r' =>by rw [h] at h'; cases h'
 | _,_,_, .lst h r, .tup h' r' =>by rw [h] at h'; cases h'
 | _,_,_, .lst h r, .lst h' r' =>by
  rw [h] at h'; cases h'; rw [Z4.fn r r']
 | _,_,_, .lst h r, .fz h' r' =>by rw [h] at h'; cases h'
 | _,_,_, .fz h r, .tup h' r' =>by rw [h] at h'; cases h'
 | _,_,_, .fz h r, .lst h' r' =>by rw [h] at h'; cases h'
 | _,_,_, .fz h r, .fz h' r' =>by
  rw [h] at h'; cases h'; rw [Z4.fn r r']
theorem Z4.fn {H:Hp}:∀ {v:List V} {t t' :List T},Z4 H v t->Z4 H v t' ->t=t'
 | _,_,_, .nil, .nil=>rfl
 | _,_,_, .cons h r, .cons h' r' =>by rw [Rep.fn h h',Z4.fn r r']
end
theorem jv {f:T->T->Option Bool} (hf:∀ x b,f x x=some b->b=true):∀ (xs:List T) (b:Bool),eqL f xs xs=some b->b=true
 | [],b,h=>by
  have h' :some true=some b:=h
  cases h'; rfl
 | x :: xs,b,h=>by
  unfold eqL at h
  cases e:f x x with
  | none=>rw [e] at h; cases h
  | some c=>
   rw [e] at h
   cases e' :eqL f xs xs with
   | none=>rw [e'] at h; cases h
   | some d=>
    rw [e'] at h
    cases h
    rw [hf x c e,jv hf xs d e']
    rfl
theorem ZU:∀ (n:Nat) (t:T) (b:Bool),eqF n t t=some b->b=true
 | n, .non,b,h=>by unfold eqF at h; cases h; rfl
 | n, .bl x,b,h=>by unfold eqF at h; cases h; simp
 | n, .int x,b,h=>by unfold eqF at h; cases h; simp
 | n, .str x,b,h=>by unfold eqF at h; cases h; simp
 | 0, .tup x,b,h=>by unfold eqF at h; cases h
 | 0, .lst x,b,h=>by unfold eqF at h; cases h
 | 0, .fz x,b,h=>by unfold eqF at h; cases h
 | n+1, .tup x,b,h=>by unfold eqF at h; exact jv (ZU n) x b h
 | n+1, .lst x,b,h=>by unfold eqF at h; exact jv (ZU n) x b h
 | n+1, .fz x,b,h=>by unfold eqF at h; exact jv (ZU n) x b h
theorem vM {f:T->T->Option Bool}:∀ {xs ys:List T} {b:Bool},eqL f xs ys=some b->
  ∃ e:Nat->Bool,(∀ j x y,xs[j]? =some x->ys[j]? =some y->f x y=some (e j))/\((List.range (min xs.length ys.length)).all e && xs.length == ys.length)=b
 | [],[],b,h=>by
  have h' :some true=some b:=h
  cases h'
  exact ⟨fun _=>true,fun j x y h=>by simp at h,by simp⟩
 | [],y :: ys,b,h=>by
  have h' :some false=some b:=h
  cases h'
  exact ⟨fun _=>true,fun j x y h=>by simp at h,by simp⟩
 | x :: xs,[],b,h=>by
  have h' :some false=some b:=h
  cases h'
  exact ⟨fun _=>true,fun j x y h h' =>by simp at h',by simp⟩
 | x :: xs,y :: ys,b,h=>by
  unfold eqL at h
  cases e:f x y with
  | none=>rw [e] at h; cases h
  | some c=>
   rw [e] at h
   cases e' :eqL f xs ys with
   | none=>rw [e'] at h; cases h
   | some d=>
    rw [e'] at h
    cases h
    obtain ⟨g,h1,h2⟩:=vM e'
    refine ⟨fun j=>match j with | 0=>c | j+1=>g j,fun j u v hu hv=> ?_, ?_⟩
    ·cases j with
     | zero=>simp at hu hv; subst hu hv; exact e
     | succ j=>exact h1 j u v (by simpa using hu) (by simpa using hv)
    ·have z:min (x :: xs).length (y :: ys).length=min xs.length ys.length+1:=by simp only [List.length_cons]; omega
     rw [z,List.range_succ_eq_map,List.all_cons,List.all_map]
     have z2:((x :: xs).length == (y :: ys).length)=(xs.length == ys.length):=by simp
     rw [z2,← h2,Bool.and_assoc]
     rfl
section
variable {X:Cx} {pins:List (Addr×Obj)} {σ:Sg} {H:Hp} {s:Shared}
theorem JI {a:Addr} {xs:List V} {ts:List T} (I:L2.Inv X pins σ H s) (h:H a=some (.tup xs)) (r:Z4 H xs ts):∃ its:List Value,ZM xs its/\s.heap.IsTuple a its.toArray/\ts.length=its.length/\xs.length<=sizeLine:=by
 obtain ⟨its,rv,p,z⟩:=I.tuple (SqT.of h)
 exact ⟨its,rv,p,by rw [← r.length]; exact rv.length,z⟩
theorem Zm {a:Addr} {xs:List V} {ts:List T} (I:L2.Inv X pins σ H s) (h:Rd H a (.lst xs)) (r:Z4 H xs ts):∃ its:List Value,ZM xs its/\s.heap.IsList a its.toArray/\ts.length=its.length/\xs.length<=sizeLine:=by
 obtain ⟨its,rv,p,z⟩:=I.list (.inl h)
 exact ⟨its,rv,p.isList,by rw [← r.length]; exact rv.length,z⟩
end
noncomputable abbrev EqN (A:Around) (s:Shared) (u u' :Value) (b:Bool):Prop:=SeqAt.EqAt A s u u' b/\SeqAt.RcAt A s u u' b/\SeqAt.RcNeAt A s u u' (!b)
section
variable {X:Cx} {pins:List (Addr×Obj)} {σ:Sg} {H:Hp} {s:Shared}
theorem vN {xs ys:List V} {ts us:List T} {its its' :List Value} {A:Around} {f:T->T->Option Bool} {e:Nat->Bool} (r:Z4 H xs ts) (r' :Z4 H ys us) (v:ZM xs its) (v' :ZM ys its')
  (he:∀ (j:Nat) (x y:T),ts[j]? =some x->us[j]? =some y->f x y=some (e j))
  (ih:∀ (x y:T) (b:Bool) (p q:V) (u w:Value),f x y=some b->Rep H p x->Rep H q y->jc p u->jc q w->EqN A s u w b) (j:Nat) (h1:j < its.toArray.size) (h2:j < its'.toArray.size):
  SeqAt.EqAt A s its.toArray[j] its'.toArray[j] (e j):=by
 have l1:=v.length
 have l2:=v'.length
 have m1:=r.length
 have m2:=r'.length
 have k1:j < xs.length:=by simp at h1; omega
 have k2:j < ys.length:=by simp at h2; omega
 obtain ⟨t,et,rt⟩:=r.getV (List.getElem?_eq_getElem k1)
 obtain ⟨t',et',rt'⟩:=r'.getV (List.getElem?_eq_getElem k2)
 obtain ⟨u,eu,ru⟩:=v.get (List.getElem?_eq_getElem k1)
 obtain ⟨u',eu',ru'⟩:=v'.get (List.getElem?_eq_getElem k2)
 have q1:its.toArray[j]=u:=by
  have:its[j]? =some its.toArray[j]:=by simp at h1 ⊢
  rw [eu] at this; exact (Option.some.inj this).symm
 have q2:its'.toArray[j]=u' :=by
  have:its'[j]? =some its'.toArray[j]:=by simp at h2 ⊢
  rw [eu'] at this; exact (Option.some.inj this).symm
 rw [q1,q2]
 exact (ih t t' (e j) _ _ u u' (he j t t' et et') rt rt' ru ru').1
theorem kL {A:Around} {a c:Addr} {xs ys:List V} {ts us:List T} {b:Bool} {f:T->T->Option Bool} (I:L2.Inv X pins σ H s) (hu:A.units < cLine) (ha:H a=some (.tup xs)) (hc:H c=some (.tup ys)) (r:Z4 H xs ts) (r' :Z4 H ys us)
  (hb:eqL f ts us=some b) (hr:∀ x b,f x x=some b->b=true)
  (ih:∀ (x y:T) (b:Bool) (p q:V) (u w:Value),f x y=some b->Rep H p x->Rep H q y->jc p u->jc q w->EqN A.in1 s u w b):EqN A s (.ref a) (.ref c) b:=by
 obtain ⟨its,v,p,l,_⟩:=JI I ha r
 obtain ⟨its',v',p',l',_⟩:=JI I hc r'
 obtain ⟨e,he,hb'⟩:=vM hb
 have hp:=vN (A:=A.in1) r r' v v' he ih
 have z:((List.range (min its.toArray.size its'.toArray.size)).all e && its.toArray.size == its'.toArray.size)=b:=by
  rw [← hb']; simp [l,l']
 have R:=SeqAt.RcAt.tuples p p' hu hp
 have N:=SeqAt.RcNeAt.tuples p p' hu hp
 rw [z] at R
 have N' :SeqAt.RcNeAt A s (.ref a) (.ref c) (!b):=by
  rw [← z]; exact N
 refine ⟨?_,R,N'⟩
 by_cases hac:a=c
 ·subst hac
  rw [ha] at hc; cases hc
  have:=r.fn r'; subst this
  rw [jv hr ts b hb]
  exact SeqAt.EqAt.same _
 ·exact SeqAt.EqAt.of_refs hac R
theorem UV {A:Around} {a c:Addr} {xs ys:List V} {ts us:List T} {b:Bool} {f:T->T->Option Bool} (I:L2.Inv X pins σ H s) (hu:A.units < cLine) (ha:Rd H a (.lst xs)) (hc:Rd H c (.lst ys)) (r:Z4 H xs ts) (r' :Z4 H ys us)
  (hb:eqL f ts us=some b) (hr:∀ x b,f x x=some b->b=true)
  (ih:∀ (x y:T) (b:Bool) (p q:V) (u w:Value),f x y=some b->Rep H p x->Rep H q y->jc p u->jc q w->EqN A.in1 s u w b):EqN A s (.ref a) (.ref c) b:=by
 obtain ⟨its,v,p,l,_⟩:=Zm I ha r
 obtain ⟨its',v',p',l',_⟩:=Zm I hc r'
 obtain ⟨e,he,hb'⟩:=vM hb
 have hp:=vN (A:=A.in1) r r' v v' he ih
 have RN:SeqAt.RcAt A s (.ref a) (.ref c) b/\SeqAt.RcNeAt A s (.ref a) (.ref c) (!b):=by
  by_cases hl:its.toArray.size=its'.toArray.size
  ·have z:(List.range its.toArray.size).all e=b:=by
    rw [← hb']
    have:ts.length=us.length:=by simp at hl; omega
    rw [this]
    have k:its.toArray.size=us.length:=by simp; omega
    rw [k]; simp
   have R:=SeqAt.RcAt.lists p p' hl hu hp
   have N:=SeqAt.RcNeAt.lists p p' hl hu hp
   rw [z] at R
   refine ⟨R, ?_⟩
   rw [← z]; exact N
  ·have hl' :(its.toArray.size != its'.toArray.size)=true:=by simpa using hl
   have z:b=false:=by
    rw [← hb']
    have:¬ ts.length=us.length:=by simp at hl; omega
    simp [this]
   subst z
   exact ⟨SeqAt.RcAt.lists_lengths p p' hl' hu,SeqAt.RcNeAt.lists_lengths p p' hl' hu⟩
 refine ⟨?_,RN.1,RN.2⟩
 by_cases hac:a=c
 ·subst hac
  have hxy:xs=ys:=by
   rcases ha with ha | ⟨o,ha⟩ <;> rcases hc with hc | ⟨o',hc⟩ <;> (rw [ha] at hc; cases hc) <;> rfl
  subst hxy
  have:=r.fn r'; subst this
  rw [jv hr ts b hb]
  exact SeqAt.EqAt.same _
 ·exact SeqAt.EqAt.of_refs hac RN.1
end
end PV
namespace PV
open PySem PySem.Spec PyProof.Rows L2
section
variable {X:Cx} {pins:List (Addr×Obj)} {σ:Sg} {H:Hp} {s:Shared}
theorem Wq {A:Around}:A.in1.units=A.units+1:=rfl
set_option maxHeartbeats 2000000 in
theorem vO (I:L2.Inv X pins σ H s):∀ (A:Around),A.units < cLine->∀ (x y:T) (b:Bool) (p q:V) (u w:Value),eqF 0 x y=some b->Rep H p x->Rep H q y->jc p u->jc q w->EqN A s u w b:=by
 intro A hu x y b p q u w h rp rq ru rw'
 have hu' :=hu
 cases rp with
 | non=>
  obtain rfl:u=Value.none:=ru
  cases rq with
  | non=>obtain rfl:w=Value.none:=rw'; unfold eqF at h; cases h; exact ⟨.same _, .none_none, .none_none⟩
  | bl c=>obtain rfl:w=Value.bool c:=rw'; unfold eqF at h; cases h; exact ⟨.none_bool _, .none_bool _, .none_bool _⟩
  | int c=>obtain ⟨t,rfl⟩:=rw'; unfold eqF at h; cases h; exact ⟨.none_int _ _, .none_int _ _, .none_int _ _⟩
  | str c=>obtain ⟨t,rfl⟩:=rw'; unfold eqF at h; cases h; exact ⟨.none_str _ _, .none_str _ _, .none_str _ _⟩
  | tup h1 r1=>obtain rfl:w=Value.ref _:=rw'; unfold eqF at h; cases h; obtain ⟨i,_,p,_⟩:=JI I h1 r1; exact ⟨.none_tuple p hu', .none_tuple p hu', .none_tuple p hu'⟩
  | lst h1 r1=>obtain rfl:w=Value.ref _:=rw'; unfold eqF at h; cases h; obtain ⟨i,_,p,_⟩:=Zm I (.inl h1) r1; exact ⟨.none_list p hu', .none_list p hu', .none_list p hu'⟩
  | fz h1 r1=>obtain rfl:w=Value.ref _:=rw'; unfold eqF at h; cases h; obtain ⟨i,_,p,_⟩:=Zm I (.inr ⟨_,h1⟩) r1; exact ⟨.none_list p hu', .none_list p hu', .none_list p hu'⟩
 | bl d=>
  obtain rfl:u=Value.bool d:=ru
  cases rq with
  | non=>obtain rfl:w=Value.none:=rw'; unfold eqF at h; cases h; exact ⟨.bool_none _, .bool_none _, .bool_none _⟩
  | bl c=>obtain rfl:w=Value.bool c:=rw'; unfold eqF at h; cases h; exact ⟨.bool_bool _ _, .bool_bool _ _, .bool_bool _ _⟩
  | int c=>obtain ⟨t,rfl⟩:=rw'; unfold eqF at h; cases h; exact ⟨.bool_int _ _ _, .bool_int _ _ _, .bool_int _ _ _⟩
  | str c=>obtain ⟨t,rfl⟩:=rw'; unfold eqF at h; cases h; exact ⟨.bool_str _ _ _, .bool_str _ _ _, .bool_str _ _ _⟩
  | tup h1 r1=>obtain rfl:w=Value.ref _:=rw'; unfold eqF at h; cases h; obtain ⟨i,_,p,_⟩:=JI I h1 r1; exact ⟨.bool_tuple _ p hu', .bool_tuple _ p hu', .bool_tuple _ p hu'⟩
  | lst h1 r1=>obtain rfl:w=Value.ref _:=rw'; unfold eqF at h; cases h; obtain ⟨i,_,p,_⟩:=Zm I (.inl h1) r1; exact ⟨.bool_list _ p hu', .bool_list _ p hu', .bool_list _ p hu'⟩
  | fz h1 r1=>obtain rfl:w=Value.ref _:=rw'; unfold eqF at h; cases h; obtain ⟨i,_,p,_⟩:=Zm I (.inr ⟨_,h1⟩) r1; exact ⟨.bool_list _ p hu', .bool_list _ p hu', .bool_list _ p hu'⟩
 | int d=>
  obtain ⟨t0,rfl⟩:=ru
  cases rq with
  | non=>obtain rfl:w=Value.none:=rw'; unfold eqF at h; cases h; exact ⟨.int_none _ _, .int_none _ _, .int_none _ _⟩
  | bl c=>obtain rfl:w=Value.bool c:=rw'; unfold eqF at h; cases h; exact ⟨.int_bool _ _ _, .int_bool _ _ _, .int_bool _ _ _⟩
  | int c=>obtain ⟨t,rfl⟩:=rw'; unfold eqF at h; cases h; exact ⟨.int_int _ _ _ _, .int_int _ _ _ _, .int_int _ _ _ _⟩
  | str c=>obtain ⟨t,rfl⟩:=rw'; unfold eqF at h; cases h; exact ⟨.int_str _ _ _ _, .int_str _ _ _ _, .int_str _ _ _ _⟩
  | tup h1 r1=>obtain rfl:w=Value.ref _:=rw'; unfold eqF at h; cases h; obtain ⟨i,_,p,_⟩:=JI I h1 r1; exact ⟨.int_tuple _ _ p hu', .int_tuple _ _ p hu', .int_tuple _ _ p hu'⟩
  | lst h1 r1=>obtain rfl:w=Value.ref _:=rw'; unfold eqF at h; cases h; obtain ⟨i,_,p,_⟩:=Zm I (.inl h1) r1; exact ⟨.int_list _ _ p hu', .int_list _ _ p hu', .int_list _ _ p hu'⟩
  | fz h1 r1=>obtain rfl:w=Value.ref _:=rw'; unfold eqF at h; cases h; obtain ⟨i,_,p,_⟩:=Zm I (.inr ⟨_,h1⟩) r1; exact ⟨.int_list _ _ p hu', .int_list _ _ p hu', .int_list _ _ p hu'⟩
 | str d=>
  obtain ⟨t0,rfl⟩:=ru
  cases rq with
  | non=>obtain rfl:w=Value.none:=rw'; unfold eqF at h; cases h; exact ⟨.str_none _ _, .str_none _ _, .str_none _ _⟩
  | bl c=>obtain rfl:w=Value.bool c:=rw'; unfold eqF at h; cases h; exact ⟨.str_bool _ _ _, .str_bool _ _ _, .str_bool _ _ _⟩
  | int c=>obtain ⟨t,rfl⟩:=rw'; unfold eqF at h; cases h; exact ⟨.str_int _ _ _ _, .str_int _ _ _ _, .str_int _ _ _ _⟩
  | str c=>obtain ⟨t,rfl⟩:=rw'; unfold eqF at h; cases h; exact ⟨.str_str _ _ _ _, .str_str _ _ _ _, .str_str _ _ _ _⟩
  | tup h1 r1=>obtain rfl:w=Value.ref _:=rw'; unfold eqF at h; cases h; obtain ⟨i,_,p,_⟩:=JI I h1 r1; exact ⟨.str_tuple _ _ p hu', .str_tuple _ _ p hu', .str_tuple _ _ p hu'⟩
  | lst h1 r1=>obtain rfl:w=Value.ref _:=rw'; unfold eqF at h; cases h; obtain ⟨i,_,p,_⟩:=Zm I (.inl h1) r1; exact ⟨.str_list _ _ p hu', .str_list _ _ p hu', .str_list _ _ p hu'⟩
  | fz h1 r1=>obtain rfl:w=Value.ref _:=rw'; unfold eqF at h; cases h; obtain ⟨i,_,p,_⟩:=Zm I (.inr ⟨_,h1⟩) r1; exact ⟨.str_list _ _ p hu', .str_list _ _ p hu', .str_list _ _ p hu'⟩
 | tup h0 r0=>
  obtain rfl:u=Value.ref _:=ru
  obtain ⟨i0,_,p0,_⟩:=JI I h0 r0
  cases rq with
  | non=>obtain rfl:w=Value.none:=rw'; unfold eqF at h; cases h; exact ⟨.tuple_none p0 hu', .tuple_none p0 hu', .tuple_none p0 hu'⟩
  | bl c=>obtain rfl:w=Value.bool c:=rw'; unfold eqF at h; cases h; exact ⟨.tuple_bool _ p0 hu', .tuple_bool _ p0 hu', .tuple_bool _ p0 hu'⟩
  | int c=>obtain ⟨t,rfl⟩:=rw'; unfold eqF at h; cases h; exact ⟨.tuple_int _ _ p0 hu', .tuple_int _ _ p0 hu', .tuple_int _ _ p0 hu'⟩
  | str c=>obtain ⟨t,rfl⟩:=rw'; unfold eqF at h; cases h; exact ⟨.tuple_str _ _ p0 hu', .tuple_str _ _ p0 hu', .tuple_str _ _ p0 hu'⟩
  | tup h1 r1=>unfold eqF at h; cases h
  | lst h1 r1=>obtain rfl:w=Value.ref _:=rw'; unfold eqF at h; cases h; obtain ⟨i,_,p,_⟩:=Zm I (.inl h1) r1; exact ⟨.tuple_list p0 p hu', .tuple_list p0 p hu', .tuple_list p0 p hu'⟩
  | fz h1 r1=>obtain rfl:w=Value.ref _:=rw'; unfold eqF at h; cases h; obtain ⟨i,_,p,_⟩:=Zm I (.inr ⟨_,h1⟩) r1; exact ⟨.tuple_list p0 p hu', .tuple_list p0 p hu', .tuple_list p0 p hu'⟩
 | lst h0 r0=>
  obtain rfl:u=Value.ref _:=ru
  obtain ⟨i0,_,p0,_⟩:=Zm I (.inl h0) r0
  cases rq with
  | non=>obtain rfl:w=Value.none:=rw'; unfold eqF at h; cases h; exact ⟨.list_none p0 hu', .list_none p0 hu', .list_none p0 hu'⟩
  | bl c=>obtain rfl:w=Value.bool c:=rw'; unfold eqF at h; cases h; exact ⟨.list_bool _ p0 hu', .list_bool _ p0 hu', .list_bool _ p0 hu'⟩
  | int c=>obtain ⟨t,rfl⟩:=rw'; unfold eqF at h; cases h; exact ⟨.list_int _ _ p0 hu', .list_int _ _ p0 hu', .list_int _ _ p0 hu'⟩
  | str c=>obtain ⟨t,rfl⟩:=rw'; unfold eqF at h; cases h; exact ⟨.list_str _ _ p0 hu', .list_str _ _ p0 hu', .list_str _ _ p0 hu'⟩
  | tup h1 r1=>obtain rfl:w=Value.ref _:=rw'; unfold eqF at h; cases h; obtain ⟨i,_,p,_⟩:=JI I h1 r1; exact ⟨.list_tuple p0 p hu', .list_tuple p0 p hu', .list_tuple p0 p hu'⟩
  | lst h1 r1=>unfold eqF at h; cases h
  | fz h1 r1=>unfold eqF at h; cases h
 | fz h0 r0=>
  obtain rfl:u=Value.ref _:=ru
  obtain ⟨i0,_,p0,_⟩:=Zm I (.inr ⟨_,h0⟩) r0
  cases rq with
  | non=>obtain rfl:w=Value.none:=rw'; unfold eqF at h; cases h; exact ⟨.list_none p0 hu', .list_none p0 hu', .list_none p0 hu'⟩
  | bl c=>obtain rfl:w=Value.bool c:=rw'; unfold eqF at h; cases h; exact ⟨.list_bool _ p0 hu', .list_bool _ p0 hu', .list_bool _ p0 hu'⟩
  | int c=>obtain ⟨t,rfl⟩:=rw'; unfold eqF at h; cases h; exact ⟨.list_int _ _ p0 hu', .list_int _ _ p0 hu', .list_int _ _ p0 hu'⟩
  | str c=>obtain ⟨t,rfl⟩:=rw'; unfold eqF at h; cases h; exact ⟨.list_str _ _ p0 hu', .list_str _ _ p0 hu', .list_str _ _ p0 hu'⟩
  | tup h1 r1=>obtain rfl:w=Value.ref _:=rw'; unfold eqF at h; cases h; obtain ⟨i,_,p,_⟩:=JI I h1 r1; exact ⟨.list_tuple p0 p hu', .list_tuple p0 p hu', .list_tuple p0 p hu'⟩
  | lst h1 r1=>unfold eqF at h; cases h
  | fz h1 r1=>unfold eqF at h; cases h
set_option maxHeartbeats 2000000 in
theorem vP (I:L2.Inv X pins σ H s):∀ (n:Nat) (A:Around),A.units+n < cLine->∀ (x y:T) (b:Bool) (p q:V) (u w:Value),eqF n x y=some b->Rep H p x->Rep H q y->jc p u->jc q w->EqN A s u w b:=by
 intro n
 induction n with
 | zero=>exact fun A hu x y b p q u w h=>vO I A (by omega) x y b p q u w h
 | succ n ih=>
  intro A hu x y b p q u w h rp rq ru rw'
  have low:eqF 0 x y=some b->EqN A s u w b:=fun h=>vO I A (by omega) x y b p q u w h rp rq ru rw'
  have hu' :A.units < cLine:=by omega
  have ih' :=ih A.in1 (by rw [Wq]; omega)
  cases rp with
  | tup h0 r0=>
   cases rq with
   | tup h1 r1=>
    obtain rfl:u=Value.ref _:=ru
    obtain rfl:w=Value.ref _:=rw'
    unfold eqF at h
    exact kL I hu' h0 h1 r0 r1 h (ZU n) ih'
   | _=>exact low (by unfold eqF at h ⊢; exact h)
  | lst h0 r0=>
   cases rq with
   | lst h1 r1=>
    obtain rfl:u=Value.ref _:=ru
    obtain rfl:w=Value.ref _:=rw'
    unfold eqF at h
    exact UV I hu' (.inl h0) (.inl h1) r0 r1 h (ZU n) ih'
   | fz h1 r1=>
    obtain rfl:u=Value.ref _:=ru
    obtain rfl:w=Value.ref _:=rw'
    unfold eqF at h
    exact UV I hu' (.inl h0) (.inr ⟨_,h1⟩) r0 r1 h (ZU n) ih'
   | _=>exact low (by unfold eqF at h ⊢; exact h)
  | fz h0 r0=>
   cases rq with
   | lst h1 r1=>
    obtain rfl:u=Value.ref _:=ru
    obtain rfl:w=Value.ref _:=rw'
    unfold eqF at h
    exact UV I hu' (.inr ⟨_,h0⟩) (.inl h1) r0 r1 h (ZU n) ih'
   | fz h1 r1=>
    obtain rfl:u=Value.ref _:=ru
    obtain rfl:w=Value.ref _:=rw'
    unfold eqF at h
    exact UV I hu' (.inr ⟨_,h0⟩) (.inr ⟨_,h1⟩) r0 r1 h (ZU n) ih'
   | _=>exact low (by unfold eqF at h ⊢; exact h)
  | _=>exact low (by cases rq <;> (unfold eqF at h ⊢; exact h))
end
end PV
namespace PV
open PySem PySem.Spec PyProof.Rows L2
section
variable {X:Cx} {Y:Fx} {a b c d:Expr} {fa fb fc fd:En->R T} {pos:Pos}
noncomputable def rG (Y:Fx) (g:T->T->R T):R2:=fun x y H Q=>∃ B t t',zS B H/\Rep B x t/\Rep B y t' /\Po Y rC B H (g t t') Q
noncomputable def ze (g:T->T->R T) (fa fb:En->R T):En->R T:=fun ρ=>(fa ρ).bind fun x=>(fb ρ).bind fun y=>g x y
theorem vQ {op:Operator} {g:T->T->R T} (ho:OpR X (binaryOp op) (rG Y g)) (ha:Snd X Y a fa) (hb:Snd X Y b fb):Snd X Y (.BinOp a op b pos) (ze g fa fb):= .mk fun ρ=>
 PE.imp (z0D ho (ha ρ) (hb ρ)) fun σ H Q ⟨B,I,q⟩=>step I q fun t v H1 _ s1 r1 I1 q1=>step I1 q1 fun t' v' H2 _ s2 r2 I2 q2=>
  ⟨_,t,t',I2.sB,r1.mono (Zl.ge I1.sB s2),r2,q2⟩
theorem po0 {g:R T} {B H:Hp} {Q:VK} {t:T} {v:V} (sB:zS B H) (q:Po Y rC B H g Q) (e:g= .ok t) (r:Rep B v t):Q v H:=by
 subst e
 exact q v H (zS.refl H) (by show Rep (Zl B H H) v t; rw [Zl.self B H sB]; exact r)
theorem z0d {g:R T} {B H:Hp} {Q:VK} {ts:List T} {xs:List V} {p:Addr} (sB:zS B H) (q:Po Y rC B H g Q) (e:g= .ok (.tup ts)) (r:Z4 B xs ts) (h:H p=none):Q (.ref p) (upd H p (.tup xs)):=by
 subst e
 exact q _ _ (zS.new h _) (.tup (wz h _) (r.mono (Zl.ge sB (zS.new h _))))
theorem z0Q {g:R T} {B H:Hp} {Q:VK} {ts:List T} {xs:List V} {p:Addr} (sB:zS B H) (q:Po Y rC B H g Q) (e:g= .ok (.lst ts)) (r:Z4 B xs ts) (h:H p=none):Q (.ref p) (upd H p (.lst xs)):=by
 subst e
 exact q _ _ (zS.new h _) (.lst (wz h _) (r.mono (Zl.ge sB (zS.new h _))))
noncomputable def zx:T->T->R T
 | .int i, .int j=> .ok (.int (i+j))
 | .bl x, .int j=> .ok (.int (b2 x+j))
 | .int i, .bl y=> .ok (.int (i+b2 y))
 | .str x, .str y=>if x.length+y.length<=bnd then .ok (.str (x++y)) else .bad
 | .tup xs, .tup ys=>if xs.length+ys.length<=bnd then .ok (.tup (xs++ys)) else .bad
 | .lst xs, .lst ys=>if xs.length+ys.length<=bnd then .ok (.lst (xs++ys)) else .bad
 | _,_=> .bad
theorem xO {prog:Program} {w:World} {A:Around} {E:Value->Shared->Prop} {s:Shared} {t b:Addr} {vs ws:List Value} {Q:Value->Shared->Prop} (ht:IsTup s.heap t vs.toArray) (hb:IsTup s.heap b ws.toArray) (hv:vs=[])
  (h1:Q (.ref b) s):wpAny (model prog w) A (binaryOp .Add (.ref t) (.ref b)) Q E s:=by
 obtain ⟨⟨cls,dd,data,sl⟩,ho,hc,n,hd⟩:=id ht
 obtain ⟨⟨cls2,dd2,data2,sl2⟩,ho2,hc2,n2,hd2⟩:=id hb
 simp only at hc hd hc2 hd2
 subst hc hd hc2 hd2
 exact concat_meets ⟨_,ho,rfl⟩ ⟨_,ho2,rfl⟩ noFill_tuple_add seq_tuple_add PySem.F.slot_tuple_add PySem.F.entry_tuple_add (PySem.F.args_tuple_add_2 _ _)
   (tuple_addW0 t b vs.toArray ws.toArray n n2 dd dd2 sl sl2 (by simp [hv])) ⟨ho,ho2,h1⟩
theorem kM:OpR X (binaryOp .Add) (rG Y zx):=by
 intro pins s σ H x y v u Q I rx ry h
 obtain ⟨B,t,t',sB,r,r',q⟩:=h
 cases r with
 | int i=>
  cases r' with
  | int j=>exact gG pins s σ H _ _ v u Q I rx ry ⟨i,j,rfl,rfl,po0 sB q rfl (.int _)⟩
  | bl y=>exact vt pins s σ H _ _ v u Q I rx ry ⟨i,y,rfl,rfl,po0 sB q rfl (.int _)⟩
  | _=>exact q.elim
 | bl x=>
  cases r' with
  | int j=>
   obtain rfl:v=Value.bool x:=rx
   obtain ⟨tk,rfl⟩:=ry
   exact IntBool.add_bool_int (⟨.int _,H,I.tok _,⟨_,rfl⟩,po0 sB q rfl (.int _)⟩)
  | _=>exact q.elim
 | str x=>
  cases r' with
  | str y=>
   by_cases hb:x.length+y.length<=bnd
   ·exact Qy pins s σ H _ _ v u Q I rx ry ⟨x,y,rfl,rfl,JW hb,po0 sB q (if_pos hb) (.str _)⟩
   ·rw [show zx (.str x) (.str y)= .bad from if_neg hb] at q; exact q.elim
  | _=>exact q.elim
 | @tup a xs ts h1 r1=>
  cases r' with
  | @tup a' ys us h2 r2=>
   by_cases hb:ts.length+us.length<=bnd
   ·have eg:zx (.tup ts) (.tup us)= .ok (.tup (ts++us)):=if_pos hb
    have hz:xs.length+ys.length<=sizeLine:=by rw [r1.length,r2.length]; exact JW hb
    by_cases hx:xs=[]
    ·obtain rfl:v=Value.ref a:=rx
     obtain rfl:u=Value.ref a' :=ry
     obtain ⟨its,rv,p,_⟩:=I.tuple (SqT.of (sB _ _ h1))
     obtain ⟨its',rv',p',_⟩:=I.tuple (SqT.of (sB _ _ h2))
     have et:ts=[]:=r1.nil_iff.mp hx
     refine xO p p' (rv.nil_iff.mpr hx) ⟨.ref a',H,I,rfl,po0 sB q eg ?_⟩
     rw [et]; exact .tup h2 r2
    ·refine kA pins s σ H _ _ v u Q I rx ry ⟨a,a',xs,ys,rfl,rfl,SqT.of (sB _ _ h1),SqT.of (sB _ _ h2),hx,hz,fun hy=> ?_,fun hy p hp=> ?_⟩
     ·refine po0 sB q eg ?_
      rw [r2.nil_iff.mp hy,List.append_nil]
      exact .tup h1 r1
     ·exact z0d sB q eg (r1.append r2) hp
   ·rw [show zx (.tup ts) (.tup us)= .bad from if_neg hb] at q; exact q.elim
  | _=>exact q.elim
 | @lst a xs ts h1 r1=>
  cases r' with
  | @lst a' ys us h2 r2=>
   by_cases hb:ts.length+us.length<=bnd
   ·have eg:zx (.lst ts) (.lst us)= .ok (.lst (ts++us)):=if_pos hb
    have hz:xs.length+ys.length<=sizeLine:=by rw [r1.length,r2.length]; exact JW hb
    exact gX pins s σ H _ _ v u Q I rx ry ⟨a,a',xs,ys,rfl,rfl,sB _ _ h1,sB _ _ h2,hz,fun p hp=>z0Q sB q eg (r1.append r2) hp⟩
   ·rw [show zx (.lst ts) (.lst us)= .bad from if_neg hb] at q; exact q.elim
  | _=>exact q.elim
 | _=>cases r' <;> exact q.elim
theorem zQ (ha:Snd X Y a fa) (hb:Snd X Y b fb):Snd X Y (.BinOp a .Add b pos) (ze zx fa fb):=vQ kM ha hb
noncomputable def WC:T->T->R T
 | .int i, .int j=> .ok (.int (i - j))
 | _,_=> .bad
noncomputable def wx:T->T->R T
 | .int i, .int j=>if 0 < j then .ok (.int (i % j)) else .bad
 | _,_=> .bad
noncomputable def QD:T->T->R T
 | .int i, .int j=>if 0 < j/\j < 1073741824 then .ok (.int (i / j)) else .bad
 | _,_=> .bad
noncomputable instance (i j:Int):Decidable (yE i j):=by unfold yE; infer_instance
noncomputable def ZD:T->T->R T
 | .int i, .int j=>if yE i j then .ok (.int (i*j)) else .bad
 | .lst xs, .int k=>if 0<=k/\k < 1000000/\xs.length*k.toNat<=bnd then .ok (.lst (List.replicate k.toNat xs).flatten) else .bad
 | .tup xs, .int k=>if 2<=k/\k < 1000000/\xs ≠ []/\xs.length*k.toNat<=bnd then .ok (.tup (List.replicate k.toNat xs).flatten) else .bad
 | _,_=> .bad
theorem kN:OpR X (binaryOp .Sub) (rG Y WC):=by
 intro pins s σ H x y v u Q I rx ry h
 obtain ⟨B,t,t',sB,r,r',q⟩:=h
 cases r with
 | int i=>
  cases r' with
  | int j=>exact gH pins s σ H _ _ v u Q I rx ry ⟨i,j,rfl,rfl,po0 sB q rfl (.int _)⟩
  | _=>exact q.elim
 | _=>cases r' <;> exact q.elim
theorem kO:OpR X (binaryOp .Mod) (rG Y wx):=by
 intro pins s σ H x y v u Q I rx ry h
 obtain ⟨B,t,t',sB,r,r',q⟩:=h
 cases r with
 | int i=>
  cases r' with
  | int j=>
   by_cases hj:0 < j
   ·exact gJ pins s σ H _ _ v u Q I rx ry ⟨i,j,rfl,rfl,hj,po0 sB q (if_pos hj) (.int _)⟩
   ·rw [show wx (.int i) (.int j)= .bad from if_neg hj] at q; exact q.elim
  | _=>exact q.elim
 | _=>cases r' <;> exact q.elim
theorem xP:OpR X (binaryOp .FloorDiv) (rG Y QD):=by
 intro pins s σ H x y v u Q I rx ry h
 obtain ⟨B,t,t',sB,r,r',q⟩:=h
 cases r with
 | int i=>
  cases r' with
  | int j=>
   by_cases hj:0 < j/\j < 1073741824
   ·exact ku pins s σ H _ _ v u Q I rx ry ⟨i,j,rfl,rfl,hj,po0 sB q (if_pos hj) (.int _)⟩
   ·rw [show QD (.int i) (.int j)= .bad from if_neg hj] at q; exact q.elim
  | _=>exact q.elim
 | _=>cases r' <;> exact q.elim
theorem QE (l:Addr) (items:Array Value) (n:Nat) (dd:Option Addr) (sl:Array (Option Value)) (x:Int) (u:Tok) (h1:2<=x) (h2:x < 1000000) (hne:items.isEmpty=false) (hsz:items.size*x.toNat<=sizeLine):
  Meets (Builtin.«tuple.__mul__» ⟨[.ref l, .int x u],[]⟩) (fun _ R s=>s.heap.get? l=some { cls:= .type "tuple",dict:=dd,data:= .seq items n,slots:=sl }/\
   R (.ok (.ret (Value.ref s.heap.objs.size))) { s with heap:=s.heap.push { cls:=Value.type "tuple",data:=Data.seq (List.foldl (fun x1 x2=>x1++x2) #[] (List.replicate x.toNat items)) },toks:=s.toks }):=
 .of_wp fun prog w A R s h=>by
  obtain ⟨hp,g,d,tk,os⟩:=s; obtain ⟨hl,h⟩:=h
  have f1:=AutoSeq1.idx_int
  have e0:(items.size:Int)*x=((items.size*x.toNat:Nat):Int):=by
   have:x=((x.toNat:Nat):Int):=by omega
   rw [Int.natCast_mul,← this]
  have sl1:(sizeLine:Nat)=16777216:=sizeLine_eq
  have c1:¬ (decide (x < -(2 ^ 63)) || decide (x ≥ 2 ^ 63))=true:=by simp; omega
  have c2:¬ (items.isEmpty || x == 1)=true:=by simp [hne]; omega
  have c3:¬ (decide (x<=0) || items.isEmpty)=true:=by simp [hne]; omega
  have c4:¬ ((items.size:Int)*x > (2 ^ 63 - 1) / 8):=by rw [e0]; omega
  have c5:¬ Builtin.Tuple.tupleTooMany ((items.size:Int)*x)=true:=by
   unfold Builtin.Tuple.tupleTooMany
   rw [e0]
   intro z
   have:=of_decide_eq_true z
   omega
  unfold Builtin.«tuple.__mul__»
  wp_walk using wpAny_loadPart' hl
  rw [if_neg c1]
  wp_walk using wpAny_loadPart' hl
  rw [if_neg c2]
  try dsimp only
  rw [if_neg c3]
  try dsimp only
  rw [if_neg c4]
  try dsimp only
  rw [if_neg c5]
  try dsimp only
  have hsz' :sizeOk (.seq (List.foldl (fun x1 x2=>x1++x2) #[] (List.replicate x.toNat items))):=by
   show (List.foldl (fun x1 x2=>x1++x2) #[] (List.replicate x.toNat items)).size<=sizeLine
   have:=Wo items.toList x.toNat []
   rw [List.nil_append] at this
   have q:List.foldl (fun x1 x2=>x1++x2) #[] (List.replicate x.toNat items)=(List.replicate x.toNat items.toList).flatten.toArray:=by
    simpa using this
   rw [q,List.size_toArray,UU,Array.length_toList,Nat.mul_comm]
   exact hsz
  exact wpAny_bind (m:=Builtin.Tuple.tupleExact _) (wpAny_newObj_type (wpAny_pure ⟨_,rfl,h⟩) hsz')
theorem yU:seqRepeat? (.type "tuple")=pure (some (.builtin "tuple.__mul__")):=by
 unfold seqRepeat?
 rw [PySem.seqSlot_of (T:="tuple") (name:="__mul__") (id:="tuple.__mul__") F.slot_tuple_mul.lookup (by decide+kernel),PySem.seqSlot_of (T:="tuple") (name:="__rmul__") (id:="tuple.__rmul__") F.slot_tuple_rmul.lookup (by decide+kernel)]
 rfl
theorem ul:fillsNumberSlot (.type "tuple") "mul"=pure false:=
 PySem.fillsNumberSlot_seq (id:="tuple.__mul__") (r:=some (.builtin "tuple.__rmul__")) F.slot_tuple_mul.lookup (by decide+kernel) F.slot_tuple_rmul.lookup (by decide+kernel)
theorem Uo (a:Int) (t:Tok) (l:Addr) (items:Array Value) (n:Nat) (dd:Option Addr) (sl:Array (Option Value)):
  Meets (Builtin.«int.__rmul__» ⟨[.int a t, .ref l],[]⟩) (fun _ R s=>s.heap.get? l=some { cls:= .type "tuple",dict:=dd,data:= .seq items n,slots:=sl }/\R (.ok (.ret Value.notImplemented)) s):=
 .of_wp fun prog w A R s h=>by obtain ⟨hp,g,d,tk,os⟩:=s; obtain ⟨hl,h⟩:=h; wp_walk; exact ⟨_,rfl,h⟩
theorem kP {prog:Program} {w:World} {A:Around} {E:Value->Shared->Prop} {s:Shared} {l:Addr} {its:List Value} {k:Int} {t:Tok} {Q:Value->Shared->Prop} (p:IsTup s.heap l its.toArray) (hne:its ≠ []) (h1:2<=k) (h2:k < 1000000)
  (hsz:its.length*k.toNat<=sizeLine) (q:Q (.ref s.heap.objs.size) { s with heap:=s.heap.push { cls:= .type "tuple",data:= .seq (List.replicate k.toNat its).flatten.toArray } }):
  wpAny (model prog w) A (binaryOp .Mult (.ref l) (.int k t)) Q E s:=by
 obtain ⟨⟨cls,dd,data,sl⟩,ho,hc,n,hd⟩:=id p
 simp only at hc hd
 subst hc hd
 refine wpAny_binaryOp_repeat_ref (T:="tuple") (U:="int") (by decide) ⟨_,ho,rfl⟩ (fun s' =>typeIs_int s' k t) ul F.fills_int_mul F.slot_int_rmul yU F.slot_int_index.lookup
  (call_meets F.slot_int_rmul (typeIs_int s k t) F.entry_int_rmul (F.args_int_rmul_2 _ _) (Uo k t l its.toArray n dd sl)
   ⟨ho,rfl,⟨_,ho,rfl⟩,call_meets F.slot_tuple_mul ⟨_,ho,rfl⟩ F.entry_tuple_mul (F.args_tuple_mul_2 _ _) (QE l its.toArray n dd sl k t h1 h2 (by simpa using hne) (by simpa using hsz)) ⟨ho, ?_⟩⟩)
 have:=Wo its k.toNat []
 rw [List.nil_append] at this
 rw [this]
 exact q
theorem kQ:OpR X (binaryOp .Mult) (rG Y ZD):=by
 intro pins s σ H x y v u Q I rx ry h
 obtain ⟨B,t,t',sB,r,r',q⟩:=h
 cases r with
 | int i=>
  cases r' with
  | int j=>
   by_cases hj:yE i j
   ·exact gI pins s σ H _ _ v u Q I rx ry ⟨i,j,rfl,rfl,hj,po0 sB q (if_pos hj) (.int _)⟩
   ·rw [show ZD (.int i) (.int j)= .bad from if_neg hj] at q; exact q.elim
  | _=>exact q.elim
 | @lst l xs ts h1 r1=>
  cases r' with
  | int k=>
   by_cases hk:0<=k/\k < 1000000/\ts.length*k.toNat<=bnd
   ·have eg:ZD (.lst ts) (.int k)= .ok (.lst (List.replicate k.toNat ts).flatten):=if_pos hk
    exact gY pins s σ H _ _ v u Q I rx ry ⟨l,k,xs,rfl,rfl,sB _ _ h1,by omega,by omega,by rw [r1.length]; exact JW hk.2.2,fun p hp=>z0Q sB q eg (r1.rep _) hp⟩
   ·rw [show ZD (.lst ts) (.int k)= .bad from if_neg hk] at q; exact q.elim
  | _=>exact q.elim
 | @tup l xs ts h1 r1=>
  cases r' with
  | int k=>
   by_cases hk:2<=k/\k < 1000000/\ts ≠ []/\ts.length*k.toNat<=bnd
   ·have eg:ZD (.tup ts) (.int k)= .ok (.tup (List.replicate k.toNat ts).flatten):=if_pos hk
    obtain rfl:v=Value.ref l:=rx
    obtain ⟨tk,rfl⟩:=ry
    obtain ⟨its,rv,p,_⟩:=I.tuple (SqT.of (sB _ _ h1))
    have ln:ts.length=its.length:=r1.length.symm.trans rv.length
    have hne:its ≠ []:=fun z=>hk.2.2.1 (by rw [z] at ln; exact List.length_eq_zero_iff.mp ln)
    refine kP p hne hk.1 hk.2.1 (by rw [← ln]; exact JW hk.2.2.2) ⟨.ref s.heap.objs.size,upd H s.heap.objs.size (.tup (List.replicate k.toNat xs).flatten),I.laid (t' :=s.toks) (fun b u e=>Heap.get?_push_of_some _ e) (Nat.le_refl _) ?_,rfl, ?_⟩
    ·exact ⟨by rw [UU,r1.length,Nat.mul_comm]; exact JW hk.2.2.2,(List.replicate k.toNat its).flatten,rv.rep _,⟨_,Heap.get?_push_size _ rfl,rfl,_,rfl⟩⟩
    ·exact z0d sB q eg (r1.rep _) (I.hok.fresh (Nat.le_refl _))
   ·rw [show ZD (.tup ts) (.int k)= .bad from if_neg hk] at q; exact q.elim
  | _=>exact q.elim
 | _=>cases r' <;> exact q.elim
theorem WG (ha:Snd X Y a fa) (hb:Snd X Y b fb):Snd X Y (.BinOp a .Sub b pos) (ze WC fa fb):=vQ kN ha hb
theorem Up (ha:Snd X Y a fa) (hb:Snd X Y b fb):Snd X Y (.BinOp a .Mod b pos) (ze wx fa fb):=vQ kO ha hb
theorem G1 (ha:Snd X Y a fa) (hb:Snd X Y b fb):Snd X Y (.BinOp a .FloorDiv b pos) (ze QD fa fb):=vQ xP ha hb
theorem JJ (ha:Snd X Y a fa) (hb:Snd X Y b fb):Snd X Y (.BinOp a .Mult b pos) (ze ZD fa fb):=vQ kQ ha hb
noncomputable def yV (fa:En->R T):En->R T:=fun ρ=>(fa ρ).bind fun x=>match x with
 | .int i=> .ok (.int (-i))
 | _=> .bad
theorem YU (ha:Snd X Y a fa):Snd X Y (.UnaryOp .USub a pos) (yV fa):= .mk fun ρ=>PE.imp (z0E gK (ha ρ)) fun σ H Q ⟨B,I,q⟩=>step I q fun t v H1 _ s1 r1 I1 q1=>by
 cases r1 with
 | int i=>exact ⟨i,rfl,po0 I1.sB q1 rfl (.int _)⟩
 | _=>exact q1.elim
noncomputable def yF (g:T->T->R Bool):R2:=fun x y H Q=>∃ t t' b,Rep H x t/\Rep H y t' /\g t t' = .ok b/\Q (.bl b) H
noncomputable def jR (g:T->T->R Bool) (fa fb:En->R T):En->R T:=fun ρ=>(fa ρ).bind fun x=>(fb ρ).bind fun y=>(g x y).bind fun b=> .ok (.bl b)
noncomputable def zH (g:T->T->R Bool) (fa fb:En->R T):En->R Bool:=fun ρ=>(fa ρ).bind fun x=>(fb ρ).bind fun y=>g x y
noncomputable def Nx (g:T->T->R Bool):Prop:=∀ t t' c,g t t' ≠ .ex c
theorem jV {op:CmpOp} {g:T->T->R Bool} (nx:Nx g) (ho:OpR X (compareOp op) (yF g)) (ha:WF X Y a fa) (hb:WF X Y b fb) (hm:behindInMarks op b=false):Snd X Y (.Compare a [op] [b] pos) (jR g fa fb):= .mk fun ρ=>
 PE.imp (kv ho (ha ρ) (hb ρ) hm) fun σ H Q ⟨B,I,q⟩=>step I q fun t v H1 _ s1 r1 I1 q1=>step I1 q1 fun t' v' H2 _ s2 r2 I2 q2=>by
  cases e:g t t' with
  | bad=>rw [e] at q2; exact q2.elim
  | ex c=>exact absurd e (nx _ _ _)
  | ok b=>rw [e] at q2; exact ⟨t,t',b,r1.mono s2,r2,e,Jo I2 q2 (.bl b)⟩
theorem zK {op:CmpOp} {g:T->T->R Bool} (nx:Nx g) (ho:OpR X (compareOp op) (yF g)) (ha:WF X Y a fa) (hb:WF X Y b fb) (hm:behindInMarks op b=false):YJ X Y (.Compare a [op] [b] pos) (zH g fa fb):= .mk fun ρ=>
 PT.imp (vv ho (ha ρ) (hb ρ) hm) fun σ H Q ⟨B,I,q⟩=>step I q fun t v H1 _ s1 r1 I1 q1=>step I1 q1 fun t' v' H2 _ s2 r2 I2 q2=>by
  cases e:g t t' with
  | bad=>rw [e] at q2; exact q2.elim
  | ex c=>exact absurd e (nx _ _ _)
  | ok b=>rw [e] at q2; exact ⟨t,t',b,r1.mono s2,r2,e,b,rfl,Jo I2 q2 rfl⟩
noncomputable def eqC (t t' :T):R Bool:=match eqF 30 t t' with
 | some b=> .ok b
 | none=> .bad
noncomputable def neC (t t' :T):R Bool:=match eqF 30 t t' with
 | some b=> .ok (!b)
 | none=> .bad
theorem zX:Nx eqC:=fun t t' c h=>by unfold eqC at h; split at h <;> cases h
theorem YV:Nx neC:=fun t t' c h=>by unfold neC at h; split at h <;> cases h
theorem zv (hu:X.A.units+64 < cLine):OpR X (compareOp .Eq) (yF eqC):=by
 intro pins s σ H x y v u Q I rx ry h
 obtain ⟨t,t',b,r,r',e,q⟩:=h
 unfold eqC at e
 split at e
 ·rename_i k ek
  have e' :k=b:=by injection e
  subst e'
  exact (vP I 30 X.A (by omega) t t' k x y v u ek r r' rx ry).2.1 _ _ _ _ ⟨.bl k,H,I,rfl,q⟩
 ·cases e
theorem uG (hu:X.A.units+64 < cLine):OpR X (compareOp .NotEq) (yF neC):=by
 intro pins s σ H x y v u Q I rx ry h
 obtain ⟨t,t',b,r,r',e,q⟩:=h
 unfold neC at e
 split at e
 ·rename_i k ek
  cases e
  exact (vP I 30 X.A (by omega) t t' k x y v u ek r r' rx ry).2.2 _ _ _ _ ⟨.bl (!k),H,I,rfl,q⟩
 ·cases e
noncomputable def ltC:T->T->R Bool
 | .int i, .int j=> .ok (decide (i < j))
 | _,_=> .bad
noncomputable def leC:T->T->R Bool
 | .int i, .int j=> .ok (decide (i<=j))
 | .str x, .str y=> .ok (!decide (y.cps.toList < x.cps.toList))
 | _,_=> .bad
noncomputable def gtC:T->T->R Bool
 | .int i, .int j=> .ok (decide (j < i))
 | _,_=> .bad
noncomputable def geC:T->T->R Bool
 | .int i, .int j=> .ok (decide (j<=i))
 | _,_=> .bad
theorem QF:Nx ltC:=fun t t' c h=>by unfold ltC at h; split at h <;> cases h
theorem jC:Nx leC:=fun t t' c h=>by unfold leC at h; split at h <;> cases h
theorem xQ:Nx gtC:=fun t t' c h=>by unfold gtC at h; split at h <;> cases h
theorem z0R:Nx geC:=fun t t' c h=>by unfold geC at h; split at h <;> cases h
theorem UC:OpR X (compareOp .Lt) (yF ltC):=by
 intro pins s σ H x y v u Q I rx ry h
 obtain ⟨t,t',b,r,r',e,q⟩:=h
 unfold ltC at e
 split at e
 ·rename_i i j; cases e; cases r; cases r'; exact z0F pins s σ H _ _ v u Q I rx ry ⟨i,j,rfl,rfl,q⟩
 ·cases e
theorem qQ:OpR X (compareOp .Gt) (yF gtC):=by
 intro pins s σ H x y v u Q I rx ry h
 obtain ⟨t,t',b,r,r',e,q⟩:=h
 unfold gtC at e
 split at e
 ·rename_i i j; cases e; cases r; cases r'; exact z0H pins s σ H _ _ v u Q I rx ry ⟨i,j,rfl,rfl,q⟩
 ·cases e
theorem G2:OpR X (compareOp .GtE) (yF geC):=by
 intro pins s σ H x y v u Q I rx ry h
 obtain ⟨t,t',b,r,r',e,q⟩:=h
 unfold geC at e
 split at e
 ·rename_i i j; cases e; cases r; cases r'; exact z0I pins s σ H _ _ v u Q I rx ry ⟨i,j,rfl,rfl,q⟩
 ·cases e
theorem Zq:OpR X (compareOp .LtE) (yF leC):=by
 intro pins s σ H x y v u Q I rx ry h
 obtain ⟨t,t',b,r,r',e,q⟩:=h
 unfold leC at e
 split at e
 ·rename_i i j; cases e; cases r; cases r'; exact z0G pins s σ H _ _ v u Q I rx ry ⟨i,j,rfl,rfl,q⟩
 ·rename_i i j; cases e; cases r; cases r'
  obtain ⟨t1,rfl⟩:=rx
  obtain ⟨t2,rfl⟩:=ry
  exact PySem.P.le_str ⟨.bl _,H,I,rfl,q⟩
 ·cases e
end
end PV
namespace PV
open PySem PySem.Spec PyProof.Rows L2
section
variable {X:Cx} {Y:Fx} {a b c d:Expr} {fa fb fc fd:En->R T} {pos:Pos}
noncomputable def UW (f:T->Option Bool):List T->Option Bool
 | []=>some false
 | t :: r=>match f t with
  | none=>none
  | some b=>match UW f r with
   | none=>none
   | some c=>some (b || c)
noncomputable def inC (t t' :T):R Bool:=match t' with
 | .tup ys=>match UW (fun y=>eqF 30 y t) ys with | some b=> .ok b | none=> .bad
 | .lst ys=>match UW (fun y=>eqF 30 y t) ys with | some b=> .ok b | none=> .bad
 | _=> .bad
noncomputable def qR (t t' :T):R Bool:=(inC t t').bind fun b=> .ok (!b)
theorem yW:Nx inC:=fun t t' c h=>by
 unfold inC at h
 split at h
 ·split at h <;> cases h
 ·split at h <;> cases h
 ·cases h
theorem XN:Nx qR:=fun t t' c h=>by
 unfold qR at h
 cases e:inC t t' with
 | bad=>rw [e] at h; cases h
 | ex k=>exact absurd e (yW _ _ _)
 | ok k=>rw [e] at h; cases h
open Classical in
theorem YW {H:Hp} (f:T->Option Bool):∃ e:Value->Bool,∀ (v:V) (t:T) (u:Value) (b:Bool),jc v u->Rep H v t->f t=some b->e u=b:=by
 refine ⟨fun u=>decide (∃ v t,jc v u/\Rep H v t/\f t=some true),fun v t u b rv r e=> ?_⟩
 cases b with
 | true=>exact decide_eq_true ⟨v,t,rv,r,e⟩
 | false=>
  refine decide_eq_false ?_
  rintro ⟨v',t',rv',r',e'⟩
  have:=rv.inj rv'; subst this
  have:=r.fn r'; subst this
  rw [e] at e'; cases e'
theorem vR {H:Hp} {f:T->Option Bool} {e:Value->Bool} (he:∀ (v:V) (t:T) (u:Value) (b:Bool),jc v u->Rep H v t->f t=some b->e u=b):∀ {xs:List V} {ts:List T} {its:List Value} {b:Bool},
  ZM xs its->Z4 H xs ts->UW f ts=some b->its.any e=b/\∀ u∈its,∃ v t k,jc v u/\Rep H v t/\f t=some k
 | _,_,_,b, .nil, .nil,h=>by
  have h' :some false=some b:=h
  cases h'
  exact ⟨rfl,fun u hu=>by simp at hu⟩
 | _,_,_,b, .cons rv vs, .cons r rs,h=>by
  rename_i v u vals us t ts
  unfold UW at h
  cases q:f t with
  | none=>rw [q] at h; cases h
  | some k=>
   rw [q] at h
   cases q' :UW f ts with
   | none=>rw [q'] at h; cases h
   | some k' =>
    rw [q'] at h
    cases h
    obtain ⟨h1,h2⟩:=vR he vs rs q'
    refine ⟨by rw [List.any_cons,h1,he v t u k rv r q],fun w hw=> ?_⟩
    rcases List.mem_cons.mp hw with rfl | hw
    ·exact ⟨v,t,k,rv,r,q⟩
    ·exact h2 w hw
theorem vS (hu:X.A.units+64 < cLine) (neg:Bool):OpR X (compareOp (if neg then .NotIn else .In)) (yF (if neg then qR else inC)):=by
 intro pins s σ H x y v u Q I rx ry h
 obtain ⟨t,t',b,r,r',e,q⟩:=h
 have hs:∃ k,inC t t' = .ok k/\b=(if neg then !k else k):=by
  cases neg with
  | false=>exact ⟨b,e,rfl⟩
  | true=>
   have e' :qR t t' = .ok b:=e
   unfold qR at e'
   cases z:inC t t' with
   | bad=>rw [z] at e'; cases e'
   | ex k=>exact absurd z (yW _ _ _)
   | ok k=>rw [z] at e'; cases e'; exact ⟨k,rfl,rfl⟩
 obtain ⟨k,ek,rfl⟩:=hs
 unfold inC at ek
 obtain ⟨f,hf⟩:=YW (H:=H) fun y=>eqF 30 y t
 have eqa:∀ w,(∃ v t' k,jc v w/\Rep H v t' /\eqF 30 t' t=some k)->SeqAt.EqAt X.A.in1 s w v (f w):=fun w ⟨v',t',k,rv,rr,ee⟩=>by
  rw [hf v' t' w k rv rr ee]
  exact (vP I 30 X.A.in1 (by rw [Wq]; omega) t' t k v' x w v ee rr r rv rx).1
 split at ek
 ·rename_i ys
  split at ek
  ·rename_i k' hk
   cases ek
   cases r' with
   | @tup l xs _ h1 r1=>
    obtain rfl:u=Value.ref l:=ry
    obtain ⟨its,rv,p,_⟩:=JI I h1 r1
    obtain ⟨h2,h3⟩:=vR hf rv r1 hk
    have h4:its.toArray.any f=k:=by simpa using h2
    cases neg with
    | false=>exact SeqAt.in_tupleAt f p (fun w hw=>eqa w (h3 w (by simpa using hw))) (by rw [h4]; exact ⟨.bl k,H,I,rfl,q⟩)
    | true=>exact SeqAt.notIn_tupleAt f p (fun w hw=>eqa w (h3 w (by simpa using hw))) (by rw [h4]; exact ⟨.bl (!k),H,I,rfl,q⟩)
  ·cases ek
 ·rename_i ys
  split at ek
  ·rename_i k' hk
   cases ek
   cases r' with
   | @lst l xs _ h1 r1=>
    obtain rfl:u=Value.ref l:=ry
    obtain ⟨its,rv,p,_⟩:=Zm I (.inl h1) r1
    obtain ⟨h2,h3⟩:=vR hf rv r1 hk
    have h4:its.toArray.any f=k:=by simpa using h2
    cases neg with
    | false=>exact SeqAt.in_listAt f p (fun w hw=>eqa w (h3 w (by simpa using hw))) (by rw [h4]; exact ⟨.bl k,H,I,rfl,q⟩)
    | true=>exact SeqAt.notIn_listAt f p (fun w hw=>eqa w (h3 w (by simpa using hw))) (by rw [h4]; exact ⟨.bl (!k),H,I,rfl,q⟩)
  ·cases ek
 ·cases ek
theorem UD (hu:X.A.units+64 < cLine):OpR X (compareOp .In) (yF inC):=vS hu false
theorem vT (hu:X.A.units+64 < cLine):OpR X (compareOp .NotIn) (yF qR):=vS hu true
noncomputable def vU (t t' :T):R Bool:=match t' with
 | .non=>match t with | .non=> .ok true | _=> .ok false
 | .bl k=>match t with | .bl j=> .ok (j == k) | _=> .ok false
 | _=> .bad
noncomputable def Uq (t t' :T):R Bool:=(vU t t').bind fun b=> .ok (!b)
theorem kR:Nx vU:=fun t t' c h=>by
 unfold vU at h
 split at h
 ·split at h <;> cases h
 ·split at h <;> cases h
 ·cases h
theorem XO:Nx Uq:=fun t t' c h=>by
 unfold Uq at h
 cases e:vU t t' with
 | bad=>rw [e] at h; cases h
 | ex k=>exact absurd e (kR _ _ _)
 | ok k=>rw [e] at h; cases h
theorem vV (neg:Bool):OpR X (compareOp (if neg then .IsNot else .Is)) (yF (if neg then Uq else vU)):=by
 intro pins s σ H x y v u Q I rx ry h
 obtain ⟨t,t',b,r,r',e,q⟩:=h
 have hs:∃ k,vU t t' = .ok k/\b=(if neg then !k else k):=by
  cases neg with
  | false=>exact ⟨b,e,rfl⟩
  | true=>
   have e' :Uq t t' = .ok b:=e
   unfold Uq at e'
   cases z:vU t t' with
   | bad=>rw [z] at e'; cases e'
   | ex k=>exact absurd z (kR _ _ _)
   | ok k=>rw [z] at e'; cases e'; exact ⟨k,rfl,rfl⟩
 obtain ⟨k,ek,rfl⟩:=hs
 have go:plainIs v u=true/\(v == u)=k:=by
  cases r' with
  | non=>
   obtain rfl:u=Value.none:=ry
   cases r with
   | non=>obtain rfl:v=Value.none:=rx; cases ek; exact ⟨rfl,rfl⟩
   | bl j=>obtain rfl:v=Value.bool j:=rx; cases ek; exact ⟨rfl,rfl⟩
   | int j=>obtain ⟨t,rfl⟩:=rx; cases ek; exact ⟨rfl,rfl⟩
   | str j=>obtain ⟨t,rfl⟩:=rx; cases ek; exact ⟨rfl,rfl⟩
   | tup _ _=>obtain rfl:v=Value.ref _:=rx; cases ek; exact ⟨rfl,rfl⟩
   | lst _ _=>obtain rfl:v=Value.ref _:=rx; cases ek; exact ⟨rfl,rfl⟩
   | fz _ _=>obtain rfl:v=Value.ref _:=rx; cases ek; exact ⟨rfl,rfl⟩
  | bl k' =>
   obtain rfl:u=Value.bool k' :=ry
   cases r with
   | non=>obtain rfl:v=Value.none:=rx; cases ek; exact ⟨rfl,rfl⟩
   | bl j=>obtain rfl:v=Value.bool j:=rx; cases ek; exact ⟨rfl,by cases j <;> cases k' <;> rfl⟩
   | int j=>obtain ⟨t,rfl⟩:=rx; cases ek; exact ⟨rfl,rfl⟩
   | str j=>obtain ⟨t,rfl⟩:=rx; cases ek; exact ⟨rfl,rfl⟩
   | tup _ _=>obtain rfl:v=Value.ref _:=rx; cases ek; exact ⟨rfl,rfl⟩
   | lst _ _=>obtain rfl:v=Value.ref _:=rx; cases ek; exact ⟨rfl,rfl⟩
   | fz _ _=>obtain rfl:v=Value.ref _:=rx; cases ek; exact ⟨rfl,rfl⟩
  | _=>cases ek
 cases neg with
 | false=>exact wpAny_is_plain go.1 (by rw [go.2]; exact ⟨.bl k,H,I,rfl,q⟩)
 | true=>exact wpAny_isNot_plain go.1 (by rw [go.2]; exact ⟨.bl (!k),H,I,rfl,q⟩)
theorem G4:OpR X (compareOp .Is) (yF vU):=vV false
theorem vW:OpR X (compareOp .IsNot) (yF Uq):=vV true
noncomputable def chE (g g' :T->T->R Bool) (fa fb fc:En->R T):En->R T:=fun ρ=>(fa ρ).bind fun x=>(fb ρ).bind fun y=>(g x y).bind fun k=>if k=true then (fc ρ).bind fun z=>(g' y z).bind fun k' => .ok (.bl k') else .ok (.bl false)
noncomputable def chT (g g' :T->T->R Bool) (fa fb fc:En->R T):En->R Bool:=fun ρ=>(fa ρ).bind fun x=>(fb ρ).bind fun y=>(g x y).bind fun k=>if k=true then (fc ρ).bind fun z=>g' y z else .ok false
theorem wA {op op' :CmpOp} {g g' :T->T->R Bool} (nx:Nx g) (nx' :Nx g') (ho:OpR X (compareOp op) (yF g)) (ho' :OpR X (compareOp op') (yF g')) (ha:WF X Y a fa) (hb:WF X Y b fb) (hc:WF X Y c fc)
  (hm:lastMarks [op,op'] [b,c]=false:=by with_unfolding_all rfl):Snd X Y (.Compare a [op,op'] [b,c] pos) (chE g g' fa fb fc):= .mk fun ρ=>
 PE.imp (xI ho ho' (ha ρ) (hb ρ) (hc ρ) hm) fun σ H Q ⟨B,I,q⟩=>step I q fun t v H1 _ s1 r1 I1 q1=>step I1 q1 fun t' v' H2 _ s2 r2 I2 q2=>by
  cases e:g t t' with
  | bad=>rw [e] at q2; exact q2.elim
  | ex c=>exact absurd e (nx _ _ _)
  | ok k=>
   rw [e] at q2
   refine ⟨t,t',k,r1.mono s2,r2,e,k,rfl, ?_⟩
   cases k with
   | false=>exact Jo I2 q2 (.bl false)
   | true=>
    refine step I2 q2 fun t3 v3 H3 _ s3 r3 I3 q3=> ?_
    ·cases e:g' t' t3 with
     | bad=>rw [e] at q3; exact q3.elim
     | ex c=>exact absurd e (nx' _ _ _)
     | ok k=>rw [e] at q3; exact ⟨t',t3,k,r2.mono s3,r3,e,Jo I3 q3 (.bl k)⟩
theorem vX {op op' :CmpOp} {g g' :T->T->R Bool} (nx:Nx g) (nx' :Nx g') (ho:OpR X (compareOp op) (yF g)) (ho' :OpR X (compareOp op') (yF g')) (ha:WF X Y a fa) (hb:WF X Y b fb) (hc:WF X Y c fc)
  (hm:lastMarks [op,op'] [b,c]=false:=by with_unfolding_all rfl):YJ X Y (.Compare a [op,op'] [b,c] pos) (chT g g' fa fb fc):= .mk fun ρ=>
 PT.imp (xJ ho ho' (ha ρ) (hb ρ) (hc ρ) hm) fun σ H Q ⟨B,I,q⟩=>step I q fun t v H1 _ s1 r1 I1 q1=>step I1 q1 fun t' v' H2 _ s2 r2 I2 q2=>by
  cases e:g t t' with
  | bad=>rw [e] at q2; exact q2.elim
  | ex c=>exact absurd e (nx _ _ _)
  | ok k=>
   rw [e] at q2
   refine ⟨t,t',k,r1.mono s2,r2,e,k,rfl, ?_⟩
   cases k with
   | false=>exact ⟨false,rfl,Jo I2 q2 rfl⟩
   | true=>
    refine step I2 q2 fun t3 v3 H3 _ s3 r3 I3 q3=> ?_
    ·cases e:g' t' t3 with
     | bad=>rw [e] at q3; exact q3.elim
     | ex c=>exact absurd e (nx' _ _ _)
     | ok k=>rw [e] at q3; exact ⟨t',t3,k,r2.mono s3,r3,e,k,rfl,Jo I3 q3 rfl⟩
variable {rest:List Expr} {ga gb:En->R Bool}
noncomputable def u7 (fa fb:En->R T):En->R T:=fun ρ=>(fa ρ).bind fun x=>match x with
 | .bl true=>fb ρ
 | .bl false=> .ok (.bl false)
 | _=> .bad
noncomputable def orE (fa fb:En->R T):En->R T:=fun ρ=>(fa ρ).bind fun x=>match x with
 | .bl true=> .ok (.bl true)
 | .bl false=>fb ρ
 | _=> .bad
noncomputable def vY (fa:En->R T):En->R T:=fun ρ=>(fa ρ).bind fun x=>match x with
 | .bl k=> .ok (.bl (!k))
 | _=> .bad
theorem W1 {op} (h:Snd X Y a fa):Snd X Y (.BoolOp op [a] pos) fa:= .mk fun ρ=>gA (h ρ)
theorem wv (ha:Snd X Y a fa) (hb:Snd X Y (.BoolOp .And (b :: rest) pos) fb):Snd X Y (.BoolOp .And (a :: b :: rest) pos) (u7 fa fb):= .mk fun ρ=>
 PE.imp (gB (ha ρ) (hb ρ)) fun σ H Q ⟨B,I,q⟩=>step I q fun t v H1 _ s1 r1 I1 q1=>by
  cases r1 with
  | bl k=>
   refine ⟨k,rfl, ?_⟩
   cases k with
   | true=>exact ⟨_,I1,q1⟩
   | false=>exact Jo I1 q1 (.bl false)
  | _=>exact q1.elim
theorem s_or (ha:Snd X Y a fa) (hb:Snd X Y (.BoolOp .Or (b :: rest) pos) fb):Snd X Y (.BoolOp .Or (a :: b :: rest) pos) (orE fa fb):= .mk fun ρ=>
 PE.imp (z0w (ha ρ) (hb ρ)) fun σ H Q ⟨B,I,q⟩=>step I q fun t v H1 _ s1 r1 I1 q1=>by
  cases r1 with
  | bl k=>
   refine ⟨k,rfl, ?_⟩
   cases k with
   | false=>exact ⟨_,I1,q1⟩
   | true=>exact Jo I1 q1 (.bl true)
  | _=>exact q1.elim
theorem vZ (ha:Snd X Y a fa):Snd X Y (.UnaryOp .Not a pos) (vY fa):= .mk fun ρ=>
 PE.imp (gC (ha ρ)) fun σ H Q ⟨B,I,q⟩=>step I q fun t v H1 _ s1 r1 I1 q1=>by
  cases r1 with
  | bl k=>exact ⟨k,rfl,Jo I1 q1 (.bl (!k))⟩
  | _=>exact q1.elim
structure ur (X:Cx) (Y:Fx) (e:Expr) (f:En->R Bool):Prop where
 mk ::
 go:∀ ρ,PW X e (tS Y rE f ρ)
noncomputable instance {X:Cx} {Y:Fx} {e:Expr} {f:En->R Bool}:CoeFun (ur X Y e f) fun _=>∀ ρ,PW X e (tS Y rE f ρ):=⟨ur.go⟩
theorem ur.t {e:Expr} {f:En->R Bool} (h:ur X Y e f):YJ X Y e f:= .mk fun ρ=>(h ρ).pt
theorem PW.imp {e:Expr} {t t' :TT} (h:PW X e t) (i:∀ σ H Q,t' σ H Q->t σ H Q):PW X e t' :=fun wh pins s σ H Q I q=>h wh pins s σ H Q I (i σ H Q q)
noncomputable def qS (fa fb:En->R Bool):En->R Bool:=fun ρ=>(fa ρ).bind fun x=>if x=true then fb ρ else .ok false
noncomputable def orT (fa fb:En->R Bool):En->R Bool:=fun ρ=>(fa ρ).bind fun x=>if x=true then .ok true else fb ρ
noncomputable def JV (fa:En->R Bool):En->R Bool:=fun ρ=>(fa ρ).bind fun x=> .ok (!x)
theorem V0 (h:YJ X Y a ga):ur X Y (.BoolOp .And [a] pos) ga:= .mk fun ρ=>ko (h ρ)
theorem uH (h:YJ X Y a ga):ur X Y (.BoolOp .Or [a] pos) ga:= .mk fun ρ=>gw (h ρ)
theorem kS (ha:YJ X Y a ga) (hb:ur X Y (.BoolOp .And (b :: rest) pos) gb):ur X Y (.BoolOp .And (a :: b :: rest) pos) (qS ga gb):= .mk fun ρ=>
 PW.imp (gy (ha ρ) (hb ρ)) fun σ H Q ⟨B,I,q⟩=>step I q fun t v H1 _ s1 r1 I1 q1=>by
  have r1' :v=t:=r1
  subst r1'
  cases v with
  | true=>exact ⟨_,I1,q1⟩
  | false=>exact Jo I1 q1 rfl
theorem qT (ha:YJ X Y a ga) (hb:ur X Y (.BoolOp .Or (b :: rest) pos) gb):ur X Y (.BoolOp .Or (a :: b :: rest) pos) (orT ga gb):= .mk fun ρ=>
 PW.imp (z0t (ha ρ) (hb ρ)) fun σ H Q ⟨B,I,q⟩=>step I q fun t v H1 _ s1 r1 I1 q1=>by
  have r1' :v=t:=r1
  subst r1'
  cases v with
  | false=>exact ⟨_,I1,q1⟩
  | true=>exact Jo I1 q1 rfl
theorem Wb (ha:YJ X Y a ga):YJ X Y (.UnaryOp .Not a pos) (JV ga):= .mk fun ρ=>
 PT.imp (gz (ha ρ)) fun σ H Q ⟨B,I,q⟩=>step I q fun t v H1 _ s1 r1 I1 q1=>by
  have r1' :v=t:=r1
  subst r1'
  exact Jo I1 q1 rfl
noncomputable def tru:T->R Bool
 | .bl k=> .ok k
 | .non=> .ok false
 | .int i=> .ok (i != 0)
 | .tup xs=> .ok (!xs.isEmpty)
 | .lst xs=> .ok (!xs.isEmpty)
 | _=> .bad
noncomputable def jk (fa:En->R T):En->R Bool:=fun ρ=>(fa ρ).bind tru
theorem isE {H:Hp} {xs:List V} {ts:List T} (r:Z4 H xs ts):(!xs.isEmpty)= !ts.isEmpty:=by cases r <;> rfl
theorem JX (ha:WF X Y a fa) (he:∀ whole,isTrue a X.env whole=(do let v ← whole; standAt a.pos; holding [v] (truthy v)):=by intro _; rfl):YJ X Y a (jk fa):= .mk fun ρ=>
 PT.imp (xK (ha ρ) he) fun σ H Q ⟨B,I,q⟩=>step I q fun t v H1 _ s1 r1 I1 q1=>by
  cases r1 with
  | bl k=>exact ⟨k,rfl,Jo I1 q1 rfl⟩
  | non=>exact ⟨false,rfl,Jo I1 q1 rfl⟩
  | int i=>exact ⟨_,rfl,Jo I1 q1 rfl⟩
  | tup h r=>exact ⟨_, .inr (.inl ⟨_,SqT.of h,rfl⟩),Jo I1 q1 (isE r)⟩
  | lst h r=>exact ⟨_, .inl ⟨_,SqL.of h,rfl⟩,Jo I1 q1 (isE r)⟩
  | _=>exact q1.elim
noncomputable def ifE (g:En->R Bool) (fa fb:En->R T):En->R T:=fun ρ=>(g ρ).bind fun k=>if k=true then fa ρ else fb ρ
theorem gh (hc:YJ X Y c ga) (ha:Snd X Y a fa) (hb:Snd X Y b fb):Snd X Y (.IfExp c a b pos) (ifE ga fa fb):= .mk fun ρ=>
 PE.imp (xF (hc ρ) (ha ρ) (hb ρ)) fun σ H Q ⟨B,I,q⟩=>step I q fun t v H1 _ s1 r1 I1 q1=>by
  have r1' :v=t:=r1
  subst r1'
  cases v with
  | true=>exact ⟨_,I1,q1⟩
  | false=>exact ⟨_,I1,q1⟩
end
end PV
namespace PV
open PySem PySem.Spec PyProof.Rows L2
section
variable {X:Cx} {Y:Fx} {a b c d:Expr} {fa fb fc fd:En->R T} {pos p:Pos}
noncomputable def ap1 (g:T->R T) (fa:En->R T):En->R T:=fun ρ=>(fa ρ).bind g
noncomputable abbrev St1 (X:Cx) (a:Expr):Prop:=starEach [a] X.env=[(false,eval a X.env)]
theorem yX {id:String} {x:Str} {r:List V->Hp->VK->Prop} {g:T->R T} (hc:JG X (.builtin id) r) (hr:∀ v t B H Q,Rep H v t->zS B H->Po Y rC B H (g t) Q->r [v] H Q)
  (gl:Gl X x) (mg:X.mg x=none) (bt:bootBuiltins x=some (.builtin id)) (ha:WF X Y a fa) (hs:St1 X a:=by exact st1 rfl) (hn:x ≠ "__name__":=by decide) (hd:(x == ("__debug__":Str))=false:=by decide):Snd X Y (.Call (.Name x p) [a] [] pos) (ap1 g fa):= .mk fun ρ=>
 PE.imp (Wn hc gl mg bt (zY (ha ρ) j7 hs) hn hd hs rfl) fun σ H Q ⟨B,I,q⟩=>step I q fun t v H1 _ s1 r1 I1 q1=>hr v t _ H1 Q r1 I1.sB q1
theorem XQ {id:String} {x:Str} {r:List V->Hp->VK->Prop} {g:T->R T} (hc:JG X (.type id) r) (hr:∀ v t B H Q,Rep B v t->zS B H->Po Y rC B H (g t) Q->r [v] H Q)
  (gl:Gl X x) (mg:X.mg x=none) (bt:bootBuiltins x=some (.type id)) (ha:Snd X Y a fa) (hs:St1 X a:=by exact st1 rfl) (hn:x ≠ "__name__":=by decide) (hd:(x == ("__debug__":Str))=false:=by decide):Snd X Y (.Call (.Name x p) [a] [] pos) (ap1 g fa):= .mk fun ρ=>
 PE.imp (uD hc gl mg bt (zY (ha ρ) j7 hs) hn hd hs rfl) fun σ H Q ⟨B,I,q⟩=>step I q fun t v H1 _ s1 r1 I1 q1=>hr v t _ H1 Q r1 I1.sB q1
noncomputable def jD:T->R T
 | .tup xs=> .ok (.int xs.length)
 | .lst xs=> .ok (.int xs.length)
 | .fz xs=> .ok (.int xs.length)
 | .str x=>if x.length<=bnd then .ok (.int x.length) else .bad
 | _=> .bad
theorem z0S (v:V) (t:T) (B H:Hp) (Q:VK) (r:Rep H v t) (sB:zS B H) (q:Po Y rC B H (jD t) Q):
  (∃ p ys,[v]=[V.ref p]/\(SqL X.K H p ys\/SqT X.K H p ys)/\Q (V.int ys.length) H)\/(∃ z,[v]=[V.str z]/\z.length<=sizeLine/\Q (V.int z.length) H):=by
 cases r with
 | tup h r=>exact .inl ⟨_,_,rfl, .inr (SqT.of h),po0 sB q rfl (by rw [r.length]; exact .int _)⟩
 | lst h r=>exact .inl ⟨_,_,rfl, .inl (SqL.of h),po0 sB q rfl (by rw [r.length]; exact .int _)⟩
 | fz h r=>exact .inl ⟨_,_,rfl, .inl (.inl (.inr ⟨_,h⟩)),po0 sB q rfl (by rw [r.length]; exact .int _)⟩
 | str x=>
  by_cases hb:x.length<=bnd
  ·exact .inr ⟨x,rfl,JW hb,po0 sB q (if_pos hb) (.int _)⟩
  ·rw [show jD (.str x)= .bad from if_neg hb] at q; exact q.elim
 | _=>exact q.elim
theorem Jb (gl:Gl X "len") (mg:X.mg "len"=none) (ha:WF X Y a fa) (hs:St1 X a:=by exact st1 rfl):Snd X Y (.Call (.Name "len" p) [a] [] pos) (ap1 jD fa):=
 yX (yQ.or yR) z0S gl mg PySem.boot_len ha hs
noncomputable def z0e:T->R T
 | .tup xs=> .ok (.tup xs)
 | .lst xs=> .ok (.tup xs)
 | _=> .bad
theorem z0T (v:V) (t:T) (B H:Hp) (Q:VK) (r:Rep B v t) (sB:zS B H) (q:Po Y rC B H (z0e t) Q):
  ∃ p ys,[v]=[V.ref p]/\((SqL X.K H p ys/\∀ l,H l=none->Q (.ref l) (upd H l (.tup ys)))\/(SqT X.K H p ys/\Q (.ref p) H)):=by
 cases r with
 | tup h r=>exact ⟨_,_,rfl, .inr ⟨SqT.of (sB _ _ h),po0 sB q rfl (.tup h r)⟩⟩
 | lst h r=>exact ⟨_,_,rfl, .inl ⟨SqL.of (sB _ _ h),fun l hl=>z0d sB q rfl r hl⟩⟩
 | _=>exact q.elim
theorem V1 (gl:Gl X "tuple") (mg:X.mg "tuple"=none) (ha:Snd X Y a fa) (hs:St1 X a:=by exact st1 rfl):Snd X Y (.Call (.Name "tuple" p) [a] [] pos) (ap1 z0e fa):=
 XQ UT z0T gl mg (PyProof.Rows.Boot.«tuple») ha hs
noncomputable def tyN:T->String
 | .non=>"NoneType"
 | .bl _=>"bool"
 | .int _=>"int"
 | .str _=>"str"
 | .tup _=>"tuple"
 | .lst _=>"list"
 | .fz _=>"list"
noncomputable def isT (n:String) (t:T):Bool:=tyN t == n || (n == "int" && tyN t == "bool")
theorem z0U {H:Hp} {v:V} {t:T} (K:PySem.W.Frag) (r:Rep H v t):Qz K H v (.type (tyN t)):=by
 cases r with
 | non=>exact .non
 | bl b=>exact .bl b
 | int b=>exact .int b
 | str b=>exact .str b
 | tup h _=>exact .tup h
 | lst h _=>exact .lst h
 | fz h _=>exact .frz h
theorem xR:JG X (.builtin "isinstance") (fun xs H Q=>∃ v n t,xs=[v, .ty n]/\Rep H v t/\PySem.W.kitOne X.K (.type (tyN t)) (.type n)=some (isT n t)/\Q (.bl (isT n t)) H):=by
 intro pins s σ H xs us Q I rv h
 obtain ⟨v,n,t,rfl,r,hk,q⟩:=h
 obtain ⟨u,w,rfl,ru,rw'⟩:=vw rv
 obtain rfl:w=Value.type n:=rw'
 exact vA I ru (z0U X.K r) hk fun tk=>⟨.bl _,H,I.tok tk,rfl,q⟩
noncomputable def Jc (n:String) (t:T):R T:= .ok (.bl (isT n t))
theorem UX (K:PySem.W.Frag) (t:T):PySem.W.kitOne K (.type (tyN t)) (.type "int")=some (isT "int" t):=by cases t <;> rfl
theorem ut (K:PySem.W.Frag) (t:T):PySem.W.kitOne K (.type (tyN t)) (.type "bool")=some (isT "bool" t):=by cases t <;> rfl
theorem YX (K:PySem.W.Frag) (t:T):PySem.W.kitOne K (.type (tyN t)) (.type "str")=some (isT "str" t):=by cases t <;> rfl
theorem jE (K:PySem.W.Frag) (t:T):PySem.W.kitOne K (.type (tyN t)) (.type "tuple")=some (isT "tuple" t):=by cases t <;> rfl
theorem wb {n:String} {p' :Pos} (hk:∀ t,PySem.W.kitOne X.K (.type (tyN t)) (.type n)=some (isT n t)) (gl:Gl X "isinstance") (mg:X.mg "isinstance"=none) (gl' :Gl X (Str.ofString n)) (mg' :X.mg (Str.ofString n)=none) (bt:bootBuiltins (Str.ofString n)=some (.type n)) (ha:WF X Y a fa)
  (hs:starEach [a, .Name (Str.ofString n) p'] X.env=[(false,eval a X.env),(false,eval (.Name (Str.ofString n) p') X.env)]:=by exact st2 rfl rfl) (hs2:starEach [.Name (Str.ofString n) p'] X.env=[(false,eval (.Name (Str.ofString n) p') X.env)]:=by exact st1 rfl)
  (hn:Str.ofString n ≠ "__name__":=by decide) (hd:(Str.ofString n == ("__debug__":Str))=false:=by decide) (hz:((backTo pos (starEach [.Name (Str.ofString n) p'] X.env)).any fun x=>x.fst)=false:=by exact jU rfl):
  Snd X Y (.Call (.Name "isinstance" p) [a, .Name (Str.ofString n) p'] [] pos) (ap1 (Jc n) fa):= .mk fun ρ=>
 PE.imp (Wn xR gl mg PyProof.Rows.Boot.«isinstance» (zY (ha ρ) (zY (vk (v:= .ty n) gl' mg' bt rfl hn hd) j7 hs2) (by rw [hs,hs2])) (by decide) (by decide) (by rw [hs,hs2]) hz) fun σ H Q ⟨B,I,q⟩=>
  step I q fun t v H1 _ s1 r1 I1 q1=>⟨v,n,t,rfl,r1,hk t,po0 I1.sB q1 rfl (.bl _)⟩
noncomputable def atT (xs:List T) (i:Int):R T:=match atI xs i with
 | some t=> .ok t
 | none=> .bad
noncomputable def ixT:T->T->R T
 | .tup xs, .int i=>atT xs i
 | .lst xs, .int i=>atT xs i
 | .fz xs, .int i=>atT xs i
 | .str z, .int i=>if z.length<=bnd then match atI z.cps.toList i with | some c=> .ok (.str ⟨#[c]⟩) | none=> .bad else .bad
 | _,_=> .bad
theorem V2 {H:Hp} {xs:List V} {ts:List T} {i:Int} {t:T} (r:Z4 H xs ts) (h:atI ts i=some t):∃ v,atI xs i=some v/\Rep H v t:=by
 unfold atI at h ⊢
 rw [r.length]
 cases e:ixN ts.length i with
 | none=>rw [e] at h; cases h
 | some j=>
  rw [e] at h
  obtain ⟨v,h1,h2⟩:=r.get (show ts[j]? =some t from h)
  exact ⟨v,h1,h2⟩
theorem Ze (ha:Snd X Y a fa) (hb:Snd X Y b fb) (hs:vG b:=by exact fun _ _=>rfl):Snd X Y (.Subscript a b pos) (ze ixT fa fb):= .mk fun ρ=>
 PE.imp (z0O gU (ha ρ) (hb ρ) hs) fun σ H Q ⟨B,I,q⟩=>step I q fun t v H1 _ s1 r1 I1 q1=>step I1 q1 fun t' v' H2 _ s2 r2 I2 q2=>by
  have r1:=r1.mono (Zl.ge I1.sB s2)
  cases r2 with
  | int i=>
   cases r1 with
   | @tup _ xs ts h r=>
    have q2:Po Y rC _ H2 (atT ts i) Q:=q2
    unfold atT at q2
    split at q2
    ·rename_i t' e
     obtain ⟨w,e1,e2⟩:=V2 r e
     exact .inr (.inl ⟨_,xs,i,w,rfl,rfl,SqT.of (I2.sB _ _ h),e1,po0 I2.sB q2 rfl e2⟩)
    ·exact q2.elim
   | @lst _ xs ts h r=>
    have q2:Po Y rC _ H2 (atT ts i) Q:=q2
    unfold atT at q2
    split at q2
    ·rename_i t' e
     obtain ⟨w,e1,e2⟩:=V2 r e
     exact .inl ⟨_,xs,i,w,rfl,rfl,SqL.of (I2.sB _ _ h),e1,po0 I2.sB q2 rfl e2⟩
    ·exact q2.elim
   | @fz _ _ xs ts h r=>
    have q2:Po Y rC _ H2 (atT ts i) Q:=q2
    unfold atT at q2
    split at q2
    ·rename_i t' e
     obtain ⟨w,e1,e2⟩:=V2 r e
     exact .inl ⟨_,xs,i,w,rfl,rfl, .inl (.inr ⟨_,I2.sB _ _ h⟩),e1,po0 I2.sB q2 rfl e2⟩
    ·exact q2.elim
   | str z=>
    have q2:Po Y rC _ H2 (if z.length<=bnd then match atI z.cps.toList i with | some c=> .ok (.str ⟨#[c]⟩) | none=> .bad else .bad) Q:=q2
    split at q2
    ·rename_i hb
     split at q2
     ·rename_i c e
      exact .inr (.inr ⟨z,i,c,rfl,rfl,JW hb,e,po0 I2.sB q2 rfl (.str _)⟩)
     ·exact q2.elim
    ·exact q2.elim
   | _=>exact q2.elim
  | _=>cases r1 <;> exact q2.elim
structure gi (X:Cx) (Y:Fx) (e:Option Expr) (f:En->R (Option Int)):Prop where
 mk ::
 go:∀ ρ,PO X e (tS Y rE f ρ)
noncomputable instance {X:Cx} {Y:Fx} {e:Option Expr} {f:En->R (Option Int)}:CoeFun (gi X Y e f) fun _=>∀ ρ,PO X e (tS Y rE f ρ):=⟨gi.go⟩
noncomputable def noO:En->R (Option Int):=fun _=> .ok none
noncomputable def ZJ (fa:En->R T):En->R (Option Int):=fun ρ=>(fa ρ).bind fun t=>match t with
 | .int i=> .ok (some i)
 | _=> .bad
theorem PO.imp {e:Option Expr} {t t' :TO} (h:PO X e t) (i:∀ σ H Q,t' σ H Q->t σ H Q):PO X e t' :=fun pins s σ H Q I q=>h pins s σ H Q I (i σ H Q q)
theorem wl:gi X Y none noO:= .mk fun ρ=>PO.imp ky fun σ H Q ⟨B,I,q⟩=>Jo I q rfl
theorem Jp (ha:Snd X Y a fa):gi X Y (some a) (ZJ fa):= .mk fun ρ=>PO.imp (kz (ha ρ)) fun σ H Q ⟨B,I,q⟩=>step I q fun t v H1 _ s1 r1 I1 q1=>by
 cases r1 with
 | int i=>exact ⟨i,rfl,Jo I1 q1 rfl⟩
 | _=>exact q1.elim
noncomputable def cut (xs:List T) (lo hi:Option Int):List T:=(xs.drop (HT.sIx xs.length 0 lo)).take (HT.sIx xs.length xs.length hi - HT.sIx xs.length 0 lo)
noncomputable def slT (t:T) (lo hi:Option Int):R T:=match t with
 | .tup xs=> .ok (.tup (cut xs lo hi))
 | .lst xs=> .ok (.lst (cut xs lo hi))
 | _=> .bad
noncomputable def slE (fa:En->R T) (fl fh:En->R (Option Int)):En->R T:=fun ρ=>(fa ρ).bind fun t=>(fl ρ).bind fun lo=>(fh ρ).bind fun hi=>slT t lo hi
theorem V3 {H:Hp} {xs:List V} {ts:List T} {lo hi:Option Int} (r:Z4 H xs ts):Z4 H (XM xs lo hi) (cut ts lo hi):=by
 unfold XM cut
 rw [r.length]
 exact (r.drop _).take _
theorem WH {prog:Program} {w:World} {A:Around} {E:Value->Shared->Prop} {s:Shared} {t sl:Addr} {items:Array Value} {vl vu:Value} {lo hi:Option Int} {Q:Value->Shared->Prop} (ht:IsTup s.heap t items) (hs:s.heap.IsSliceOf sl vl vu .none) (pl:IsPart vl lo) (pu:IsPart vu hi)
  (hw:HT.sIx items.size 0 lo=0/\HT.sIx items.size items.size hi=items.size) (h:Q (.ref t) s):wpAny (model prog w) A (getItem (.ref t) (.ref sl)) Q E s:=by
 obtain ⟨os,hos,hcs,hds⟩:=id hs
 have hTs:s.TypeIs (.ref sl) "slice":=⟨os,hos,hcs⟩
 unfold getItem
 try with_reducible refine wpAny_holding ?_
 first | refine wpAny_bind (wpAny_pure ?_) | skip
 refine wpAny_bind (wpAny_sequenceKey ht.typeIs (by decide) ?_)
 refine wpAny_bind (wpAny_callSpecial?_slot (name:=Str.ofString "__getitem__") ht.typeIs PyProof.Rows.slot_tuple_getitem
  (wpAny_call_entry PyProof.Rows.slot_tuple_getitem ht.typeIs entry_tuple_getitem ?_ (args_tuple_getitem _ _)))
 show wpAny _ _ (Builtin.Tuple.tupleItemsOf (.ref t) >>= _) _ _ s
 refine wpAny_bind (tupleItemsOf_ ht ?_)
 refine wpAny_bind (wpAny_typeOf hTs ?_)
 rw [if_pos (by decide)]
 refine wpAny_bind (HT.sliceApplied_gen hs pl pu ?_)
 have hyes:(((HT.sIx items.size 0 lo:Nat):Int) == 0 && (1:Int) == 1 && (HT.sIx items.size items.size hi - HT.sIx items.size 0 lo) == items.size)=true:=by
  rw [hw.1,hw.2]; simp
 show wpAny _ _ (if (((HT.sIx items.size 0 lo:Nat):Int) == 0 && (1:Int) == 1 && (HT.sIx items.size items.size hi - HT.sIx items.size 0 lo) == items.size)=true then _ else _) _ _ s
 rw [if_pos hyes]
 unfold Builtin.Tuple.tupleIsExact
 refine wpAny_bind (wpAny_bind (wpAny_typeOf ht.typeIs (wpAny_pure ?_)))
 rw [if_pos (by decide)]
 exact wpAny_bind (wpAny_rule (wpAny_pure ⟨_,rfl,wpAny_pure h⟩))
theorem QG:SlR X (fun x lo hi H Q=>∃ a xs,x= .ref a/\SqT X.K H a xs/\(HT.sIx xs.length 0 lo=0/\HT.sIx xs.length xs.length hi=xs.length)/\Q (.ref a) H):=by
 intro pins s σ H x v vl vu lo hi sl Q I rx hs pl pu h
 obtain ⟨a,xs,rfl,hx,hw,q⟩:=h
 obtain rfl:v=Value.ref a:=rx
 obtain ⟨its,r,ht,hz⟩:=I.tuple hx
 have hlen:its.toArray.size=xs.length:=by rw [List.size_toArray]; exact r.length.symm
 refine ⟨"tuple",_,PyProof.Rows.slot_tuple_getitem.lookup,ht.typeIs, ?_⟩
 exact WH ht hs pl pu (by rw [hlen]; exact hw) ⟨.ref a,H,I,rfl,q⟩
theorem kT {xs:List T} {lo hi:Option Int} (h1:HT.sIx xs.length 0 lo=0) (h2:HT.sIx xs.length xs.length hi=xs.length):cut xs lo hi=xs:=by
 unfold cut
 rw [h1,h2]; simp
theorem jo {lo hi:Option Expr} {fl fh:En->R (Option Int)} {p2:Pos} (ha:Snd X Y a fa) (hl:gi X Y lo fl) (hh:gi X Y hi fh):Snd X Y (.Subscript a (.Slice lo hi none p2) pos) (slE fa fl fh):= .mk fun ρ=>
 PE.imp (xM (gR.or (QG.or kD)) (ha ρ) (hl ρ) (hh ρ)) fun σ H Q ⟨B,I,q⟩=>step I q fun t v H1 _ s1 r1 I1 q1=>step I1 q1 fun l l' H2 _ s2 el I2 q2=>step I2 q2 fun h h' H3 _ s3 eh I3 q3=>by
  have el' :l' =l:=el
  have eh' :h' =h:=eh
  subst el' eh'
  have r1:=r1.mono ((Zl.ge I1.sB s2).trans (Zl.ge I2.sB s3))
  cases r1 with
  | @tup _ xs ts hx r=>
   have q3:Po Y rC _ H3 (.ok (.tup (cut ts l' h'))) Q:=q3
   by_cases hw:HT.sIx xs.length 0 l' =0/\HT.sIx xs.length xs.length h' =xs.length
   ·refine .inr (.inl ⟨_,xs,rfl,SqT.of (I3.sB _ _ hx),hw,po0 I3.sB q3 rfl ?_⟩)
    rw [r.length] at hw
    rw [kT hw.1 hw.2]
    exact .tup hx r
   ·exact .inl ⟨_,xs,rfl,SqT.of (I3.sB _ _ hx),hw,fun p hp=>z0d I3.sB q3 rfl (V3 r) hp⟩
  | @lst _ xs ts hx r=>
   have q3:Po Y rC _ H3 (.ok (.lst (cut ts l' h'))) Q:=q3
   exact .inr (.inr ⟨_,xs,rfl,SqL.of (I3.sB _ _ hx),fun p hp=>z0Q I3.sB q3 rfl (V3 r) hp⟩)
  | _=>exact q3.elim
noncomputable def V4 (t t' :T):R T:=match t,t' with
 | .int i, .int j=> .ok (.int (if j < i then j else i))
 | _,_=> .bad
theorem XR (hc:X.calm=true) (gl:Gl X "min") (mg:X.mg "min"=none) (ha:Snd X Y a fa) (hb:Snd X Y b fb)
  (hs:starEach [a,b] X.env=[(false,eval a X.env),(false,eval b X.env)]:=by exact st2 rfl rfl) (hs2:starEach [b] X.env=[(false,eval b X.env)]:=by exact st1 rfl):
  Snd X Y (.Call (.Name "min" p) [a,b] [] pos) (ze V4 fa fb):= .mk fun ρ=>
 PE.imp (Wn (vx hc) gl mg PyProof.Rows.Boot.«min» (zY (ha ρ) (zY (hb ρ) j7 hs2) (by rw [hs,hs2])) (by decide) (by decide) (by rw [hs,hs2]) (by rw [hs2]; rfl)) fun σ H Q ⟨B,I,q⟩=>
  step I q fun t v H1 _ s1 r1 I1 q1=>step I1 q1 fun t' v' H2 _ s2 r2 I2 q2=>by
   cases r1 with
   | int i=>
    cases r2 with
    | int j=>exact ⟨i,j,rfl,po0 I2.sB q2 rfl (.int _)⟩
    | _=>exact q2.elim
   | _=>cases r2 <;> exact q2.elim
noncomputable def qU:List T->Option Bool
 | []=>some true
 | .bl k :: r=>match qU r with | some j=>some (k && j) | none=>none
 | _ :: _=>none
noncomputable def gj:T->R T
 | .lst ts=>match qU ts with | some k=> .ok (.bl k) | none=> .bad
 | _=> .bad
theorem V5:∀ {H:Hp} {xs:List V} {ts:List T} {its:List Value} {k:Bool},Z4 H xs ts->ZM xs its->qU ts=some k->∃ tr:Nat->Bool,(∀ i v,its[i]? =some v->v=Value.bool (tr i))/\(List.range its.length).all tr=k
 | _,_,_,_,k, .nil, .nil,h=>by
  have h' :some true=some k:=h
  cases h'
  exact ⟨fun _=>true,fun i v e=>by simp at e,rfl⟩
 | H,_,_,_,k, .cons (v:=x) (t:=t) r rs, .cons (b:=u) rv vs,h=>by
  cases r with
  | bl b=>
   unfold qU at h
   split at h
   ·rename_i j e
    cases h
    obtain ⟨tr,h1,h2⟩:=V5 rs vs e
    obtain rfl:u=Value.bool b:=rv
    refine ⟨fun i=>match i with | 0=>b | i+1=>tr i,fun i v e=> ?_, ?_⟩
    ·cases i with
     | zero=>simp at e; exact e.symm
     | succ i=>exact h1 i v (by simpa using e)
    ·rw [List.length_cons,List.range_succ_eq_map,List.all_cons,List.all_map,← h2]
     rfl
   ·cases h
  | _=>cases h
theorem V6 (hh:X.A.handled=none):JG X (.builtin "all") (fun vs H Q=>∃ l xs ts k,vs=[.ref l]/\H l=some (.lst xs)/\Z4 H xs ts/\qU ts=some k/\Q (.bl k) H):=by
 intro pins s σ H vs us Q I rv h
 obtain ⟨l,xs,ts,k,rfl,hl,r,hk,q⟩:=h
 obtain ⟨u,rfl,ru⟩:=Wa rv
 obtain rfl:u=Value.ref l:=ru
 obtain ⟨its,rv,p,_⟩:=Zm I (.inl hl) r
 obtain ⟨tr,h1,h2⟩:=V5 r rv hk
 refine call_all_walk (wpAny_pyIter_list p ?_)
 have hlt:l < s.heap.objs.size:=I.hok.lt hl
 have old:∀ b o,s.heap.get? b=some o->(s.heap.push { cls:= .type "list_iterator",data:= .fields #[.ref l, .int 0 0] }).get? b=some o:=fun b o e=>Heap.get?_push_of_some _ e
 refine ⟨s.heap.objs.size,_,_,_,_,_,tr,rfl,Walks.list (A:=X.A.in1) hh s.heap.objs.size l (Nat.ne_of_lt hlt) its.toArray, ?_, ?_,fun h' tk hk' => ?_⟩
 ·refine ⟨?_,p.at fun o e=>old _ o e⟩
  exact ⟨_,Heap.get?_push_size _ rfl,rfl,rfl⟩
 ·intro i v s' Q' E' hi hq
  rw [h1 i v (by simpa using hi)]
  exact wpAny_truthy_bool hq
 ·rw [List.size_toArray,h2]
  refine ⟨.bl k,H,I.kept (t' :=tk) (fun b o e=>hk' b o ?_ (old b o e)),rfl,q⟩
  simp
  exact Nat.ne_of_lt (Heap.lt_size e)
theorem G5 (hh:X.A.handled=none) (gl:Gl X "all") (mg:X.mg "all"=none) (ha:WF X Y a fa) (hs:St1 X a:=by exact st1 rfl):Snd X Y (.Call (.Name "all" p) [a] [] pos) (ap1 gj fa):=
 yX (V6 hh) (fun v t B H Q r sB q=>by
  cases r with
  | @lst l xs ts h r=>
   have q:Po Y rC B H (match qU ts with | some k=> .ok (.bl k) | none=> .bad) Q:=q
   split at q
   ·rename_i k e
    exact ⟨l,xs,ts,k,rfl,h,r,e,po0 sB q rfl (.bl k)⟩
   ·exact q.elim
  | _=>exact q.elim) gl mg PyProof.Rows.Boot.«all» ha hs
end
end PV
namespace PV
open PySem PySem.Spec PyProof.Rows L2
inductive RS where
 | nx (ρ:En) | rt (t:T) | bk (ρ:En) | ct (ρ:En) | ex (c:Nat) | bad | rf (ts:List T)
noncomputable def R.s {α:Type} (r:R α) (k:α->RS):RS:=match r with
 | .ok a=>k a
 | .ex c=> .ex c
 | .bad=> .bad
noncomputable def PoS (Y:Fx) (B:Hp) (r:RS) (D:xE):Prop:=match r with
 | .nx ρ' =>∀ σ' H' B',zS B B' ->SI Y B' ρ' σ' H' ->D.nx σ' H'
 | .rt t=>∀ v H',zS Y.H0 H' ->Rep (Zl Y.B0 Y.H0 H') v t->D.rt v H'
 | .bk ρ' =>∀ σ' H' B',zS B B' ->SI Y B' ρ' σ' H' ->D.bk σ' H'
 | .ct ρ' =>∀ σ' H' B',zS B B' ->SI Y B' ρ' σ' H' ->D.ct σ' H'
 | .ex c=>XP Y B c
 | .bad=>False
 | .rf ts=>∀ a xs H' B',zS Y.H0 H' ->Y.H0 a=none->H' a=some (.lst xs)->Z4 B' xs ts->B' a=none->zS B' (Zl Y.B0 Y.H0 H')->D.rt (.ref a) H'
theorem PoS.up {Y:Fx} {B B' :Hp} {r:RS} {D:xE} (s:zS B B') (h:PoS Y B r D):PoS Y B' r D:=by
 cases r with
 | nx ρ=>exact fun σ' H' B2 s2 I=>h σ' H' B2 (s.trans s2) I
 | bk ρ=>exact fun σ' H' B2 s2 I=>h σ' H' B2 (s.trans s2) I
 | ct ρ=>exact fun σ' H' B2 s2 I=>h σ' H' B2 (s.trans s2) I
 | rt t=>exact h
 | rf t=>exact h
 | ex c=>exact fun d H' s0 sB=>h d H' s0 (s.trans sB)
 | bad=>exact h
noncomputable def tSS (Y:Fx) (f:En->RS) (ρ:En):TS:=fun D σ H=>∃ B,SI Y B ρ σ H/\PoS Y B (f ρ) D
structure yY (X:Cx) (Y:Fx) (e:Stmt) (f:En->RS):Prop where
 mk ::
 go:∀ ρ,PS X e (tSS Y f ρ)
noncomputable instance {X:Cx} {Y:Fx} {e:Stmt} {f:En->RS}:CoeFun (yY X Y e f) fun _=>∀ ρ,PS X e (tSS Y f ρ):=⟨yY.go⟩
structure QH (X:Cx) (Y:Fx) (e:List Stmt) (f:En->RS):Prop where
 mk ::
 go:∀ ρ,PSs X e (tSS Y f ρ)
noncomputable instance {X:Cx} {Y:Fx} {e:List Stmt} {f:En->RS}:CoeFun (QH X Y e f) fun _=>∀ ρ,PSs X e (tSS Y f ρ):=⟨QH.go⟩
theorem UY {α β:Type} {Y:Fx} {rel:Hp->Hp->β->α->Prop} {f:En->R α} {k:α->RS} {ρ:En} {B:Hp} {σ:Sg} {H:Hp} {D:xE} {K:β->Hp->Prop}
  (I:SI Y B ρ σ H) (h:PoS Y B ((f ρ).s k) D)
  (n:∀ a b H1,f ρ= .ok a->zS H H1->rel (Zl B H H1) H1 b a->SI Y (Zl B H H1) ρ σ H1->PoS Y (Zl B H H1) (k a) D->K b H1):tS Y rel f ρ σ H K:=by
 refine ⟨B,I, ?_⟩
 cases e:f ρ with
 | bad=>rw [e] at h; exact h
 | ex c=>rw [e] at h; exact h
 | ok a=>
  rw [e] at h
  exact fun b H1 s r=>n a b H1 e s r (I.grow s) (PoS.up (Zl.ge I.sB s) h)
theorem Zc {α:Type} {xs:List α} {i j:Nat} {x y:α} (h:(xs.set i x)[j]? =some y):(j=i/\y=x)\/(j ≠ i/\xs[j]? =some y):=by
 by_cases e:j=i
 ·subst e
  by_cases hl:j < xs.length
  ·rw [List.getElem?_set_self hl] at h; exact .inl ⟨rfl,(Option.some.inj h).symm⟩
  ·rw [List.getElem?_eq_none (by rw [List.length_set]; omega)] at h; cases h
 ·rw [List.getElem?_set_ne (Ne.symm e)] at h; exact .inr ⟨e,h⟩
theorem V7 {α:Type} {xs:List α} {i:Nat} {x y:α} (h:(xs.set i x)[i]? =some y):i < xs.length:=by
 by_cases hl:i < xs.length
 ·exact hl
 ·rw [List.getElem?_eq_none (by rw [List.length_set]; omega)] at h; cases h
theorem SI.setV {Y:Fx} {B:Hp} {ρ:En} {σ:Sg} {H:Hp} (I:SI Y B ρ σ H) (i:Nat) {v:V} {t:T} (r:Rep B v t):SI Y B (ρ.set i (.vl t)) (σ.set i (some v)) H where
 s0:=I.s0
 sH:=I.sH
 sB:=I.sB
 old:=I.old
 len:=by rw [List.length_set,List.length_set]; exact I.len
 vl:=fun j u h=>by
  rcases Zc h with ⟨rfl,e⟩ | ⟨hj,h'⟩
  ·cases e
   exact ⟨v,List.getElem?_set_self (by rw [← I.len]; exact V7 h),r⟩
  ·obtain ⟨w,e,rr⟩:=I.vl j u h'
   exact ⟨w,by rw [List.getElem?_set_ne (Ne.symm hj)]; exact e,rr⟩
 ow:=fun j us h=>by
  rcases Zc h with ⟨rfl,e⟩ | ⟨hj,h'⟩
  ·cases e
  ·obtain ⟨a,xs,e,b0,h0,hh,rr,d⟩:=I.ow j us h'
   refine ⟨a,xs,by rw [List.getElem?_set_ne (Ne.symm hj)]; exact e,b0,h0,hh,rr,fun k ws hk hw=> ?_⟩
   rcases Zc hw with ⟨rfl,e'⟩ | ⟨hk',hw'⟩
   ·cases e'
   ·rw [List.getElem?_set_ne (Ne.symm hk')]; exact d k ws hk hw'
 xc:=fun j c h=>by
  rcases Zc h with ⟨rfl,e⟩ | ⟨hj,h'⟩
  ·cases e
  ·obtain ⟨a,e,r⟩:=I.xc j c h'
   exact ⟨a,by rw [List.getElem?_set_ne (Ne.symm hj)]; exact e,r⟩
theorem SI.newO {Y:Fx} {B:Hp} {ρ:En} {σ:Sg} {H:Hp} (I:SI Y B ρ σ H) (i:Nat) {p:Addr} {xs:List V} {ts:List T} (hp:H p=none) (r:Z4 B xs ts):SI Y B (ρ.set i (.ow ts)) (σ.set i (some (.ref p))) (upd H p (.lst xs)) where
 s0:=I.s0
 sH:=I.sH.trans (zS.new hp _)
 sB:=I.sB.trans (zS.new hp _)
 old:=I.old
 len:=by rw [List.length_set,List.length_set]; exact I.len
 vl:=fun j u h=>by
  rcases Zc h with ⟨rfl,e⟩ | ⟨hj,h'⟩
  ·cases e
  ·obtain ⟨w,e,rr⟩:=I.vl j u h'
   exact ⟨w,by rw [List.getElem?_set_ne (Ne.symm hj)]; exact e,rr⟩
 ow:=fun j us h=>by
  have op:∀ k ws a,ρ[k]? =some (Sl.ow ws)->σ[k]? =some (some (V.ref a))->a ≠ p:=fun k ws a h1 h2=>by
   obtain ⟨a',xs',e,_,_,hh,_⟩:=I.ow k ws h1
   rw [e] at h2; cases h2
   exact Zd hh hp
  rcases Zc h with ⟨rfl,e⟩ | ⟨hj,h'⟩
  ·cases e
   refine ⟨p,xs,List.getElem?_set_self (by rw [← I.len]; exact V7 h),I.sB.free hp,I.sH.free hp,Zu,r,fun k ws hk hw=> ?_⟩
   rcases Zc hw with ⟨rfl,e'⟩ | ⟨hk',hw'⟩
   ·exact absurd rfl hk
   ·rw [List.getElem?_set_ne (Ne.symm hk')]
    exact fun z=>op k ws p hw' z rfl
  ·obtain ⟨a,xs',e,b0,h0,hh,rr,d⟩:=I.ow j us h'
   refine ⟨a,xs',by rw [List.getElem?_set_ne (Ne.symm hj)]; exact e,b0,h0,by rw [zJ (op j us a h' e)]; exact hh,rr,fun k ws hk hw=> ?_⟩
   rcases Zc hw with ⟨rfl,e'⟩ | ⟨hk',hw'⟩
   ·rw [List.getElem?_set_self (by rw [← I.len]; exact V7 hw)]
    intro z
    exact op j us a h' e (by injection z with z; injection z with z; injection z with z; exact z.symm)
   ·rw [List.getElem?_set_ne (Ne.symm hk')]; exact d k ws hk hw'
 xc:=fun j c h=>by
  rcases Zc h with ⟨rfl,e⟩ | ⟨hj,h'⟩
  ·cases e
  ·obtain ⟨a,e,r⟩:=I.xc j c h'
   exact ⟨a,by rw [List.getElem?_set_ne (Ne.symm hj)]; exact e,r⟩
theorem SI.chg {Y:Fx} {B:Hp} {ρ:En} {σ:Sg} {H:Hp} (I:SI Y B ρ σ H) (i:Nat) {p:Addr} {ts us:List T} {ys:List V} (hi:ρ[i]? =some (.ow ts)) (he:σ[i]? =some (some (.ref p))) (r:Z4 B ys us):SI Y B (ρ.set i (.ow us)) σ (upd H p (.lst ys)):=by
 obtain ⟨p',xs,e,b0,h0,hh,rr,d⟩:=I.ow i ts hi
 rw [he] at e
 cases e
 have nb:∀ b o,B b=some o->b ≠ p:=fun b o h z=>by subst z; rw [b0] at h; cases h
 have n0:∀ b o,Y.H0 b=some o->b ≠ p:=fun b o h z=>by subst z; rw [h0] at h; cases h
 refine ⟨I.s0,fun b o h=>by rw [zJ (n0 b o h)]; exact I.sH b o h,fun b o h=>by rw [zJ (nb b o h)]; exact I.sB b o h,I.old,by rw [List.length_set]; exact I.len,fun j u h=> ?_,fun j ws h=> ?_,fun j c h=> ?_⟩
 rotate_right
 ·rcases Zc h with ⟨rfl,z⟩ | ⟨hj,h'⟩
  ·cases z
  ·exact I.xc j c h'
 ·rcases Zc h with ⟨rfl,z⟩ | ⟨hj,h'⟩
  ·cases z
  ·exact I.vl j u h'
 ·rcases Zc h with ⟨rfl,z⟩ | ⟨hj,h'⟩
  ·cases z
   refine ⟨p,ys,he,b0,h0,Zu,r,fun k vs hk hw=> ?_⟩
   rcases Zc hw with ⟨rfl,e'⟩ | ⟨hk',hw'⟩
   ·exact absurd rfl hk
   ·exact d k vs hk hw'
  ·obtain ⟨a,xs',e,c0,g0,gg,ss,d'⟩:=I.ow j ws h'
   have hne:a ≠ p:=fun z=>by subst z; exact d j ws hj h' e
   refine ⟨a,xs',e,c0,g0,by rw [zJ hne]; exact gg,ss,fun k vs hk hw=> ?_⟩
   rcases Zc hw with ⟨rfl,e'⟩ | ⟨hk',hw'⟩
   ·rw [he]; intro z; injection z with z; injection z with z; injection z with z; exact hne z.symm
   ·exact d' k vs hk hw'
noncomputable def um:Sl->Sl
 | .ow ts=> .vl (.lst ts)
 | x=>x
noncomputable def frz (ρ:En):En:=ρ.map um
theorem SI.up {Y:Fx} {B:Hp} {ρ:En} {σ:Sg} {H:Hp} (I:SI Y B ρ σ H):zS B (Zl B Y.H0 H):=fun b o h=>by
 cases q:Y.H0 b with
 | none=>rw [ZI q]; exact I.sB b o h
 | some u=>rw [ZN q]; exact h
theorem SI.frz {Y:Fx} {B:Hp} {ρ:En} {σ:Sg} {H:Hp} (I:SI Y B ρ σ H):SI Y (Zl B Y.H0 H) (PV.frz ρ) σ H:=by
 have up:zS B (Zl B Y.H0 H):=fun b o h=>by
  cases q:Y.H0 b with
  | none=>rw [ZI q]; exact I.sB b o h
  | some u=>rw [ZN q]; exact h
 refine ⟨I.s0,I.sH,fun b o h=> ?_,fun b o h=>by rw [ZN h]; exact I.old b o h,by unfold PV.frz; rw [List.length_map]; exact I.len,fun j t h=> ?_,fun j ts h=> ?_,fun j c h=> ?_⟩
 rotate_right
 ·unfold PV.frz at h
  rw [List.getElem?_map] at h
  cases e:ρ[j]? with
  | none=>rw [e] at h; cases h
  | some x=>
   rw [e] at h
   cases x with
   | xc d=>
    cases h
    obtain ⟨a,e1,r⟩:=I.xc j _ e
    exact ⟨a,e1,up a _ r⟩
   | un=>cases h
   | vl _=>cases h
   | ow _=>cases h
 ·cases q:Y.H0 b with
  | none=>rw [ZI q] at h; exact h
  | some u=>rw [ZN q] at h; exact I.sB b o h
 ·unfold PV.frz at h
  rw [List.getElem?_map] at h
  cases e:ρ[j]? with
  | none=>rw [e] at h; cases h
  | some x=>
   rw [e] at h
   cases x with
   | un=>cases h
   | vl u=>
    cases h
    obtain ⟨v,e1,r⟩:=I.vl j _ e
    exact ⟨v,e1,r.mono up⟩
   | ow us=>
    cases h
    obtain ⟨a,xs,e1,b0,h0,hh,rr,_⟩:=I.ow j us e
    exact ⟨.ref a,e1, .lst (by rw [ZI h0]; exact hh) (rr.mono up)⟩
   | xc _=>cases h
 ·unfold PV.frz at h
  rw [List.getElem?_map] at h
  cases e:ρ[j]? with
  | none=>rw [e] at h; cases h
  | some x=>
   rw [e] at h
   cases x with
   | un=>cases h
   | vl u=>cases h
   | ow us=>cases h
   | xc _=>cases h
theorem G6 {Y:Fx} {B H H' :Hp} (s0:zS Y.H0 H) (old:∀ b o,Y.H0 b=some o->B b=Y.B0 b) (s:zS H H') (sB:zS B H):zS (Zl B H H') (Zl Y.B0 Y.H0 H'):=fun b o h=>by
 cases q:H b with
 | none=>
  rw [ZI q] at h
  rw [ZI (s0.free q)]; exact h
 | some u=>
  rw [ZN q] at h
  cases z:Y.H0 b with
  | none=>rw [ZI z]; exact s b o (sB b o h)
  | some w=>rw [ZN z,← old b w z]; exact h
section
variable {X:Cx} {Y:Fx} {a b c d:Expr} {fa fb fc fd:En->R T} {pos p:Pos} {st:Stmt} {sts sts' :List Stmt} {f g:En->RS}
noncomputable def nxS:En->RS:=fun ρ=> .nx ρ
noncomputable def zE (f g:En->RS):En->RS:=fun ρ=>match f ρ with
 | .nx ρ' =>g ρ'
 | r=>r
theorem zT:QH X Y [] nxS:= .mk fun ρ=>PSs.imp kq fun D σ H ⟨B,I,q⟩=>q σ H B (zS.refl B) I
theorem zn (h:yY X Y st f):QH X Y [st] f:= .mk fun ρ=>vm (h ρ)
theorem zj (h1:yY X Y st f) (h2:QH X Y sts g):QH X Y (st :: sts) (zE f g):= .mk fun ρ=>by
 refine PSs.imp (xG (u:=fun D σ H=>∃ ρ',tSS Y g ρ' D σ H) (h1 ρ) ?_) ?_
 ·intro pins s σ H D I ⟨ρ',q⟩
  exact h2 ρ' pins s σ H D I q
 ·intro D σ H ⟨B,I,q⟩
  refine ⟨B,I, ?_⟩
  unfold zE at q
  cases e:f ρ with
  | nx ρ' =>
   rw [e] at q
   intro σ' H' B' s' I'
   exact ⟨ρ',B',I',PoS.up s' q⟩
  | rt t=>rw [e] at q; exact q
  | rf t=>rw [e] at q; exact q
  | bk ρ' =>rw [e] at q; exact q
  | ct ρ' =>rw [e] at q; exact q
  | ex c=>rw [e] at q; exact q
  | bad=>rw [e] at q; exact q
noncomputable def Z0 (i:Nat) (fa:En->R T):En->RS:=fun ρ=>(fa ρ).s fun t=> .nx (ρ.set i (.vl t))
theorem Zi {i:Nat} {x:Str} {p' :Pos} (hN:X.N.Nodup) (hi:X.N[i]? =some x) (hx:L2.Loc X.env.scope x) (ha:Snd X Y a fa) (hs:swapsWith a (some (.Name x p')) pos.line X.env=pure false:=by rfl)
  (hf:X.fn x=true\/X.env.scope.names.lookup x=some .local:=by first | exact .inl rfl | exact .inr rfl | assumption):yY X Y (.Assign [.Name x p'] a pos) (Z0 i fa):= .mk fun ρ=>
 PS.imp (qL hN hi hx (ha ρ) hs hf) fun D σ H ⟨B,I,q⟩=>UY I q fun t v H1 _ s1 r1 I1 q1=>q1 _ _ _ (zS.refl _) (I1.setV i r1)
noncomputable def YY (i:Nat) (ga:En->R (List T)):En->RS:=fun ρ=>(ga ρ).s fun ts=>if ts.length<=bnd then .nx (ρ.set i (.ow ts)) else .bad
theorem uI {i:Nat} {x:Str} {p' :Pos} {es:List Expr} {ga:En->R (List T)} (hN:X.N.Nodup) (hi:X.N[i]? =some x) (hx:L2.Loc X.env.scope x) (ha:YS X Y es ga) (hs:swapsWith (.List es p) (some (.Name x p')) pos.line X.env=pure false:=by rfl)
  (hf:X.fn x=true\/X.env.scope.names.lookup x=some .local:=by first | exact .inl rfl | exact .inr rfl | assumption):yY X Y (.Assign [.Name x p'] (.List es p) pos) (YY i ga):= .mk fun ρ=>
 PS.imp (qL hN hi hx (XL (ha ρ)) hs hf) fun D σ H ⟨B,I,q⟩=>UY I q fun ts vs H1 _ s1 r1 I1 q1=>by
  split at q1
  ·rename_i hb
   exact ⟨by rw [r1.length]; exact JW hb,fun p hp=>q1 _ _ _ (zS.refl _) (I1.newO i hp r1)⟩
  ·exact q1.elim
noncomputable def zV (fa:En->R T):En->RS:=fun ρ=>(fa (frz ρ)).s fun t=> .rt t
theorem zq (ha:Snd X Y a fa):yY X Y (.Return (some a) pos) (zV fa):= .mk fun ρ=>
 PS.imp (gD (ha (frz ρ))) fun D σ H ⟨B,I,q⟩=>by
  refine ⟨_,I.frz, ?_⟩
  unfold zV at q
  cases e:fa (frz ρ) with
  | bad=>rw [e] at q; exact q
  | ex c=>
   rw [e] at q
   exact fun d H' s0 sG=>q d H' s0 (I.up.trans sG)
  | ok t=>
   rw [e] at q
   intro v H' s r
   have J:=I.frz
   exact q v H' (I.sH.trans s) (r.mono (G6 J.sH J.old s J.sB))
noncomputable def ifS (g:En->R Bool) (f1 f2:En->RS):En->RS:=fun ρ=>(g ρ).s fun k=>if k=true then f1 ρ else f2 ρ
theorem zU {ga:En->R Bool} (hc:YJ X Y c ga) (h1:QH X Y sts f) (h2:QH X Y sts' g):yY X Y (.If c sts sts' pos) (ifS ga f g):= .mk fun ρ=>
 PS.imp (z0z (hc ρ) (h1 ρ) (h2 ρ)) fun D σ H ⟨B,I,q⟩=>UY I q fun t v H1 _ s1 r1 I1 q1=>by
  have r1' :v=t:=r1
  subst r1'
  cases v with
  | true=>exact ⟨_,I1,q1⟩
  | false=>exact ⟨_,I1,q1⟩
noncomputable def V8 (fa:En->R T):En->RS:=fun ρ=>(fa ρ).s fun _=> .nx ρ
theorem G7 (ha:Snd X Y a fa) (hs:swapsWith a none pos.line X.env=pure false:=by rfl):yY X Y (.Expr a pos) (V8 fa):= .mk fun ρ=>
 PS.imp (YM (ha ρ) hs) fun D σ H ⟨B,I,q⟩=>UY I q fun t v H1 _ s1 r1 I1 q1=>q1 _ _ _ (zS.refl _) I1
noncomputable def z0f (i:Nat) (fa:En->R T):En->RS:=fun ρ=>match ρ[i]? with
 | some (.ow ts)=>(fa ρ).s fun t=>if ts.length < bnd then .nx (ρ.set i (.ow (ts++[t]))) else .bad
 | _=> .bad
noncomputable def YZ (i:Nat) (fa:En->R T):En->RS:=fun ρ=>match ρ[i]? with
 | some (.ow ts)=>(fa ρ).s fun t=>match t with
  | .lst us=>if ts.length+us.length<=bnd then .nx (ρ.set i (.ow (ts++us))) else .bad
  | _=> .bad
 | _=> .bad
theorem G8 {n:Nat} (h:n < bnd):n < sizeLine:=by rw [sizeLine_eq]; exact h
theorem z0V {i:Nat} {x:Str} {px pa:Pos} (hv:PE X (.Name x px) (vi i)) (ha:Snd X Y a fa) (hb:attributeBase (.Name x px) "append" X.env (eval (.Name x px) X.env)=eval (.Name x px) X.env:=by rfl) (hs:St1 X a:=by exact st1 rfl)
  (hz:(pa.endLine == p.line)=true:=by rfl) (hw:swapsWith (.Call (.Attribute (.Name x px) "append" pa) [a] [] p) none pos.line X.env=pure false:=by rfl):yY X Y (.Expr (.Call (.Attribute (.Name x px) "append" pa) [a] [] p) pos) (z0f i fa):= .mk fun ρ=>by
 have e1:(((((backTo p (starEach [a] X.env)).all fun x=> !x.fst) && (backToKw p (keywordEach [] X.env)).all fun x=>x.fst.isSome) && decide (([a].length+([]:List Keyword).length+if ([]:List Keyword).isEmpty=true then 0 else 1) < 30))=true):=by rw [hs]; rfl
 refine PS.imp (YM (vH PySem.F.plainAttrs_list PySem.F.slot_list_append PySem.F.type_list_append yS hv (zY (ha ρ) j7 hs) hb e1 hz hs rfl) hw) fun D σ H ⟨B,I,q⟩=> ?_
 unfold z0f at q
 split at q
 ·rename_i ts e
  obtain ⟨l,xs,e1,b0,h0,hh,rr,d⟩:=I.ow i ts e
  refine ⟨.ref l,e1, .inl ⟨rfl,_,SqL.of hh⟩, ?_⟩
  refine UY I q fun t v H1 _ s1 r1 I1 q1=> ?_
  split at q1
  ·rename_i hb
   refine ⟨l,xs,v,rfl,rfl,s1 _ _ hh,by rw [rr.length]; exact G8 hb, ?_⟩
   exact q1 _ _ _ (zS.refl _) (I1.chg i e e1 ((rr.mono (Zl.ge I.sB s1)).append (.cons r1 .nil)))
  ·exact q1.elim
 ·exact q.elim
theorem QI {i:Nat} {x:Str} {px pa:Pos} (hv:PE X (.Name x px) (vi i)) (ha:Snd X Y a fa) (hb:attributeBase (.Name x px) "extend" X.env (eval (.Name x px) X.env)=eval (.Name x px) X.env:=by rfl) (hs:St1 X a:=by exact st1 rfl)
  (hz:(pa.endLine == p.line)=true:=by rfl) (hw:swapsWith (.Call (.Attribute (.Name x px) "extend" pa) [a] [] p) none pos.line X.env=pure false:=by rfl):yY X Y (.Expr (.Call (.Attribute (.Name x px) "extend" pa) [a] [] p) pos) (YZ i fa):= .mk fun ρ=>by
 have e1:(((((backTo p (starEach [a] X.env)).all fun x=> !x.fst) && (backToKw p (keywordEach [] X.env)).all fun x=>x.fst.isSome) && decide (([a].length+([]:List Keyword).length+if ([]:List Keyword).isEmpty=true then 0 else 1) < 30))=true):=by rw [hs]; rfl
 refine PS.imp (YM (vH PySem.F.plainAttrs_list PySem.F.slot_list_extend PySem.F.type_list_extend vI hv (zY (ha ρ) j7 hs) hb e1 hz hs rfl) hw) fun D σ H ⟨B,I,q⟩=> ?_
 unfold YZ at q
 split at q
 ·rename_i ts e
  obtain ⟨l,xs,e1,b0,h0,hh,rr,d⟩:=I.ow i ts e
  refine ⟨.ref l,e1, .inl ⟨rfl,_,SqL.of hh⟩, ?_⟩
  refine UY I q fun t v H1 _ s1 r1 I1 q1=> ?_
  cases r1 with
  | @lst b zs us hb r=>
   have q1:PoS Y _ (if ts.length+us.length<=bnd then .nx (ρ.set i (.ow (ts++us))) else .bad) D:=q1
   split at q1
   ·rename_i hl
    refine ⟨l,b,xs,zs,rfl,rfl,s1 _ _ hh,I1.sB _ _ hb,by rw [rr.length,r.length]; exact JW hl, ?_⟩
    exact q1 _ _ _ (zS.refl _) (I1.chg i e e1 ((rr.mono (Zl.ge I.sB s1)).append r))
   ·exact q1.elim
  | _=>exact q1.elim
 ·exact q.elim
end
end PV
namespace PV
open PySem PySem.Spec PyProof.Rows L2
noncomputable def spP (cl:Nat->Value) (n:Nat) (g:List T->R T):Sp:=fun vs H Q E=>∃ B ts,ts.length=n/\zS B H/\Z4 B vs ts/\Po ⟨B,H,E,cl⟩ rC B H (g ts) Q
theorem spP.len {cl:Nat->Value} {n:Nat} {g:List T->R T} (vs:List V) (H:Hp) (Q:VK) (E:XK) (h:spP cl n g vs H Q E):vs.length=n:=by
 obtain ⟨B,ts,hl,_,r,_⟩:=h
 rw [r.length,hl]
noncomputable def zb (n:Nat) (g:List T->R T) (ga:En->R (List T)):En->R T:=fun ρ=>(ga ρ).bind fun ts=>if ts.length=n then g ts else .bad
section
variable {X:Cx} {Y:Fx} {a b c d:Expr} {fa fb fc fd:En->R T} {pos p:Pos}
theorem XS {CX:CXT} {k n:Nat} {f:Addr} {fd:FuncData} {ps:List Str} {g:List T->R T} {x:Str} {es:List Expr} {ga:En->R (List T)} (F:jm X.prog X.w X.K X.mg X.base CX k f fd ps (spP Y.cl n g)) (hr:WD k X.A) (gl:Gl X x) (mg:X.mg x=some (.ref f))
  (kp:PySem.W.keepIn X.K (.ref f)=true) (bd:L2.Binds X.K fd ps []) (hx:W3 CX X Y.E) (ha:YS X Y (a :: es) ga) (hd:(x == ("__debug__":Str))=false:=by decide)
  (hs:starEach (a :: es) X.env=(false,eval a X.env) :: starEach es X.env:=by exact ZH rfl) (hz:((backTo pos (starEach es X.env)).any fun x=>x.fst)=false:=by exact jU rfl):Snd X Y (.Call (.Name x p) (a :: es) [] pos) (zb n g ga):= .mk fun ρ=>
 PE.imp (vC F hr gl mg kp bd .nil hx (ha ρ) hd hs hz) fun σ H Q ⟨B,I,q⟩=>step I q fun ts vs H1 _ s1 r1 I1 q1=>by
  split at q1
  ·rename_i hn
   rw [List.append_nil]
   refine ⟨_,ts,hn,I1.sB,r1, ?_⟩
   revert q1
   cases g ts with
   | bad=>exact fun q1=>q1
   | ex c=>exact fun q1 d H' s sB=>q1 d H' (I1.sH.trans s) sB
   | ok t=>exact fun q1=>q1
  ·exact q1.elim
end
noncomputable def zu:RS->R T
 | .rt t=> .ok t
 | .rf ts=> .ok (.lst ts)
 | .nx _=> .ok .non
 | .ex c=> .ex c
 | _=> .bad
noncomputable def en0 (n:Nat) (ts:List T):En:=ts.map Sl.vl++List.replicate (n - ts.length) Sl.un
theorem Z4.vl {H:Hp}:∀ {vs:List V} {ts:List T} {i:Nat} {t:T} {n m:Nat},Z4 H vs ts->(ts.map Sl.vl++List.replicate n Sl.un)[i]? =some (Sl.vl t)->∃ v:V,(vs.map some++List.replicate m none)[i]? =some (some v)/\Rep H v t
 | _,_,i,t,n,m, .nil,h=>by
  exfalso
  simp only [List.map_nil,List.nil_append] at h
  rw [List.getElem?_replicate] at h
  split at h
  ·cases h
  ·cases h
 | _,_,0,t,n,m, .cons r _,h=>by
  simp at h; subst h; exact ⟨_,rfl,r⟩
 | _,_,i+1,t,n,m, .cons _ q,h=>by
  obtain ⟨v,h1,h2⟩:=Z4.vl (i:=i) (t:=t) (n:=n) (m:=m) q (by simpa using h)
  exact ⟨v,by simpa using h1,h2⟩
theorem XT {n:Nat}:∀ {ts:List T} {i:Nat} {us:List T},(ts.map Sl.vl++List.replicate n Sl.un)[i]? =some (Sl.ow us)->False
 | [],i,us,h=>by
  simp only [List.map_nil,List.nil_append] at h
  rw [List.getElem?_replicate] at h
  split at h
  ·cases h
  ·cases h
 | t :: ts,0,us,h=>by simp at h
 | t :: ts,i+1,us,h=>XT (ts:=ts) (i:=i) (us:=us) (n:=n) (by simpa using h)
theorem XU {n:Nat}:∀ {ts:List T} {i:Nat} {c:Nat},(ts.map Sl.vl++List.replicate n Sl.un)[i]? =some (Sl.xc c)->False
 | [],i,us,h=>by
  simp only [List.map_nil,List.nil_append] at h
  rw [List.getElem?_replicate] at h
  split at h
  ·cases h
  ·cases h
 | t :: ts,0,us,h=>by simp at h
 | t :: ts,i+1,us,h=>XU (ts:=ts) (i:=i) (c:=us) (n:=n) (by simpa using h)
theorem SI.start {Y:Fx} {N:List Str} {vs:List V} {ts:List T} (s:zS Y.B0 Y.H0) (r:Z4 Y.B0 vs ts):SI Y Y.B0 (en0 N.length ts) (L2.start N vs) Y.H0 where
 s0:=s
 sH:=zS.refl _
 sB:=s
 old:=fun _ _ _=>rfl
 len:=by unfold en0 L2.start; simp [r.length]
 vl:=fun i t h=>r.vl h
 ow:=fun i ts h=>(XT h).elim
 xc:=fun i c h=>(XU h).elim
section
variable {P:Program} {w:World} {K:PySem.W.Frag} {mg:Str->Option Value} {base:Heap}
theorem ZO {cl:Nat->Value} {x qual:Str} {st:Stmt} {f:Addr} {fd:FuncData} {N ps:List Str} {k n:Nat} {fb:En->RS} {g:List T->R T} (F:Fun K x qual st f fd) (S:zt N ps (zf st)) (hn:n=ps.length)
  (hb:∀ (cdv:Value) (A:Around) (outer:List Env) (s:Shared) (H:Hp) (E:XK) (Y:Fx),Y.cl=cl->WD k (A.deeper (envOfC qual (zf st) s.heap.objs.size f cdv))->
   QH (Ul CX0 P w K mg base N qual (zf st) f cdv A outer s H E).nox Y (jn st) fb)
  (hg:∀ ts,ts.length=n->g ts=zu (fb (en0 N.length ts))):jm P w K mg base CX0 (k+1) f fd ps (spP cl n g):=by
 subst hn
 refine F.ok S spP.len fun cdv A outer s H vs Q E hr ⟨B,ts,hl,sB,r,q⟩=> ?_
 refine ⟨_,hb cdv A outer s H E ⟨B,H,E,cl⟩ rfl hr (en0 N.length ts),B,SI.start (Y:=⟨B,H,E,cl⟩) sB r, ?_⟩
 rw [hg ts hl] at q
 revert q
 cases fb (en0 N.length ts) with
 | rt t=>exact fun q v H' s r=>q v H' s r
 | rf t=>exact fun q a xs H' B' s0 n e r _ l=>q (.ref a) H' s0 (.lst (by rw [ZI n]; exact e) (r.mono l))
 | nx ρ=>exact fun q σ' H' B' _ I=>q .non H' I.sH .non
 | ex c=>exact fun q=>q
 | bk ρ=>exact fun q=>q.elim
 | ct ρ=>exact fun q=>q.elim
 | bad=>exact fun q=>q
end
noncomputable abbrev rI:Hp->Hp->It->List T->Prop:=fun B1 _ J ts=>∀ B2 H2,zS B1 B2->zS B2 H2->(∀ i,i < ts.length->J.go i H2)/\(∀ (i:Nat) t x H3,ts[i]? =some t->J.yld i H2 x H3->zS H2 H3/\Rep (Zl B2 H2 H3) x t)/\(∀ i,ts.length<=i->J.stop i H2)
structure V9 (X:Cx) (Y:Fx) (tg iter:Expr) (f:En->R (List T)):Prop where
 mk ::
 go:∀ ρ,PI X tg iter (tS Y rI f ρ)
noncomputable instance {X:Cx} {Y:Fx} {tg iter:Expr} {f:En->R (List T)}:CoeFun (V9 X Y tg iter f) fun _=>∀ ρ,PI X tg iter (tS Y rI f ρ):=⟨V9.go⟩
section
variable {X:Cx} {Y:Fx} {a b c d tg:Expr} {fa fb fc fd:En->R T} {pos p:Pos}
theorem PI.imp {e:Expr} {t t' :TI} (h:PI X tg e t) (i:∀ σ H Q,t' σ H Q->t σ H Q):PI X tg e t' :=fun pins s σ H Q I q=>h pins s σ H Q I (i σ H Q q)
theorem G9 {K:PySem.W.Frag} {B1 H1:Hp} {a:Addr} {xs:List V} {ts:List T} (h:B1 a=some (.tup xs)) (r:Z4 B1 xs ts):rI B1 H1 (Itt K a) ts:=fun B2 H2 s1 s2=>by
 have h2:=s2 _ _ (s1 _ _ h)
 refine ⟨fun i hi=> ?_,fun i t x H3 e y=> ?_,fun i hi=>⟨xs,SqT.of h2,by rw [r.length]; exact hi⟩⟩
 ·obtain ⟨v,e,_⟩:=r.get (List.getElem?_eq_getElem hi)
  exact ⟨xs,v,SqT.of h2,e⟩
 ·obtain ⟨rfl,y⟩:=y
  obtain ⟨v,e1,r1⟩:=r.get e
  have:=y xs (SqT.of h2)
  rw [e1] at this; cases this
  refine ⟨zS.refl _, ?_⟩
  rw [Zl.self B2 _ s2]
  exact r1.mono s1
theorem Ga {K:PySem.W.Frag} {B1 H1:Hp} {a:Addr} {xs:List V} {ts:List T} (h:B1 a=some (.lst xs)) (r:Z4 B1 xs ts):rI B1 H1 (Itl K a) ts:=fun B2 H2 s1 s2=>by
 have h2:=s2 _ _ (s1 _ _ h)
 refine ⟨fun i hi=> ?_,fun i t x H3 e y=> ?_,fun i hi=>⟨xs,SqL.of h2,by rw [r.length]; exact hi⟩⟩
 ·obtain ⟨v,e,_⟩:=r.get (List.getElem?_eq_getElem hi)
  exact ⟨xs,v,SqL.of h2,e⟩
 ·obtain ⟨rfl,y⟩:=y
  obtain ⟨v,e1,r1⟩:=r.get e
  have:=y xs (SqL.of h2)
  rw [e1] at this; cases this
  refine ⟨zS.refl _, ?_⟩
  rw [Zl.self B2 _ s2]
  exact r1.mono s1
noncomputable def rng (lo:Int) (n:Nat):List T:=(List.range n).map fun (i:Nat)=>T.int (lo+(i:Int))
theorem XV {B1 H1:Hp} {lo:Int} {n:Nat}:rI B1 H1 (Itr lo n) (rng lo n):=fun B2 H2 s1 s2=>by
 have hl:(rng lo n).length=n:=by unfold rng; simp
 refine ⟨fun i hi=>by rw [hl] at hi; exact hi,fun i t x H3 e y=> ?_,fun i hi=>by rw [hl] at hi; exact hi⟩
 obtain ⟨rfl,rfl⟩:=y
 refine ⟨zS.refl _, ?_⟩
 unfold rng at e
 rw [List.getElem?_map] at e
 by_cases hi:i < n
 ·rw [List.getElem?_range hi] at e
  cases e
  exact .int _
 ·rw [List.getElem?_eq_none (by simp; omega)] at e; cases e
noncomputable def jM (fa:En->R T):En->R (List T):=fun ρ=>(fa ρ).bind fun t=>match t with
 | .int j=>if -1000000 < j/\j < 1000000 then .ok (rng 0 j.toNat) else .bad
 | _=> .bad
noncomputable def Ur (fa fb:En->R T):En->R (List T):=fun ρ=>(fa ρ).bind fun t=>(fb ρ).bind fun t' =>match t,t' with
 | .int i, .int j=>if -1000000 < i/\i < 1000000/\ -1000000 < j/\j < 1000000 then .ok (rng i (j - i).toNat) else .bad
 | _,_=> .bad
theorem uJ (gl:Gl X "range") (mg:X.mg "range"=none) (ha:Snd X Y a fa) (hs:St1 X a:=by exact st1 rfl):V9 X Y tg (.Call (.Name "range" p) [a] [] pos) (jM fa):= .mk fun ρ=>PI.imp (vo gl mg (zY (ha ρ) j7 hs) hs) fun σ H R ⟨B,I,q⟩=>step I q fun t v H1 _ s1 r1 I1 q1=>by
 cases r1 with
 | int j=>
  have q1:Po Y rI _ H1 (if -1000000 < j/\j < 1000000 then .ok (rng 0 j.toNat) else .bad) R:=q1
  split at q1
  ·rename_i hj
   exact ⟨j,rfl,by omega,by omega,Jo I1 q1 XV⟩
  ·exact q1.elim
 | _=>exact q1.elim
theorem Gb (gl:Gl X "range") (mg:X.mg "range"=none) (ha:Snd X Y a fa) (hb:Snd X Y b fb) (hs:starEach [a,b] X.env=[(false,eval a X.env),(false,eval b X.env)]:=by exact st2 rfl rfl) (hs2:St1 X b:=by exact st1 rfl):V9 X Y tg (.Call (.Name "range" p) [a,b] [] pos) (Ur fa fb):= .mk fun ρ=>
 PI.imp (vp gl mg (zY (ha ρ) (zY (hb ρ) j7 hs2) (by rw [hs,hs2])) hs hs2) fun σ H R ⟨B,I,q⟩=>step I q fun t v H1 _ s1 r1 I1 q1=>step I1 q1 fun t' v' H2 _ s2 r2 I2 q2=>by
  cases r1 with
  | int i=>
   cases r2 with
   | int j=>
    have q2:Po Y rI _ H2 (if -1000000 < i/\i < 1000000/\ -1000000 < j/\j < 1000000 then .ok (rng i (j - i).toNat) else .bad) R:=q2
    split at q2
    ·rename_i hj
     exact ⟨i,j,rfl,⟨by omega,by omega,by omega,by omega⟩,Jo I2 q2 XV⟩
    ·exact q2.elim
   | _=>exact q2.elim
  | _=>cases r2 <;> exact q2.elim
noncomputable def SndG (X:Cx) (Y:Fx) (tg:Expr) (g:T->En->R En):Prop:=∃ t:TG,PG X tg t/\∀ B ρ σ H v x Q,SI Y B ρ σ H->Rep B v x->(match g x ρ with | .ok ρ' =>∀ σ',SI Y B ρ' σ' H->Q σ' H | _=>False)->t v σ H Q
noncomputable def zD (i:Nat):T->En->R En:=fun t ρ=> .ok (ρ.set i (.vl t))
theorem Jq {i:Nat} {x:Str} (hN:X.N.Nodup) (hi:X.N[i]? =some x) (hx:L2.Loc X.env.scope x) (hf:X.fn x=true\/X.env.scope.names.lookup x=some .local:=by first | exact .inl rfl | exact .inr rfl | assumption):SndG X Y (.Name x pos) (zD i):=
 ⟨Qu i,Z1 hN hi hx hf,fun B ρ σ H v x Q I r q=>q _ (I.setV i r)⟩
noncomputable def jF (i j:Nat):T->En->R En:=fun t ρ=>match t with
 | .tup [x,y]=> .ok ((ρ.set i (.vl x)).set j (.vl y))
 | _=> .bad
noncomputable def jW (g:T->En->R En) (fb:En->RS):List T->En->RS
 | [],ρ=> .nx ρ
 | t :: ts,ρ=>match g t ρ with
  | .ok ρ1=>match fb ρ1 with
   | .nx ρ2=>jW g fb ts ρ2
   | .ct ρ2=>jW g fb ts ρ2
   | .bk ρ2=> .nx ρ2
   | r=>r
  | .ex c=> .bad
  | .bad=> .bad
noncomputable def JY (fi:En->R (List T)) (g:T->En->R En) (fb:En->RS):En->RS:=fun ρ=>(fi ρ).s fun ts=>jW g fb ts ρ
theorem Wr {iter:Expr} {sts:List Stmt} {fi:En->R (List T)} {g:T->En->R En} {fb:En->RS} (hp:PassesOwn (model X.prog X.w) X.A X.env X.xe) (hc:X.calm=true) (hi:V9 X Y tg iter fi) (hg:SndG X Y tg g) (hb:QH X Y sts fb)
  (hs:∀ x,foldedSetIterable iter X.env x=pure x:=by intro _; rfl):yY X Y (.For tg iter sts [] pos) (JY fi g fb):= .mk fun ρ=>by
 obtain ⟨tG,hG,hG'⟩:=hg
 refine PS.imp (gF (tb:=fun D σ H=>∃ ρ',tSS Y fb ρ' D σ H) hp hc (hi ρ) hG (fun pins s σ H D I ⟨ρ',q⟩=>hb ρ' pins s σ H D I q) hs) fun D σ H ⟨B,I,q⟩=> ?_
 refine UY I q fun ts J H1 _ s1 r1 I1 q1=> ?_
 refine ⟨fun i m σ' H' =>m=ts.length - i/\i<=ts.length/\∃ ρ' B',SI Y B' ρ' σ' H' /\zS (Zl B H H1) B' /\PoS Y B' (jW g fb (ts.drop i) ρ') D,⟨ts.length,by simp,Nat.zero_le _,ρ,_,I1,zS.refl _,q1⟩, ?_⟩
 rintro i m σ' H' ⟨rfl,hi,ρ',B',I',sB',q'⟩
 obtain ⟨hgo,hyld,hstop⟩:=r1 B' H' sB' I'.sB
 by_cases hlt:i < ts.length
 ·refine .inr ⟨hgo i hlt,fun σ2 H2=>∃ ρ2 B2,SI Y B2 ρ2 σ2 H2/\zS (Zl B H H1) B2/\PoS Y B2 (jW g fb (ts.drop (i+1)) ρ2) D,fun σ2 H2 ⟨ρ2,B2,I2,s2,q2⟩=>⟨ts.length - (i+1),by omega,rfl,hlt,ρ2,B2,I2,s2,q2⟩,fun x H2 y=> ?_⟩
  obtain ⟨s2,r2⟩:=hyld i _ x H2 (List.getElem?_eq_getElem hlt) y
  rw [List.drop_eq_getElem_cons hlt] at q'
  unfold jW at q'
  refine hG' _ ρ' σ' H2 x _ _ (I'.grow s2) r2 ?_
  cases eg:g ts[i] ρ' with
  | bad=>rw [eg] at q'; exact q'
  | ex c=>rw [eg] at q'; exact q'
  | ok ρ1=>
   rw [eg] at q'
   intro σ1 J1
   refine ⟨ρ1,_,J1, ?_⟩
   have q2:=PoS.up (Zl.ge I'.sB s2) q'
   dsimp only at q2
   have s3:zS (Zl B H H1) (Zl B' H' H2):=sB'.trans (Zl.ge I'.sB s2)
   revert q2
   cases fb ρ1 with
   | nx ρ2=>exact fun q2 σ3 H3 B3 s4 I3=>⟨ρ2,B3,I3,s3.trans s4,PoS.up s4 q2⟩
   | ct ρ2=>exact fun q2 σ3 H3 B3 s4 I3=>⟨ρ2,B3,I3,s3.trans s4,PoS.up s4 q2⟩
   | bk ρ2=>exact fun q2=>q2
   | rt t=>exact fun q2=>q2
   | rf t=>exact fun q2=>q2
   | ex c=>exact fun q2=>q2
   | bad=>exact fun q2=>q2
 ·have e:i=ts.length:=by omega
  subst e
  rw [List.drop_length] at q'
  exact .inl ⟨hstop _ (Nat.le_refl _),q' σ' H' B' (zS.refl _) I'⟩
end
end PV
namespace PV
open PySem PySem.Spec PyProof.Rows L2
theorem uK {env:Env}:∀ (ns:List (Str×NameKind)) (acc:List (Str×Addr)),(∀ x∈ns,x.2=NameKind.free->∃ c,env.cells.lookup x.1=some c)->(∀ x c,acc.lookup x=some c->env.cells.lookup x=some c)->
  ∃ cl,(forIn ns acc (fun (x:Str×NameKind) (r:List (Str×Addr))=>if (x.2 == NameKind.free)=true then (do let c ← cellOf env x.1; pure (ForInStep.yield ((x.1,c) :: r))) else pure (ForInStep.yield r)):Sem _)=pure cl/\
   (∀ x c,cl.lookup x=some c->env.cells.lookup x=some c)/\(∀ x c,acc.lookup x=some c->∃ c',cl.lookup x=some c')/\(∀ x∈ns,x.2=NameKind.free->∃ c,cl.lookup x.1=some c)
 | [],acc,_,h=>⟨acc,rfl,h,fun x c e=>⟨c,e⟩,fun x hx=>by simp at hx⟩
 | (n,k) :: ns,acc,hf,h=>by
  by_cases hk:k=NameKind.free
  ·obtain ⟨c,hc⟩:=hf (n,k) List.mem_cons_self hk
   have h' :∀ x d,((n,c) :: acc).lookup x=some d->env.cells.lookup x=some d:=fun x d e=>by
    by_cases hx:x=n
    ·subst hx
     have e' :some c=some d:=by simpa [List.lookup_cons] using e
     cases e'; exact hc
    ·have e' :acc.lookup x=some d:=by
      rw [List.lookup_cons,(beq_eq_false_iff_ne.mpr hx)] at e; exact e
     exact h x d e'
   obtain ⟨cl,e,h1,h2,h3⟩:=uK ns ((n,c) :: acc) (fun x hx=>hf x (List.mem_cons_of_mem _ hx)) h'
   refine ⟨cl, ?_,h1,fun x d ed=> ?_,fun x hx hxf=> ?_⟩
   ·rw [List.forIn_cons]
    subst hk
    have q:cellOf env n=pure c:=by unfold cellOf; rw [hc]
    simp only [beq_self_eq_true,if_true,q]
    exact e
   ·by_cases hx:x=n
    ·subst hx; exact h2 x c (by simp [List.lookup_cons])
    ·exact h2 x d (by rw [List.lookup_cons,(beq_eq_false_iff_ne.mpr hx)]; exact ed)
   ·rcases List.mem_cons.mp hx with rfl | hx
    ·exact h2 n c (by simp [List.lookup_cons])
    ·exact h3 x hx hxf
  ·obtain ⟨cl,e,h1,h2,h3⟩:=uK ns acc (fun x hx=>hf x (List.mem_cons_of_mem _ hx)) h
   refine ⟨cl, ?_,h1,h2,fun x hx hxf=> ?_⟩
   ·rw [List.forIn_cons]
    have q:(k == NameKind.free)=false:=by simpa using hk
    simp only [q,Bool.false_eq_true,if_false]
    exact e
   ·rcases List.mem_cons.mp hx with rfl | hx
    ·exact absurd hxf hk
    ·exact h3 x hx hxf
theorem kU {scope:Scope} {env:Env} (hf:∀ x∈scope.names,x.2=NameKind.free->∃ c,env.cells.lookup x.1=some c):
  ∃ cl,closureFor scope env=pure cl/\(∀ x c,cl.lookup x=some c->env.cells.lookup x=some c)/\(∀ x∈scope.names,x.2=NameKind.free->∃ c,cl.lookup x.1=some c):=by
 obtain ⟨cl,e,h1,_,h3⟩:=uK scope.names [] hf (fun x c e=>by simp at e)
 refine ⟨cl, ?_,h1,h3⟩
 unfold closureFor
 show (do let cs ← _; pure cs)=_
 exact (by simpa using e)
noncomputable def cxC (X:Cx) (scope:Scope) (N' :List Str) (cl:List (Str×Addr)) (C:Addr) (s3:Shared) (H3:Hp) (fp:List Addr) (pins:List (Addr×Obj)):Cx:=
 { X with N:=N',s₀:=s3,H₀:=H3,env:=compEnvC scope cl C X.env,outer:=X.stack,stack:=X.stack,ex:=fp,fn:=fun _=>false,pn:=X.pn++pins,xe:=fun _ _=>False }
structure CSc (X:Cx) (scope:Scope):Prop where
 kind:scope.kind= .function
 nocell:∀ x∈scope.names,x.2 ≠ .cell
 loc:∀ x∈scope.names,x.2= .local->scope.names.lookup x.1=some .local
 fre:∀ x∈scope.names,x.2= .free->X.env.kindOf x.1=some .cell\/X.env.kindOf x.1=some .free
theorem Ws {scope:Scope} {env:Env} {x:Str} {k:NameKind} (h:(relabel scope env).names.lookup x=some k) (hk:k= .cell\/k= .free) (hn:∀ x∈scope.names,x.2 ≠ NameKind.cell):∃ y∈scope.names,y.1=x/\y.2= .free:=by
 have go:∀ ns:List (Str×NameKind),(∀ x∈ns,x.2 ≠ NameKind.cell)->(ns.map fun (n,k)=>if (k == NameKind.free && env.scope.kind == .function && env.kindOf n == some .cell) then (n,NameKind.cell) else (n,k)).lookup x=some k->∃ y∈ns,y.1=x/\y.2= .free:=by
  intro ns
  induction ns with
  | nil=>intro _ h; simp at h
  | cons y ns ih=>
   intro hn h
   obtain ⟨n,k'⟩:=y
   by_cases hx:x=n
   ·subst hx
    refine ⟨(x,k'),List.mem_cons_self,rfl, ?_⟩
    rw [List.map_cons] at h
    by_cases hc:(k' == NameKind.free && env.scope.kind == .function && env.kindOf x == some .cell)=true
    ·rw [Bool.and_eq_true,Bool.and_eq_true] at hc
     exact eq_of_beq hc.1.1
    ·simp only [if_neg hc,List.lookup_cons,beq_self_eq_true] at h
     cases h
     rcases hk with rfl | rfl
     ·exact absurd rfl (hn _ List.mem_cons_self)
     ·rfl
   ·obtain ⟨z,hz,h1,h2⟩:=ih (fun z hz=>hn z (List.mem_cons_of_mem _ hz)) (by
     rw [List.map_cons] at h
     by_cases hc:(k' == NameKind.free && env.scope.kind == .function && env.kindOf n == some .cell)=true
     ·simp only [if_pos hc,List.lookup_cons,(beq_eq_false_iff_ne.mpr hx)] at h; exact h
     ·simp only [if_neg hc,List.lookup_cons,(beq_eq_false_iff_ne.mpr hx)] at h; exact h)
    exact ⟨z,List.mem_cons_of_mem _ hz,h1,h2⟩
 exact go scope.names hn h
section
variable {X:Cx} {pins:List (Addr×Obj)} {σ:Sg} {H:Hp} {s:Shared}
theorem Va {scope:Scope} {N' :List Str} {cl:List (Str×Addr)} {fp:List Addr} {h' :Heap} {tk:Nat} {σ' :Sg} (I:L2.Inv X pins σ H s) (S:CSc X scope) (hc:X.calm=true)
  (hcl:∀ x c,cl.lookup x=some c->X.env.cells.lookup x=some c) (hcf:∀ x∈scope.names,x.2=NameKind.free->∃ c,cl.lookup x.1=some c)
  (hfp:∀ b∈fp,YI X pins H b) (hfo:∀ b∈fp,∃ o,s.heap.get? b=some o)
  (hns:h'.Ns s.heap.objs.size (fun _=>none)) (hk:∀ b o,s.heap.get? b=some o->h'.get? b=some o)
  (hl:σ'.length=N'.length) (hσ:∀ (i:Nat) (x:Str) (v:V),N'[i]? =some x->σ'[i]? =some (some v)->∃ j:Nat,X.N[j]? =some x/\σ[j]? =some (some v)/\Vis X.env.scope x/\(scope.names.lookup x=some .free)/\(X.env.kindOf x=some .cell\/X.env.kindOf x=some .free)):
  L2.Inv (cxC X scope N' cl s.heap.objs.size s H fp pins) [] σ' H { s with heap:=h',toks:=tk }:=by
 have stk:=I.stkSub
 have hlt:∀ b∈fp,b < s.heap.objs.size:=fun b hb=>let ⟨o,e⟩:=hfo b hb; Heap.lt_size e
 have fresh:H s.heap.objs.size=none:=I.hok.fresh (Nat.le_refl _)
 refine ⟨⟨I.ok.mod,S.kind,I.ok.glob,I.ok.blt,Nat.le_refl _,fun x y c h1 h2=>I.ok.inj x y c (hcl _ _ h1) (hcl _ _ h2),fun x hx=> ?_,fun x c h _=>(Bool.false_ne_true h).elim,fun _=>I.ok.hd hc,I.ok.frames, .inl rfl,fun b hb=> ?_,I.bs,
   Nat.le_trans I.ok.bsz I.sz,fun b o e hb=> ?_,fun b hb hb' => ?_,I.stack,I.stkFree⟩,rfl,I.bare,Un.kept hk,⟨_,hns,fun i x v h1 h2 h3=> ?_⟩,fun x c e=> ?_,fresh,fun x c e=>I.freeC x c (hcl _ _ e),fun p hp=> ?_,I.hok.kept hk,hl⟩
 ·have hx' :(relabel scope X.env).names.lookup x=some .cell\/(relabel scope X.env).names.lookup x=some .free:=hx
  obtain ⟨y,hy,rfl,hyf⟩:∃ y∈scope.names,y.1=x/\y.2= .free:=by
   rcases hx' with h | h
   ·exact Ws h (.inl rfl) S.nocell
   ·exact Ws h (.inr rfl) S.nocell
  exact hcf y hy hyf
 ·refine ⟨Nat.ne_of_lt (hlt b hb),fun x c e=>(hfp b hb).2.2.2.2.1 x c (hcl _ _ e)⟩
 ·rcases (hfp b hb).2.2.2.1 with h | h
  ·exact I.ok.noex b o e h
  ·exact absurd (Nat.lt_of_lt_of_le (Heap.lt_size e) (Nat.le_trans I.ok.bsz h)) (Nat.lt_irrefl _)
 ·have q:=hfp b hb
  rcases List.mem_cons.mp (stk b hb') with z | z
  ·exact q.2.1 z
  ·exact q.2.2.1 z
 ·obtain ⟨j,e1,e2,e3,e4,e5⟩:=hσ i x v h1 h2
  obtain ⟨m,hn,hloc⟩:=I.loc
  obtain ⟨u,ru,lk⟩:=hloc j x v e1 e2 e3
  refine ⟨u,ru, .inr ⟨?_, ?_⟩⟩
  ·have h3:Vis (relabel scope X.env) x:=h3
   rcases h3 with h | h | h
   ·exfalso
    have:∀ ns:List (Str×NameKind),ns.lookup x=some .free->(ns.map fun (n,k)=>if (k == NameKind.free && X.env.scope.kind == .function && X.env.kindOf n == some .cell) then (n,NameKind.cell) else (n,k)).lookup x ≠ some .local:=by
     intro ns
     induction ns with
     | nil=>intro z; simp at z
     | cons y ns ih=>
      obtain ⟨n,k⟩:=y
      intro z w
      rw [List.map_cons] at w
      by_cases hx:x=n
      ·subst hx
       have hkf:some k=some NameKind.free:=by simpa [List.lookup_cons] using z
       by_cases hcn:(k == NameKind.free && X.env.scope.kind == .function && X.env.kindOf x == some .cell)=true
       ·simp only [if_pos hcn,List.lookup_cons,beq_self_eq_true] at w; cases w
       ·simp only [if_neg hcn,List.lookup_cons,beq_self_eq_true] at w
        rw [hkf] at w; cases w
      ·have z' :ns.lookup x=some .free:=by rw [List.lookup_cons,(beq_eq_false_iff_ne.mpr hx)] at z; exact z
       refine ih z' ?_
       by_cases hcn:(k == NameKind.free && X.env.scope.kind == .function && X.env.kindOf n == some .cell)=true
       ·simp only [if_pos hcn,List.lookup_cons,(beq_eq_false_iff_ne.mpr hx)] at w; exact w
       ·simp only [if_neg hcn,List.lookup_cons,(beq_eq_false_iff_ne.mpr hx)] at w; exact w
    exact this _ e4 h
   ·exact .inl h
   ·exact .inr h
  ·rcases lk with ⟨hk',_⟩ | ⟨_,c,hc',hcell⟩
   ·rcases e5 with z | z <;> (rw [z] at hk'; cases hk')
   ·obtain ⟨c',hc2⟩:=hcf (x, .free) (PySem.mem_of_lookup e4) rfl
    have:=hcl x c' hc2
    rw [hc'] at this; cases this
    obtain ⟨o,eo,ed⟩:=hcell
    exact ⟨c,hc2,o,hk _ _ eo,ed⟩
 ·obtain ⟨v,o,eo,ed⟩:=I.cell x c (hcl _ _ e)
  exact ⟨v,o,hk _ _ eo,ed⟩
 ·have hp' :p∈X.pn++pins:=by
   have:p∈(X.pn++pins)++[]:=hp
   rwa [List.append_nil] at this
  obtain ⟨e,n,ne,nf,dc⟩:=I.pin p hp'
  refine ⟨hk _ _ e,n,Nat.ne_of_lt (Heap.lt_size e),fun hb=> ?_,dc⟩
  rcases List.mem_cons.mp (stk _ hb) with z | z
  ·exact ne z
  ·exact nf z
end
end PV
namespace PV
open PySem PySem.Spec PyProof.Rows L2
noncomputable def PIf (X:Cx) (ifs:List Expr) (t:TT):Prop:=
 ∀ (pins:List (Addr×Obj)) (s:Shared) (σ:Sg) (H:Hp) (Q:Bool->Hp->Prop),L2.Inv X pins σ H s->t σ H Q->
  wpAny (model X.prog X.w) X.A (forIn ifs true fun c r=>if r=true then do let ok ← isTrue c X.env (eval c X.env); pure (ForInStep.yield ok) else pure (ForInStep.yield r)) (TP X pins σ Q) X.xe s
theorem kW {X:Cx}:PIf X [] (fun _ H Q=>Q true H):=fun _ _ σ H _ I h=>wpAny_tests_nil ⟨H,I,h⟩
theorem kX {X:Cx} {c:Expr} {t:TT} (h:PT X c t):PIf X [c] t:=fun pins s σ H Q I q=>wpAny_tests_one (h pins s σ H Q I q)
theorem UZ {α:Type} {M:Model} {A:Around} {m:Sem α} {Q:α->Shared->Prop} {E E' :Value->Shared->Prop} {s:Shared} (hE:E' =fun _ _=>False) (h:wpAny M A m Q E' s):wpAny M A m Q E s:=wpAny_mono h (fun _ _ q=>q) fun e s' z=>by
 rw [hE] at z; exact z.elim
noncomputable def kY (J:It) (D:Addr) (g:TG) (tt:TT) (te:TE) (fin:Sg->Hp->Prop) (W:Nat->Nat->List V->Sg->Hp->Prop):Prop:=
 ∀ i m ys σ H,W i m ys σ H->H D=some (.lst ys)/\((J.stop i H/\fin σ H)\/(J.go i H/\∀ x H2,J.yld i H x H2->g x σ H2 fun σ3 H3=>tt σ3 H3 fun k H4=>
  if k=true then te σ3 H4 fun v H5=>H5 D=some (.lst ys)/\ys.length < sizeLine/\∃ m',m' < m/\W (i+1) m' (ys++[v]) σ3 (upd H5 D (.lst (ys++[v]))) else ∃ m',m' < m/\W (i+1) m' ys σ3 H4))
theorem Vb {X:Cx} (hx:X.xe=fun _ _=>False) (hc:X.calm=true) {tg iter elt:Expr} {ifs:List Expr} {scope:Scope} {pos:Pos} {J:It} {fp:List Addr} {it:Addr} {tn:Nat->Heap->Prop} (TJ:xy X.prog X.w X.K tg J fp it tn)
  {g:TG} {tt:TT} {te:TE} (hg:PG X tg g) (ht:PIf X ifs tt) (he:PE X elt te) {D:Addr} {R:Result->Shared->Prop} {fin:Sg->Hp->Prop} (W:Nat->Nat->List V->Sg->Hp->Prop) (turn:kY J D g tt te fin W)
  (hR:∀ s σ H,L2.Inv X [] σ H s->fin σ H->R (.ok .next) s) {m0:Nat} {σ0:Sg} {H0:Hp} {s0:Shared} (w0:W 0 m0 [] σ0 H0) (I0:L2.Inv X [] σ0 H0 s0) (t0:tn 0 s0.heap) (f0:∀ b∈fp,YI X [] H0 b):
  codeAny (model X.prog X.w) X.A (.compLoop (.ListComp elt [⟨tg,iter,ifs,0⟩] scope pos) 0 (.ref it) (.ref D) X.env) R s0:=by
 have stat:∀ {H' :Hp},(∀ b∈fp,H' b=none)->∀ b∈fp,YI X [] H' b:=fun hn b hb=>⟨hn b hb,(f0 b hb).2⟩
 refine codeAny_loop rfl (fun n s' =>∃ i ys σ' H',L2.Inv X [] σ' H' s' /\tn i s'.heap/\(∀ b∈fp,H' b=none)/\W i n ys σ' H') (fun n s3 h3=> ?_) m0 ⟨0,[],σ0,H0,I0,t0,fun b hb=>(f0 b hb).1,w0⟩
 obtain ⟨i,ys,σ3,H3,I3,st3,fr3,w3⟩:=h3
 show wpAny _ X.A ((compTurn (.ListComp elt [⟨tg,iter,ifs,0⟩] scope pos) 0 (.ref it) (.ref D) X.env).onRaise (fun x=>do noteFrame x X.env; theTreesLotGoes x)) _ _ s3
 refine wpAny_noted ?_
 rw [compTurn_list]
 obtain ⟨hD,h⟩:=turn i n ys σ3 H3 w3
 rcases h with ⟨stop,qn⟩ | ⟨go,next⟩
 ·refine wpAny_bind (wpAny_standAt (wpAny_bind (thn (TJ.done X rfl rfl rfl hc i [] s3 σ3 H3 _ I3 (stat fr3) st3 stop) fun r s4 ⟨hr,I4⟩=> ?_)))
  subst hr
  exact wpAny_pure (hR s4 σ3 H3 I4 qn)
 ·refine wpAny_bind (wpAny_standAt (wpAny_bind (thn (TJ.item X rfl rfl rfl hc i [] s3 σ3 H3 _ I3 (stat fr3) st3 go) fun r s4 ⟨u,hr,h4⟩=> ?_)))
  subst hr
  refine wpAny_bind (thn h4 fun _ s5 ⟨x,H5,I5,r5,y5,st5,fr5⟩=> ?_)
  have I5' :=I5.pinned (stat fr5) (TJ.obj _ _ st5)
  refine wpAny_bind (UZ hx (thn (hg _ s5 σ3 H5 x u _ I5' r5 (next x H5 y5)) fun _ s6 ⟨σ6,H6,I6,q6⟩=> ?_))
  have again:∀ {σ7:Sg} {H7:Hp} {s7:Shared} {ys' :List V},L2.Inv X ([]++yK fp s5.heap) σ7 H7 s7->(∃ m',m' < n/\W (i+1) m' ys' σ7 H7)->∃ m,m < n/\∃ i ys σ' H',L2.Inv X [] σ' H' s7/\tn i s7.heap/\(∀ b∈fp,H' b=none)/\W i m ys σ' H' :=fun {σ7 H7 s7 ys'} I7 ⟨m',hm,w7⟩=>by
   refine ⟨m',hm,i+1,ys',σ7,H7,I7.unpinned,TJ.keep _ _ _ st5 fun b hb o e=>(I7.pin (b,o) (List.mem_append_right _ (List.mem_append_right _ (wR hb e)))).1,fun b hb=> ?_,w7⟩
   obtain ⟨o,e,d⟩:=TJ.obj _ _ st5 b hb
   exact (I7.pin (b,o) (List.mem_append_right _ (List.mem_append_right _ (wR hb e)))).2.1
  refine wpAny_bind (UZ hx (thn (ht _ s6 σ6 H6 _ I6 q6) fun k s7 ⟨H7,I7,q7⟩=> ?_))
  cases k with
  | false=>exact wpAny_pure ⟨rfl,again I7 q7⟩
  | true=>
   refine wpAny_bind (wpAny_bind (UZ hx (thn (he _ s7 σ6 H7 _ I7 q7) fun v s8 ⟨y,H8,I8,r8,hD8,hlen,q8⟩=> ?_)))
   refine wpAny_bind (UZ hx (thn (yS _ s8 σ6 H8 (.ref D) [y] (.ref D) [v] (fun _ H9=>∃ m',m' < n/\W (i+1) m' (ys++[y]) σ6 H9) I8 rfl (.cons r8 .nil) ⟨D,ys,y,rfl,rfl,hD8,hlen,q8⟩) fun w s9 ⟨_,H9,I9,_,q9⟩=> ?_))
   exact wpAny_pure (wpAny_pure ⟨rfl,again I9 q9⟩)
noncomputable def XW (k:Nat) (js:List Nat) (σ:Sg):Sg:=List.replicate k none++js.map fun j=>(σ[j]?).getD none
section
variable {X:Cx}
noncomputable abbrev xS (X:Cx) (scope:Scope) (N' :List Str) (P:Cx->Prop):Prop:=∀ cl C s3 H3 fp pins,P (cxC X scope N' cl C s3 H3 fp pins)
structure z0W (X:Cx) (scope:Scope) (N' :List Str) (k:Nat) (js:List Nat):Prop where
 len:N'.length=k+js.length
 cap:∀ (i j:Nat),js[i]? =some j->∃ x,N'[k+i]? =some x/\X.N[j]? =some x/\Vis X.env.scope x/\scope.names.lookup x=some .free/\(X.env.kindOf x=some .cell\/X.env.kindOf x=some .free)
theorem qV {tg iter elt:Expr} {ifs:List Expr} {scope:Scope} {pos pos' :Pos} {N' :List Str} {k:Nat} {js:List Nat} {wi:TI} {g:TG} {tt:TT} {te:TE} {use:Option (Value->Sem Unit)} (S:CSc X scope) (CP:z0W X scope N' k js) (hc:X.calm=true)
  (hi:PI X tg iter wi) (hg:xS X scope N' fun XC=>PG XC tg g) (ht:xS X scope N' fun XC=>PIf XC ifs tt) (he:xS X scope N' fun XC=>PE XC elt te) {pins:List (Addr×Obj)} {σ:Sg} {H:Hp} {s:Shared} {Q:Value->Shared->Prop} {F:Addr->Hp->Prop} (I:L2.Inv X pins σ H s)
  (h:wi σ H fun J H1=>∀ D,H1 D=none->∃ W,(∃ m,W 0 m [] (XW k js σ) (upd H1 D (.lst [])))/\kY J D g tt te (fun _ H' =>F D H') W)
  (hQ:∀ D C H' s',L2.Inv X pins σ H' s' ->F D H' ->H' C=none->(X.s₀.heap.objs.size<=C)->C ≠ X.env.locals->(∀ x c,X.env.cells.lookup x=some c->c ≠ C)->(∀ p∈X.pn++pins,p.1 ≠ C)->(∃ m,s'.heap.Ns C m)->compPost (model X.prog X.w) X.A X.xe use Q (.ref D) C (.ok .next) s')
  (hs:∀ x,foldedSetIterable iter X.env x=pure x:=by intro _; rfl):
  wpAny (model X.prog X.w) X.A (comprehension (.ListComp elt [⟨tg,iter,ifs,0⟩] scope pos) scope X.env pos' (newList []) false (eval iter X.env) use) Q X.xe s:=by
 obtain ⟨cl,ecl,hcl,hcf⟩:=kU (scope:=scope) (env:=X.env) fun x hx hf=>I.ok.has x.1 (S.fre x hx hf)
 refine wpAny_comprehension_free rfl hs ecl S.kind S.loc ?_
 refine thn (hi pins s σ H _ I h) fun v s1 h1=>thn h1 fun itv s2 h2=> ?_
 obtain ⟨it,fp,tn,J,H2,e,I2,TJ,st2,f2,q2⟩:=h2
 subst e
 refine wpAny_newObj_type ?_
 have hD:H2 s2.heap.objs.size=none:=I2.hok.fresh (Nat.le_refl _)
 have I3:L2.Inv X pins σ (upd H2 s2.heap.objs.size (.lst [])) { s2 with heap:=s2.heap.push { cls:= .type "list",data:= .seq ([]:List Value).toArray } }:=
  I2.laid (t' :=s2.toks) (fun b u e=>Heap.get?_push_of_some _ e) (Nat.le_refl _) ⟨Nat.zero_le _,[],_, .nil,Heap.get?_push_size _ rfl⟩
 obtain ⟨W,⟨m0,w0⟩,turn⟩:=q2 s2.heap.objs.size hD
 have f3:∀ b∈fp,YI X pins (upd H2 s2.heap.objs.size (.lst [])) b:=fun b hb=>by
  obtain ⟨o,eo,_⟩:=TJ.obj _ _ st2 b hb
  exact ⟨by rw [zJ (Nat.ne_of_lt (Heap.lt_size eo))]; exact (f2 b hb).1,(f2 b hb).2⟩
 have o3:∀ b∈fp,∃ o,(s2.heap.push { cls:= .type "list",data:= .seq ([]:List Value).toArray }).get? b=some o:=fun b hb=>by
  obtain ⟨o,eo,_⟩:=TJ.obj _ _ st2 b hb
  exact ⟨o,Heap.get?_push_of_some _ eo⟩
 refine wpAny_newFunctionEnv S.nocell (by intro y hy; simp at hy) (fun h4 hns4 hsb4=> ?_) S.kind
 generalize hG:s2.heap.push { cls:= .type "list",data:= .seq ([]:List Value).toArray }=G3 at I3 o3 hns4 hsb4 ⊢
 dsimp only at hns4 hsb4 ⊢
 have s3e:∃ s3:Shared,s3={ s2 with heap:=G3 }:=⟨_,rfl⟩
 obtain ⟨s3,es3⟩:=s3e
 have hh3:s3.heap=s2.heap.push { cls:= .type "list",data:= .seq ([]:List Value).toArray }:=by rw [es3,hG]
 have hg3:G3=s3.heap:=by rw [es3]
 rw [← es3] at I3
 have ht3:s2.toks=s3.toks:=by rw [es3]
 rw [hg3] at hns4 hsb4 o3
 have k4:∀ b o,s3.heap.get? b=some o->h4.get? b=some o:=fun b o e=>hsb4.extBut b o (Nat.ne_of_lt (Heap.lt_size e)) (Heap.get?_push_of_some _ e)
 have IC:=Va (N' :=N') (cl:=cl) (fp:=fp) (σ' :=XW k js σ) (tk:=s3.toks+([]:List (Str×Value)).length) I3 S hc hcl hcf f3 o3 hns4 k4 (by unfold XW; simp [CP.len]) (fun i x v h1 h2=>by
  unfold XW at h2
  by_cases hik:i < k
  ·rw [List.getElem?_append_left (by simpa using hik),List.getElem?_replicate,if_pos hik] at h2
   cases h2
  ·have hk' :k<=i:=by omega
   rw [List.getElem?_append_right (by simpa using hk'),List.length_replicate,List.getElem?_map] at h2
   cases ej:js[i - k]? with
   | none=>rw [ej] at h2; cases h2
   | some j=>
    rw [ej] at h2
    obtain ⟨y,e1,e2,e3,e4,e5⟩:=CP.cap (i - k) j ej
    have:k+(i - k)=i:=by omega
    rw [this,h1] at e1
    cases e1
    refine ⟨j,e2, ?_,e3,e4,e5⟩
    have h2' :some ((σ[j]?).getD none)=some (some v):=h2
    cases ez:σ[j]? with
    | none=>rw [ez] at h2'; cases h2'
    | some z=>rw [ez] at h2'; exact congrArg some (Option.some.inj h2'))
 have TC:xy (cxC X scope N' cl s3.heap.objs.size s3 (upd H2 s2.heap.objs.size (.lst [])) fp pins).prog (cxC X scope N' cl s3.heap.objs.size s3 (upd H2 s2.heap.objs.size (.lst [])) fp pins).w (cxC X scope N' cl s3.heap.objs.size s3 (upd H2 s2.heap.objs.size (.lst [])) fp pins).K tg J fp it tn:=TJ
 have t4:tn 0 h4:=TJ.keep _ _ _ st2 fun b hb o e=>k4 b o (by rw [hh3]; exact Heap.get?_push_of_some _ e)
 have fC:∀ b∈fp,YI (cxC X scope N' cl s3.heap.objs.size s3 (upd H2 s2.heap.objs.size (.lst [])) fp pins) [] (upd H2 s2.heap.objs.size (.lst [])) b:=fun b hb=>by
  obtain ⟨q0,q1,q2,q3,q4,q5⟩:=f3 b hb
  obtain ⟨o,eo⟩:=o3 b hb
  refine ⟨q0,Nat.ne_of_lt (Heap.lt_size eo),fun hb' => ?_, .inl hb,fun x c e=>q4 x c (hcl _ _ e),fun p hp=> ?_⟩
  ·rcases List.mem_cons.mp (I3.stkSub b hb') with z | z
   ·exact q1 z
   ·exact q2 z
  ·exact q5 p (by
    have:p∈(X.pn++pins)++[]:=hp
    rwa [List.append_nil] at this)
 have fin:∀ (s5:Shared) (σ5:Sg) (H5:Hp),L2.Inv (cxC X scope N' cl s3.heap.objs.size s3 (upd H2 s2.heap.objs.size (.lst [])) fp pins) [] σ5 H5 s5->F s2.heap.objs.size H5->compPost (model X.prog X.w) X.A X.xe use Q (.ref s2.heap.objs.size) s3.heap.objs.size (.ok .next) s5:=fun s5 σ5 H5 I5 q5=>by
  have J5:L2.Inv X pins σ H5 s5:=I3.call' (ch:=fp) I5.os I5.base I5.hok I5.bare fun b hb=>by
   obtain ⟨q0,q1,q2,q3,q4,q5⟩:=f3 b hb
   exact ⟨q3,q1,q4,q5⟩
  refine hQ _ _ H5 s5 J5 q5 I5.free I3.sz (Nat.ne_of_gt I3.lt) (fun x c e z=> ?_) (fun p hp z=> ?_) (let ⟨m,hm,_⟩:=I5.loc; ⟨m,hm⟩)
  ·obtain ⟨v',o,eo,_⟩:=I3.cell x c e
   exact absurd (Heap.lt_size eo) (by rw [z]; exact Nat.lt_irrefl _)
  ·exact absurd (Heap.lt_size (I3.pin p hp).1) (by rw [z]; exact Nat.lt_irrefl _)
 have loop:=Vb (X:=cxC X scope N' cl s3.heap.objs.size s3 (upd H2 s2.heap.objs.size (.lst [])) fp pins) (iter:=iter) (scope:=scope) (pos:=pos) (R:=compPost (model X.prog X.w) X.A X.xe use Q (.ref s2.heap.objs.size) s3.heap.objs.size) rfl hc TC (hg _ _ _ _ _ _) (ht _ _ _ _ _ _) (he _ _ _ _ _ _) W turn fin w0 IC t4 fC
 rw [es3] at loop
 exact codeAny_compStart_list loop (TJ.self _ _ _ _ _ t4 loop)
end
end PV
namespace PV
open PySem PySem.Spec PyProof.Rows L2
noncomputable def Z9 (g:T->En->R En) (ft:En->R Bool) (fe:En->R T):List T->En->R (List T)
 | [],_=> .ok []
 | t :: ts,ρ=>(g t ρ).bind fun ρ1=>(ft ρ1).bind fun k=>if k=true then (fe ρ1).bind fun v=>(Z9 g ft fe ts ρ1).bind fun vs=> .ok (v :: vs) else Z9 g ft fe ts ρ1
noncomputable def xT:Option Sl->Sl
 | some (.vl t)=> .vl t
 | _=> .un
noncomputable def yG (k:Nat) (js:List Nat) (ρ:En):En:=List.replicate k .un++js.map fun j=>xT ρ[j]?
noncomputable def quiet {α:Type}:R α->R α
 | .ok a=> .ok a
 | _=> .bad
noncomputable def Z3 (g:T->En->R En) (ft:En->R Bool) (fe:En->R T) (k:Nat) (js:List Nat) (ρ:En) (ts:List T):R (List T):=if ts.length<=bnd then quiet (Z9 g ft fe ts (yG k js ρ)) else .bad
noncomputable def Zk (fi:En->R (List T)) (g:T->En->R En) (ft:En->R Bool) (fe:En->R T) (k:Nat) (js:List Nat):En->R T:=fun ρ=>(fi ρ).bind fun ts=>(Z3 g ft fe k js ρ ts).bind fun vs=> .ok (.lst vs)
noncomputable def GOk (tG:TG) (g:T->En->R En):Prop:=∀ Y B ρ σ H v x Q,SI Y B ρ σ H->Rep B v x->(match g x ρ with | .ok ρ' =>∀ σ',SI Y B ρ' σ' H->Q σ' H | _=>False)->tG v σ H Q
theorem Zf (i:Nat):GOk (Qu i) (zD i):=fun Y B ρ σ H v x Q I r q=>q _ (I.setV i r)
theorem uu (K:PySem.W.Frag) (i j:Nat):GOk (gTup K 2 (kr (Qu i) (kr (Qu j) gNil))) (jF i j):=fun Y B ρ σ H v t Q I r q=>by
 cases r with
 | @tup l xs ts h r=>
  cases r with
  | nil=>exact q.elim
  | cons r1 rr=>
   cases rr with
   | nil=>exact q.elim
   | cons r2 rr=>
    cases rr with
    | cons _ _=>exact q.elim
    | nil=>exact ⟨l,_,rfl,SqT.of (I.sB _ _ h),rfl,_,_,rfl,_,_,rfl,rfl,q _ ((I.setV i r1).setV j r2)⟩
 | _=>exact q.elim
theorem SI.block {Y:Fx} {B:Hp} {ρ:En} {σ:Sg} {H H3:Hp} {D:Addr} (I:SI Y B ρ σ H) (k:Nat) (js:List Nat) (E:XK) (hD:H D=none) (o:HO):SI ⟨B,H,E,Y.cl⟩ B (yG k js ρ) (XW k js σ) (upd H D o) where
 s0:=I.sB
 sH:=zS.new hD _
 sB:=I.sB.trans (zS.new hD _)
 old:=fun _ _ _=>rfl
 len:=by unfold yG XW; simp
 vl:=fun i t h=>by
  unfold yG at h
  unfold XW
  by_cases hik:i < k
  ·rw [List.getElem?_append_left (by simpa using hik),List.getElem?_replicate,if_pos hik] at h; cases h
  ·have hk' :k<=i:=by omega
   rw [List.getElem?_append_right (by simpa using hk'),List.length_replicate,List.getElem?_map] at h ⊢
   cases ej:js[i - k]? with
   | none=>rw [ej] at h; cases h
   | some j=>
    rw [ej] at h
    have h' :xT ρ[j]? = .vl t:=Option.some.inj h
    unfold xT at h'
    split at h'
    ·rename_i u e
     cases h'
     obtain ⟨v,e1,r⟩:=I.vl j _ e
     exact ⟨v,by show some ((σ[j]?).getD none)=_; rw [e1]; rfl,r⟩
    ·cases h'
 ow:=fun i ts h=>by
  exfalso
  unfold yG at h
  by_cases hik:i < k
  ·rw [List.getElem?_append_left (by simpa using hik),List.getElem?_replicate,if_pos hik] at h; cases h
  ·have hk' :k<=i:=by omega
   rw [List.getElem?_append_right (by simpa using hk'),List.length_replicate,List.getElem?_map] at h
   cases ej:js[i - k]? with
   | none=>rw [ej] at h; cases h
   | some j=>
    rw [ej] at h
    have h' :xT ρ[j]? = .ow ts:=Option.some.inj h
    unfold xT at h'
    split at h' <;> cases h'
 xc:=fun i c h=>by
  exfalso
  unfold yG at h
  by_cases hik:i < k
  ·rw [List.getElem?_append_left (by simpa using hik),List.getElem?_replicate,if_pos hik] at h; cases h
  ·have hk' :k<=i:=by omega
   rw [List.getElem?_append_right (by simpa using hk'),List.length_replicate,List.getElem?_map] at h
   cases ej:js[i - k]? with
   | none=>rw [ej] at h; cases h
   | some j=>
    rw [ej] at h
    have h' :xT ρ[j]? = .xc c:=Option.some.inj h
    unfold xT at h'
    split at h' <;> cases h'
theorem SI.acc {Y:Fx} {B:Hp} {ρ:En} {σ:Sg} {H:Hp} {D:Addr} (I:SI Y B ρ σ H) (hb:B D=none) (h0:Y.H0 D=none) (ho:∀ (i:Nat) (ts:List T),ρ[i]? =some (Sl.ow ts)->σ[i]? ≠ some (some (V.ref D))) (o:HO):SI Y B ρ σ (upd H D o) where
 s0:=I.s0
 sH:=fun b u h=>by
  rw [zJ (fun z=>by subst z; rw [h0] at h; cases h)]; exact I.sH b u h
 sB:=fun b u h=>by
  rw [zJ (fun z=>by subst z; rw [hb] at h; cases h)]; exact I.sB b u h
 old:=I.old
 len:=I.len
 vl:=I.vl
 ow:=fun i ts h=>by
  obtain ⟨a,xs,e,b0,h0',hh,r,d⟩:=I.ow i ts h
  refine ⟨a,xs,e,b0,h0', ?_,r,d⟩
  rw [zJ (fun z=>ho i ts h (by rw [e,z]))]; exact hh
 xc:=I.xc
noncomputable def kZ (ρ:En):Prop:=∀ (i:Nat) (ts:List T),ρ[i]? ≠ some (Sl.ow ts)
theorem xU (k:Nat) (js:List Nat) (ρ:En):kZ (yG k js ρ):=fun i ts h=>by
 unfold yG at h
 by_cases hik:i < k
 ·rw [List.getElem?_append_left (by simpa using hik),List.getElem?_replicate,if_pos hik] at h; cases h
 ·have hk' :k<=i:=by omega
  rw [List.getElem?_append_right (by simpa using hk'),List.length_replicate,List.getElem?_map] at h
  cases ej:js[i - k]? with
  | none=>rw [ej] at h; cases h
  | some j=>
   rw [ej] at h
   have h' :xT ρ[j]? = .ow ts:=Option.some.inj h
   unfold xT at h'
   split at h' <;> cases h'
theorem y0 {ρ:En} {i:Nat} {t:T} (h:kZ ρ):kZ (ρ.set i (.vl t)):=fun j ts e=>by
 rcases Zc e with ⟨_,z⟩ | ⟨_,z⟩
 ·cases z
 ·exact h j ts z
noncomputable def GNo (g:T->En->R En):Prop:=∀ t ρ ρ',kZ ρ->g t ρ= .ok ρ' ->kZ ρ'
theorem Zg (i:Nat):GNo (zD i):=fun t ρ ρ' h e=>by
 cases e; exact y0 h
theorem uv (i j:Nat):GNo (jF i j):=fun t ρ ρ' h e=>by
 unfold jF at e
 split at e
 ·cases e; exact y0 (y0 h)
 ·cases e
section
variable {X:Cx} {Y:Fx} {tg iter elt:Expr} {ifs:List Expr} {scope:Scope} {pos pos' :Pos} {N' :List Str} {k:Nat} {js:List Nat} {fi:En->R (List T)} {tG:TG} {g:T->En->R En} {ft:En->R Bool} {fe:En->R T}
structure QJ (X:Cx) (Y:Fx) (ifs:List Expr) (f:En->R Bool):Prop where
 mk ::
 go:∀ ρ,PIf X ifs (tS Y rE f ρ)
noncomputable instance {X:Cx} {Y:Fx} {ifs:List Expr} {f:En->R Bool}:CoeFun (QJ X Y ifs f) fun _=>∀ ρ,PIf X ifs (tS Y rE f ρ):=⟨QJ.go⟩
theorem PIf.imp {X:Cx} {e:List Expr} {t t' :TT} (h:PIf X e t) (i:∀ σ H Q,t' σ H Q->t σ H Q):PIf X e t' :=fun pins s σ H Q I q=>h pins s σ H Q I (i σ H Q q)
noncomputable def ZP:En->R Bool:=fun _=> .ok true
theorem Jr {X:Cx}:QJ X Y [] ZP:= .mk fun ρ=>PIf.imp kW fun σ H Q ⟨B,I,q⟩=>Jo I q rfl
theorem uL {X:Cx} {c:Expr} (h:YJ X Y c ft):QJ X Y [c] ft:= .mk fun ρ=>kX (h ρ)
theorem yZ {B1 H1:Hp} {σ:Sg} {ρ:En} {J:It} {ts vs:List T} {D:Addr} (hG:GOk tG g) (hN:GNo g) (I:SI Y B1 ρ σ H1) (rI' :rI B1 H1 J ts) (hl:ts.length<=bnd) (ev:Z9 g ft fe ts (yG k js ρ)= .ok vs) (hD:H1 D=none) {F:Hp->Prop}
  (hF:∀ H' xs B',zS H1 H' ->H' D=some (.lst xs)->Z4 B' xs vs->zS B' (Zl B1 H1 H')->B' D=none->zS B1 B' ->F H'):
  ∃ W,(∃ m,W 0 m [] (XW k js σ) (upd H1 D (.lst [])))/\kY J D tG (fun σ H Q=>∃ Y' ρ',Y'.cl=Y.cl/\tS Y' rE ft ρ' σ H Q) (fun σ H Q=>∃ Y' ρ',Y'.cl=Y.cl/\tS Y' rC fe ρ' σ H Q) (fun _ H' =>F H') W:=by
 refine ⟨fun i m ys σ' H' =>m=ts.length - i/\i<=ts.length/\ys.length<=i/\H' D=some (.lst ys)/\∃ ρ' B' us ws,SI ⟨B1,H1,fun _ _ _=>False,Y.cl⟩ B' ρ' σ' H' /\kZ ρ' /\zS B1 B' /\B' D=none/\Z4 B' ys us/\Z9 g ft fe (ts.drop i) ρ' = .ok ws/\us++ws=vs,
  ⟨ts.length,by simp,Nat.zero_le _,Nat.zero_le _,Zu,_,B1,[],vs,I.block (H3:=H1) k js _ hD _,xU k js ρ,zS.refl _,I.sB.free hD, .nil,ev,rfl⟩, ?_⟩
 rintro i m ys σ' H' ⟨rfl,hi,hyl,hDl,ρ',B',us,ws,I',no',s1',bD,r',ew,eall⟩
 refine ⟨hDl, ?_⟩
 obtain ⟨hgo,hyld,hstop⟩:=rI' B' H' s1' I'.sB
 have tD:∀ H2,zS H' H2->Zl B' H' H2 D=none:=fun H2 s=>by rw [ZN hDl]; exact bD
 by_cases hlt:i < ts.length
 ·refine .inr ⟨hgo i hlt,fun x H2 y=> ?_⟩
  obtain ⟨s2,r2⟩:=hyld i _ x H2 (List.getElem?_eq_getElem hlt) y
  rw [List.drop_eq_getElem_cons hlt] at ew
  unfold Z9 at ew
  have I2:=I'.grow s2
  refine hG _ _ ρ' σ' H2 x _ _ I2 r2 ?_
  cases eg:g ts[i] ρ' with
  | bad=>rw [eg] at ew; cases ew
  | ex c=>rw [eg] at ew; cases ew
  | ok ρ1=>
   rw [eg] at ew
   have no1:kZ ρ1:=hN _ _ _ no' eg
   intro σ1 J1
   refine ⟨⟨B1,H1,fun _ _ _=>False,Y.cl⟩,ρ1,rfl,_,J1, ?_⟩
   have ew1:(ft ρ1).bind (fun k=>if k=true then (fe ρ1).bind fun v=>(Z9 g ft fe (ts.drop (i+1)) ρ1).bind fun vs=> .ok (v :: vs) else Z9 g ft fe (ts.drop (i+1)) ρ1)= .ok ws:=ew
   cases ef:ft ρ1 with
   | bad=>rw [ef] at ew1; cases ew1
   | ex c=>rw [ef] at ew1; cases ew1
   | ok kk=>
    rw [ef] at ew1
    intro b H3 s3 eb
    have eb' :b=kk:=eb
    subst eb'
    have ew2:(if b=true then (fe ρ1).bind fun v=>(Z9 g ft fe (ts.drop (i+1)) ρ1).bind fun vs=> .ok (v :: vs) else Z9 g ft fe (ts.drop (i+1)) ρ1)= .ok ws:=ew1
    have J2:=J1.grow s3
    have hD3:H3 D=some (.lst ys):=s3 _ _ (s2 _ _ hDl)
    have bD3:Zl (Zl B' H' H2) H2 H3 D=none:=by rw [ZN (s2 _ _ hDl)]; exact tD H2 s2
    have sB3:zS B' (Zl (Zl B' H' H2) H2 H3):=(Zl.ge I'.sB s2).trans (Zl.ge I2.sB s3)
    cases b with
    | false=>
     have ew3:Z9 g ft fe (ts.drop (i+1)) ρ1= .ok ws:=ew2
     exact ⟨ts.length - (i+1),by omega,rfl,hlt,by omega,hD3,ρ1,_,us,ws,J2,no1,s1'.trans sB3,bD3,r'.mono sB3,ew3,eall⟩
    | true=>
     refine ⟨⟨B1,H1,fun _ _ _=>False,Y.cl⟩,ρ1,rfl,_,J2, ?_⟩
     have ew3:(fe ρ1).bind (fun v=>(Z9 g ft fe (ts.drop (i+1)) ρ1).bind fun vs=> .ok (v :: vs))= .ok ws:=ew2
     cases ee:fe ρ1 with
     | bad=>rw [ee] at ew3; cases ew3
     | ex c=>rw [ee] at ew3; cases ew3
     | ok v=>
      rw [ee] at ew3
      have ew4:(Z9 g ft fe (ts.drop (i+1)) ρ1).bind (fun vs=> .ok (v :: vs))= .ok ws:=ew3
      cases el:Z9 g ft fe (ts.drop (i+1)) ρ1 with
      | bad=>rw [el] at ew4; cases ew4
      | ex c=>rw [el] at ew4; cases ew4
      | ok ws' =>
       rw [el] at ew4
       cases ew4
       intro w H4 s4 rw4
       have hD4:H4 D=some (.lst ys):=s4 _ _ hD3
       have J3:=J2.grow s4
       have bD4:Zl (Zl (Zl B' H' H2) H2 H3) H3 H4 D=none:=by rw [ZN hD3]; exact bD3
       have sB4:=sB3.trans (Zl.ge J2.sB s4)
       refine ⟨hD4,Nat.lt_of_lt_of_le (Nat.lt_of_le_of_lt hyl hlt) (JW hl),ts.length - (i+1),by omega,rfl,hlt,by rw [List.length_append,List.length_singleton]; omega,Zu,ρ1,_,us++[v],ws', ?_,no1,s1'.trans sB4,bD4,(r'.mono sB4).append (.cons rw4 .nil),el,by rw [List.append_assoc]; exact eall⟩
       exact J3.acc bD4 hD (fun j ts' e=>(no1 j ts' e).elim) _
 ·have e:i=ts.length:=by omega
  subst e
  refine .inl ⟨hstop _ (Nat.le_refl _), ?_⟩
  rw [List.drop_length] at ew
  cases ew
  rw [List.append_nil] at eall
  subst eall
  refine hF H' ys B' I'.sH hDl r' (fun b o h=> ?_) bD s1'
  cases q:H1 b with
  | none=>rw [ZI q]; exact I'.sB b o h
  | some u=>
   rw [ZN q]
   have z:B' b=B1 b:=I'.old b u q
   rw [← z]; exact h
structure Vc (X:Cx) (Y:Fx) (tg iter elt:Expr) (ifs:List Expr) (scope:Scope) (N' :List Str) (k:Nat) (js:List Nat) (fi:En->R (List T)) (tG:TG) (g:T->En->R En) (ft:En->R Bool) (fe:En->R T):Prop where
 sc:CSc X scope
 cp:z0W X scope N' k js
 cm:X.calm=true
 it:V9 X Y tg iter fi
 gt:xS X scope N' fun XC=>PG XC tg tG
 gk:GOk tG g
 gn:GNo g
 tt:∀ Y',Y'.cl=Y.cl->xS X scope N' fun XC=>QJ XC Y' ifs ft
 el:∀ Y',Y'.cl=Y.cl->xS X scope N' fun XC=>Snd XC Y' elt fe
 hs:∀ x,foldedSetIterable iter X.env x=pure x
theorem jl (C:Vc X Y tg iter elt ifs scope N' k js fi tG g ft fe):Snd X Y (.ListComp elt [⟨tg,iter,ifs,0⟩] scope pos) (Zk fi g ft fe k js):= .mk fun ρ=>by
 intro pins s σ H Q I ⟨B,J,q⟩
 rw [eval_ListComp]
 refine qV (use:=none) (Q:=EP X pins σ Q) (F:=fun D H' =>Q (.ref D) H') (te:=fun σ H Q=>∃ Y' ρ',Y'.cl=Y.cl/\tS Y' rC fe ρ' σ H Q) (tt:=fun σ H Q=>∃ Y' ρ',Y'.cl=Y.cl/\tS Y' rE ft ρ' σ H Q) C.sc C.cp C.cm (C.it ρ) C.gt
  (fun cl Cx' s3 H3 fp pins pins' s σ H Q I ⟨Y',ρ',ey,q⟩=>C.tt Y' ey cl Cx' s3 H3 fp pins ρ' pins' s σ H Q I q) (fun cl Cx' s3 H3 fp pins pins' s σ H Q I ⟨Y',ρ',ey,q⟩=>C.el Y' ey cl Cx' s3 H3 fp pins ρ' pins' s σ H Q I q) I ?_ ?_ C.hs
 ·refine step J q fun ts it' H1 _ s1 r1 J1 q1=> ?_
  intro D hD
  unfold Z3 at q1
  split at q1
  ·rename_i hl
   cases ev:Z9 g ft fe ts (yG k js ρ) with
   | bad=>rw [ev] at q1; exact q1.elim
   | ex c=>rw [ev] at q1; exact q1.elim
   | ok vs=>
    rw [ev] at q1
    refine yZ C.gk C.gn J1 r1 hl ev hD fun H' xs B' s' e' r' l' b' sb' => ?_
    refine (show Po Y rC _ H1 (.ok (.lst vs)) Q from q1) (.ref D) H' s' ?_
    exact .lst (by rw [ZI hD]; exact e') (r'.mono l')
  ·exact q1.elim
 ·intro D Cc H' s' I' q' hC h0 hL hcell hpin hns
  obtain ⟨m,hm⟩:=hns
  refine ⟨m,hm,fun h' hsb=>⟨.ref D,H', ?_,rfl,q'⟩⟩
  exact I'.turned (t' :=s'.toks) (fun b o hb e=>hsb.extBut b o hb e) hC (Ne.symm hL).symm (.inr h0) hcell hpin
end
end PV
namespace PV
open PySem PySem.Spec PyProof.Rows L2
section
variable {X:Cx} {Y:Fx} {tg iter elt:Expr} {ifs:List Expr} {scope:Scope} {pos pos' :Pos} {N' :List Str} {k:Nat} {js:List Nat} {fi:En->R (List T)} {tG:TG} {g:T->En->R En} {ft:En->R Bool} {fe:En->R T}
theorem Vd {i:Nat} {x:Str} {pc p' :Pos} (C:Vc X Y tg iter elt ifs scope N' k js fi tG g ft fe) (hN:X.N.Nodup) (hi:X.N[i]? =some x) (hx:L2.Loc X.env.scope x)
  (hsw:swapsWith (.ListComp elt [⟨tg,iter,ifs,0⟩] scope pc) (some (.Name x p')) pos.line X.env=pure true) (hf:X.fn x=true\/X.env.scope.names.lookup x=some .local:=by first | exact .inl rfl | exact .inr rfl | assumption):
  yY X Y (.Assign [.Name x p'] (.ListComp elt [⟨tg,iter,ifs,0⟩] scope pc) pos) (Z0 i (Zk fi g ft fe k js)):= .mk fun ρ=>by
 intro pins s σ H D I ⟨B,J,q⟩
 rw [exec_Assign_Name_used _ _ _ _ hsw]
 refine wpAny_bind (wpAny_standAt (wpAny_bind ?_))
 show wpAny _ X.A (do let _ ← comprehension (.ListComp elt [⟨tg,iter,ifs,0⟩] scope pc) scope X.env _ (newList []) false (eval iter X.env) (some (assign (.Name x p') X.env))) _ _ s
 refine wpAny_bind (thn (qV (use:=some (assign (.Name x p') X.env)) (Q:=fun _ s' =>SP X pins D .next s') (F:=fun D' H' =>D.nx (σ.set i (some (.ref D'))) H') (te:=fun σ H Q=>∃ Y' ρ',Y'.cl=Y.cl/\tS Y' rC fe ρ' σ H Q) (tt:=fun σ H Q=>∃ Y' ρ',Y'.cl=Y.cl/\tS Y' rE ft ρ' σ H Q) C.sc C.cp C.cm (C.it ρ) C.gt
  (fun cl Cx' s3 H3 fp pins pins' s σ H Q I ⟨Y',ρ',ey,q⟩=>C.tt Y' ey cl Cx' s3 H3 fp pins ρ' pins' s σ H Q I q) (fun cl Cx' s3 H3 fp pins pins' s σ H Q I ⟨Y',ρ',ey,q⟩=>C.el Y' ey cl Cx' s3 H3 fp pins ρ' pins' s σ H Q I q) I ?_ ?_ C.hs) fun _ s' hq=>wpAny_pure (wpAny_pure hq))
 ·have q' :PoS Y B (((fi ρ).s fun ts=>(Z3 g ft fe k js ρ ts).s fun vs=> .nx (ρ.set i (.vl (.lst vs))))) D:=by
   unfold Z0 Zk at q
   revert q
   cases fi ρ with
   | bad=>exact fun q=>q
   | ex c=>exact fun q=>q
   | ok ts=>
    intro q
    have q2:PoS Y B (((Z3 g ft fe k js ρ ts).bind fun vs=>R.ok (T.lst vs)).s fun t=>RS.nx (List.set ρ i (Sl.vl t))) D:=q
    show PoS Y B ((Z3 g ft fe k js ρ ts).s fun vs=>RS.nx (List.set ρ i (Sl.vl (T.lst vs)))) D
    revert q2
    cases Z3 g ft fe k js ρ ts with
    | bad=>exact fun q=>q
    | ex c=>exact fun q=>q
    | ok vs=>exact fun q=>q
  refine UY J q' fun ts it' H1 _ s1 r1 J1 q1=> ?_
  intro D' hD
  unfold Z3 at q1
  split at q1
  ·rename_i hl
   cases ev:Z9 g ft fe ts (yG k js ρ) with
   | bad=>rw [ev] at q1; exact q1.elim
   | ex c=>rw [ev] at q1; exact q1.elim
   | ok vs=>
    rw [ev] at q1
    refine yZ C.gk C.gn J1 r1 hl ev hD fun H' xs B' s' e' r' l' b' sb' => ?_
    have rr:Rep (Zl (Zl B H H1) H1 H') (.ref D') (.lst vs):= .lst (by rw [ZI hD]; exact e') (r'.mono l')
    exact q1 _ _ _ (Zl.ge J1.sB s') ((J1.grow s').setV i rr)
  ·exact q1.elim
 ·intro D' Cc H' s' I' q' hC h0 hL hcell hpin hns
  obtain ⟨m,hm⟩:=hns
  show wpAny _ X.A (assign (.Name x p') X.env (.ref D')) _ _ s'
  refine wpAny_assign_Name (yJ (v:= .ref D') I' hN hi hx rfl (fun s'' I'' ⟨a,hsb,ha⟩=> ?_) hf)
  have hne:Cc ≠ a:=by
   rcases ha with rfl | ha
   ·exact hL
   ·exact (hcell x a ha).symm
  refine ⟨m,hm.sameBut hsb hne,fun h' hsb' =>⟨_,H', ?_,q'⟩⟩
  exact I''.turned (t' :=s''.toks) (fun b o hb e=>hsb'.extBut b o hb e) hC hL (.inr h0) hcell hpin
end
end PV
namespace PV
open PySem PySem.Spec PyProof.Rows L2
noncomputable def Itc (x:Str):It:=⟨fun i _=>i < x.cps.size,fun i H v H' =>H' =H/\∃ c,x.cps[i]? =some c/\v= .str ⟨#[c]⟩,fun i _=>x.cps.size<=i⟩
theorem UE {P:Program} {w:World} {K:PySem.W.Frag} {tg:Expr} {x:Str} {t:Tok} {ty:String} (it:Addr) (hty:ty="str_ascii_iterator"\/ty="str_iterator"):xy P w K tg (Itc x) [it] it (fun i h=>h.IsStrIter it ty x t i):=by
 have W:∀ A:Around,A.handled=none->Walks P w A it [it] [it] x.cps.size (SignAt x) (fun i h=>h.IsStrIter it ty x t i):=fun A hA=>by
  rcases hty with rfl | rfl
  ·exact Walks.strAscii hA it x t
  ·exact Walks.strWide hA it x t
 have hn:["enumerate","zip","dict_itemiterator","dict_reverseitemiterator","odict_iterator","itertools.zip_longest","itertools.pairwise"].contains ty=false:=by rcases hty with rfl | rfl <;> decide
 refine ⟨by simp,fun i h st b hb=> ?_,fun i h h' st k=> ?_, ?_, ?_,fun A i s Q E st h=> ?_⟩
 ·have e:b=it:=by simpa using hb
  subst e
  obtain ⟨o,e,c,d⟩:=st
  exact ⟨o,e,fun v z=>by rw [d] at z; cases z⟩
 ·obtain ⟨o,e,r⟩:=st
  exact ⟨o,k it (by simp) o e,r⟩
 ·intro X hP hw hK hc i pins s σ H E I hf st hg
  subst hP hw hK
  obtain ⟨f0,f1,f2,f3,f4,f5⟩:=hf it (by simp)
  refine (W X.A (I.ok.hd hc)).item i s _ _ hg st fun v h' tk hv st' kk=> ?_
  obtain ⟨c,u,hc',rfl⟩:=hv
  have I1:L2.Inv X pins σ H { s with heap:=h',toks:=tk }:=I.turned (fun b o hb e=>kk b o (by simpa using hb) e) f0 f1 f3 f4 f5
  obtain ⟨o,e,cl,d⟩:=id st'
  exact ⟨_,rfl,xH (s:={ s with heap:=h',toks:=tk }) e cl d hn ⟨.str ⟨#[c]⟩,H,I1,⟨u,rfl⟩,⟨rfl,c,hc',rfl⟩,st',fun b hb=>(hf b hb).1⟩⟩
 ·intro X hP hw hK hc i pins s σ H E I hf st hg
  subst hP hw hK
  obtain ⟨f0,f1,f2,f3,f4,f5⟩:=hf it (by simp)
  have hx:x.cps[i]? =none:=Array.getElem?_eq_none hg
  rcases hty with rfl | rfl
  ·exact wpAny_pyNext_ascii_end (I.ok.hd hc) st hx fun h' eb=>⟨rfl,I.turned (t' :=s.toks) (fun b o hb e=>eb b o hb e) f0 f1 f3 f4 f5⟩
  ·exact wpAny_pyNext_wide_end (I.ok.hd hc) st hx fun h' eb=>⟨rfl,I.turned (t' :=s.toks) (fun b o hb e=>eb b o hb e) f0 f1 f3 f4 f5⟩
 ·rcases hty with rfl | rfl
  ·exact wpAny_pyIter_striter_ascii st h
  ·exact wpAny_pyIter_striter_wide st h
noncomputable def Jd (x:Str):List T:=x.cps.toList.map fun c=>T.str ⟨#[c]⟩
theorem xV {B1 H1:Hp} {x:Str}:rI B1 H1 (Itc x) (Jd x):=fun B2 H2 s1 s2=>by
 have hl:(Jd x).length=x.cps.size:=by unfold Jd; simp
 refine ⟨fun i hi=>by rw [hl] at hi; exact hi,fun i t v H3 e y=> ?_,fun i hi=>by rw [hl] at hi; exact hi⟩
 obtain ⟨rfl,c,hc,rfl⟩:=y
 refine ⟨zS.refl _, ?_⟩
 unfold Jd at e
 rw [List.getElem?_map] at e
 have hc' :x.cps.toList[i]? =some c:=by simpa using hc
 rw [hc'] at e
 cases e
 exact .str _
section
variable {X:Cx} {Y:Fx} {a b c d tg:Expr} {fa fb fc fd:En->R T} {pos p:Pos}
theorem Gc {l:Expr} {tl:TE} (hl:PE X l tl):PI X tg l (fun σ H R=>tl σ H fun x H1=>(∃ a,x= .ref a/\(((∃ xs,SqL X.K H1 a xs)/\R (Itl X.K a) H1)\/((∃ xs,SqT X.K H1 a xs)/\R (Itt X.K a) H1)))\/(∃ z,x= .str z/\R (Itc z) H1)):=by
 intro pins s σ H R I h
 refine thn (hl pins s σ H _ I h) fun v s1 ⟨x,H1,I1,r1,q1⟩=> ?_
 have ok:∀ b∈[s1.heap.objs.size],YI X pins H1 b:=fun b hb=>by
  have e:b=s1.heap.objs.size:=by simpa using hb
  subst e
  exact I1.fpOk (Nat.le_refl _) (I1.hok.fresh (Nat.le_refl _))
 rcases q1 with ⟨a,e,q⟩ | ⟨z,e,q⟩
 ·subst e
  obtain rfl:v=Value.ref a:=r1
  rcases q with ⟨⟨xs,hq⟩,q⟩ | ⟨⟨xs,hq⟩,q⟩
  ·obtain ⟨its,rv,p,hz⟩:=I1.list hq
   exact wpAny_pyIter_list p.isList ⟨s1.heap.objs.size,[s1.heap.objs.size],_,_,H1,rfl,I1.kept (t' :=s1.toks) fun b o e=>Heap.get?_push_of_some _ e,vn a _,⟨_,Heap.get?_push_size _ rfl,rfl,rfl⟩,ok,q⟩
  ·obtain ⟨its,rv,p,hz⟩:=I1.tuple hq
   exact wpAny_pyIter_tuple (show s1.heap.IsTuple a its.toArray from p) ⟨s1.heap.objs.size,[s1.heap.objs.size],_,_,H1,rfl,I1.kept (t' :=s1.toks) fun b o e=>Heap.get?_push_of_some _ e,Qv a _,⟨_,Heap.get?_push_size _ rfl,rfl,rfl⟩,ok,q⟩
 ·subst e
  obtain ⟨t,rfl⟩:=r1
  cases ha:z.cps.all (· < 128)
  ·exact wpAny_pyIter_wide ha ⟨s1.heap.objs.size,[s1.heap.objs.size],_,_,H1,rfl,I1.kept (t' :=s1.toks) fun b o e=>Heap.get?_push_of_some _ e,UE _ (.inr rfl),⟨_,Heap.get?_push_size _ rfl,rfl,rfl⟩,ok,q⟩
  ·exact wpAny_pyIter_ascii ha ⟨s1.heap.objs.size,[s1.heap.objs.size],_,_,H1,rfl,I1.kept (t' :=s1.toks) fun b o e=>Heap.get?_push_of_some _ e,UE _ (.inl rfl),⟨_,Heap.get?_push_size _ rfl,rfl,rfl⟩,ok,q⟩
noncomputable def Y0:T->R (List T)
 | .lst xs=> .ok xs
 | .tup xs=> .ok xs
 | .str x=> .ok (Jd x)
 | _=> .bad
noncomputable def jS (fa:En->R T):En->R (List T):=fun ρ=>(fa ρ).bind Y0
theorem jX (ha:Snd X Y a fa):V9 X Y tg a (jS fa):= .mk fun ρ=>PI.imp (Gc (ha ρ)) fun σ H R ⟨B,I,q⟩=>step I q fun t v H1 _ s1 r1 I1 q1=>by
 cases r1 with
 | @tup l xs ts h r=>
  exact .inl ⟨l,rfl, .inr ⟨⟨xs,SqT.of (I1.sB _ _ h)⟩,Jo I1 (show Po Y rI _ H1 (.ok ts) R from q1) (G9 h r)⟩⟩
 | @lst l xs ts h r=>
  exact .inl ⟨l,rfl, .inl ⟨⟨xs,SqL.of (I1.sB _ _ h)⟩,Jo I1 (show Po Y rI _ H1 (.ok ts) R from q1) (Ga h r)⟩⟩
 | str z=>exact .inr ⟨z,rfl,Jo I1 (show Po Y rI _ H1 (.ok (Jd z)) R from q1) xV⟩
 | _=>exact q1.elim
end
theorem Inv.laidT {X:Cx} {pins:List (Addr×Obj)} {σ:Sg} {H:Hp} {s:Shared} {h' :Heap} {tk:Nat} {ch:List Addr} {a:Addr} {xs:List V} (I:L2.Inv X pins σ H s) (hf:∀ b∈ch,YI X pins H b) (k:∀ b o,b ∉ ch->s.heap.get? b=some o->h'.get? b=some o)
  (th:∀ b o,b∈ch->s.heap.get? b=some o->∃ o',h'.get? b=some o') (ha:s.heap.objs.size<=a) (new:jb X.prog X.w (upd H a (.tup xs)) h' a (.tup xs)):L2.Inv X pins σ (upd H a (.tup xs)) { s with heap:=h',toks:=tk }:=by
 have hn:H a=none:=I.hok.fresh ha
 have nch:∀ b u,H b=some u->b ∉ ch:=fun b u e hb=>by rw [(hf b hb).1] at e; cases e
 refine I.call' (s' :={ s with heap:=h',toks:=tk }) (ch:=ch) rfl ⟨fun b o e n _ hc=>k b o hc e,fun b o e n _ hc=>⟨o.slots,k b o hc e⟩,fun b o e n _=>by rw [zJ (Nat.ne_of_lt (Nat.lt_of_lt_of_le (Heap.lt_size e) ha))]; exact n,fun b o e hc=>⟨o,k b o hc e⟩,
  fun b ys e=>by rw [zJ (Zd e hn)]; exact e,fun b o u e=>by rw [zJ (Zd e hn)]; exact e,fun b ps e=>⟨#[],by rw [zJ (Zd e hn),e]; simp⟩⟩ (fun b u e=> ?_) I.bare fun b hb=> ?_
 ·by_cases hb:b=a
  ·subst hb; rw [Zu] at e; cases e; exact new
  ·rw [zJ hb] at e
   refine (I.hok b u e).stay (fun c v hc q=> ?_) (fun c q=>by rw [zJ (Zd q hn)]; exact q) fun c ys q=>by rw [zJ (Zd q hn)]; exact q
   rcases hc with rfl | hc
   ·exact k c v (nch c u e) q
   ·exact k c v (nch c _ hc) q
 ·obtain ⟨f0,f1,f2,f3,f4,f5⟩:=hf b hb
  exact ⟨f3,f1,f4,f5⟩
noncomputable def Ite (K:PySem.W.Frag) (l:Addr):It:=
 ⟨fun i H=>∃ xs x,SqL K H l xs/\xs[i]? =some x,fun i H v H' =>∃ p x,H p=none/\v= .ref p/\(∀ xs,SqL K H l xs->xs[i]? =some x)/\H' =upd H p (.tup [.int i,x]),fun i H=>∃ xs,SqL K H l xs/\xs.length<=i⟩
theorem Ve {P:Program} {w:World} {K:PySem.W.Frag} {elts:List Expr} {kk:Nat} {pt:Pos} (e it l:Addr) (hei:e ≠ it) (hle:l ≠ e) (hli:l ≠ it):
  xy P w K (.Tuple elts kk pt) (Ite K l) [e,it] e (fun i h=>(∃ old,IsEnum h e it i old)/\h.IsListIter it l i) where
 mem:=by simp
 obj:=fun i h st b hb=>by
  obtain ⟨⟨old,he⟩,o,e1,c,d⟩:=st
  rcases List.mem_cons.mp hb with rfl | hb
  ·exact ⟨_,he,fun v z=>nomatch z⟩
  ·have z:b=it:=by simpa using hb
   subst z
   exact ⟨o,e1,fun v z=>by rw [d] at z; cases z⟩
 keep:=fun i h h' st k=>by
  obtain ⟨⟨old,he⟩,hit⟩:=st
  exact ⟨⟨old,k e (by simp) _ he⟩,hit.at fun o x=>k it (by simp) o x⟩
 item:=by
  intro X hP hw hK hc i pins s σ H E I hf st hg
  subst hP hw hK
  obtain ⟨xs,x,hq,hx⟩:=hg
  obtain ⟨its,rv,p,hz⟩:=I.list hq
  obtain ⟨u,hu,ru⟩:=rv.get hx
  obtain ⟨⟨old,he⟩,hit⟩:=st
  have hi:i < its.toArray.size:=by
   have:=(List.getElem?_eq_some_iff.mp hu).1
   simpa using this
  refine (WalksT.enumerate (prog:=X.prog) (w:=X.w) (I.ok.hd hc) e it l hei hle hli its.toArray).item i s _ _ hi ⟨⟨old,he⟩,hit,p.isList⟩ fun T vals h' tk hP hT hTup hM hk=> ?_
  obtain ⟨t,y,hy,rfl⟩:=hP
  have hyu:y=u:=by
   have:its[i]? =some y:=by simpa using hy
   rw [hu] at this; exact (Option.some.inj this).symm
  subst hyu
  refine ⟨.ref T,rfl, ?_⟩
  refine (WalksT.enumerate (prog:=X.prog) (w:=X.w) (I.ok.hd hc) e it l hei hle hli its.toArray).go elts kk pt i T _ _ _ hM fun h2 hst2 hk2=> ?_
  have hTn:H T=none:=I.hok.fresh hT
  have hTne:∀ b∈[e,it],b ≠ T:=fun b hb z=>by
   obtain ⟨_,_,_,h3,h4⟩:=hM
   rcases List.mem_cons.mp hb with rfl | hb
   ·exact h3 z.symm
   ·have:b=it:=by simpa using hb
    subst this; exact h4 z.symm
  have vf:IsTup h2 T #[.int i t,y]:=by
   obtain ⟨o,eo,r⟩:=hTup
   exact ⟨o,hk2 T o (fun hb=>hTne T hb rfl) eo,r⟩
  refine ⟨.ref T,upd H T (.tup [.int i,x]),Inv.laidT (s:=s) (h' :=h2) (ch:=[e,it]) (tk:=tk) I hf (fun b o hb e=>hk2 b o hb (hk b o hb e)) (fun b o hb _=> ?_) hT ⟨by rw [sizeLine_eq]; show 2<=16777216; decide,[.int i t,y], .cons ⟨t,rfl⟩ (.cons ru .nil),vf⟩,rfl,⟨T,x,hTn,rfl,fun ys hy=>by rw [I.list_inj hy hq]; exact hx,rfl⟩,⟨hst2.1,hst2.2.1⟩,fun b hb=> ?_⟩
  ·obtain ⟨⟨old2,he2⟩,⟨o2,eo2,_⟩,_⟩:=hst2
   rcases List.mem_cons.mp hb with rfl | hb
   ·exact ⟨_,he2⟩
   ·have:b=it:=by simpa using hb
    subst this; exact ⟨o2,eo2⟩
  ·rw [zJ (hTne b hb)]; exact (hf b hb).1
 done:=by
  intro X hP hw hK hc i pins s σ H E I hf st hg
  subst hP hw hK
  obtain ⟨xs,hq,hx⟩:=hg
  obtain ⟨its,rv,p,hz⟩:=I.list hq
  obtain ⟨⟨old,he⟩,hit⟩:=st
  have hl:=rv.length
  refine wpAny_pyNext_enum_end (I.ok.hd hc) he hit p.isList (Array.getElem?_eq_none (by simp; omega)) fun h' hk=>⟨rfl, ?_⟩
  obtain ⟨f0,f1,f2,f3,f4,f5⟩:=hf it (by simp)
  exact I.turned (t' :=s.toks) (fun b o hb e=>hk b o hb e) f0 f1 f3 f4 f5
 self:=fun _ _ _ _ _ st h=>let ⟨⟨_,he⟩,_⟩:=st; wpAny_pyIter_enum he h
noncomputable def wB (xs:List T):List T:=(xs.zipIdx).map fun p=>T.tup [.int (p.2:Nat),p.1]
theorem Y1 {xs:List T} {i:Nat} {t:T} (h:(wB xs)[i]? =some t):∃ x,xs[i]? =some x/\t= .tup [.int (i:Nat),x]:=by
 unfold wB at h
 rw [List.getElem?_map,List.getElem?_zipIdx] at h
 cases e:xs[i]? with
 | none=>rw [e] at h; cases h
 | some x=>rw [e] at h; cases h; exact ⟨x,rfl,by simp⟩
theorem u8 (xs:List T):(wB xs).length=xs.length:=by unfold wB; simp
theorem K0 {K:PySem.W.Frag} {B1 H1:Hp} {a:Addr} {xs:List V} {ts:List T} (h:B1 a=some (.lst xs)) (r:Z4 B1 xs ts):rI B1 H1 (Ite K a) (wB ts):=fun B2 H2 s1 s2=>by
 have h2:=s2 _ _ (s1 _ _ h)
 rw [u8]
 refine ⟨fun i hi=> ?_,fun i t x H3 e y=> ?_,fun i hi=>⟨xs,SqL.of h2,by rw [r.length]; exact hi⟩⟩
 ·obtain ⟨v,e,_⟩:=r.get (List.getElem?_eq_getElem hi)
  exact ⟨xs,v,SqL.of h2,e⟩
 ·obtain ⟨p,v,hp,rfl,y,rfl⟩:=y
  obtain ⟨t',et,rfl⟩:=Y1 e
  obtain ⟨v',e1,r1⟩:=r.get et
  have:=y xs (SqL.of h2)
  rw [e1] at this; cases this
  refine ⟨zS.new hp _, .tup (wz hp _) (.cons (.int _) (.cons ?_ .nil))⟩
  exact (r1.mono s1).mono (Zl.ge s2 (zS.new hp _))
section
variable {X:Cx} {Y:Fx} {a:Expr} {fa:En->R T} {pos p pt:Pos} {elts:List Expr} {kk:Nat}
theorem K1 {ta:TA} (hg:Gl X "enumerate") (hm:X.mg "enumerate"=none) (ha:PA X [a] ta) (hs:St1 X a:=by exact st1 rfl):
  PI X (.Tuple elts kk pt) (.Call (.Name "enumerate" p) [a] [] pos) (fun σ H R=>ta σ H fun vs H1=>∃ l xs,vs=[.ref l]/\H1 l=some (.lst xs)/\R (Ite X.K l) H1):=by
 intro pins s σ H R I h
 refine Call_ (u6 I hg hm PyProof.Rows.Boot.«enumerate» (PyProof.Rows.callWith_type1 (thn (ha pos pins s σ H _ I h) fun us s1 ⟨vs,H1,I1,r1,q1⟩=> ?_) hs rfl))
 obtain ⟨l,xs,e,hl,q⟩:=q1
 subst e
 obtain ⟨u,rfl,ru⟩:=Wa r1
 obtain rfl:u=Value.ref l:=ru
 obtain ⟨_,its,n,rv,eo⟩:=(show jb X.prog X.w H1 s1.heap l (.lst xs) from I1.hok l _ hl)
 have hlt:l < s1.heap.objs.size:=Heap.lt_size eo
 refine call_enumerate_1 eo fun h' he hit hsz hk=>wpAny_pyIter_enum he ?_
 have f:∀ b∈[s1.heap.objs.size+1,s1.heap.objs.size],YI X pins H1 b:=fun b hb=>by
  rcases List.mem_cons.mp hb with rfl | hb
  ·exact I1.fpOk (Nat.le_succ _) (I1.hok.fresh (Nat.le_succ _))
  ·have z:b=s1.heap.objs.size:=by simpa using hb
   subst z
   exact I1.fpOk (Nat.le_refl _) (I1.hok.fresh (Nat.le_refl _))
 exact ⟨s1.heap.objs.size+1,[s1.heap.objs.size+1,s1.heap.objs.size],_,_,H1,rfl,I1.kept (t' :=s1.toks) hk,Ve _ _ l (Nat.succ_ne_self _) (Nat.ne_of_lt (Nat.lt_succ_of_lt hlt)) (Nat.ne_of_lt hlt),⟨⟨_,he⟩,hit⟩,f,q⟩
noncomputable def K2 (fa:En->R T):En->R (List T):=fun ρ=>(fa ρ).bind fun t=>match t with
 | .lst xs=> .ok (wB xs)
 | _=> .bad
theorem Gd (hg:Gl X "enumerate") (hm:X.mg "enumerate"=none) (ha:Snd X Y a fa) (hs:St1 X a:=by exact st1 rfl):V9 X Y (.Tuple elts kk pt) (.Call (.Name "enumerate" p) [a] [] pos) (K2 fa):= .mk fun ρ=>
 PI.imp (K1 hg hm (zY (ha ρ) j7 hs) hs) fun σ H R ⟨B,I,q⟩=>step I q fun t v H1 _ s1 r1 I1 q1=>by
  cases r1 with
  | @lst l xs ts h r=>exact ⟨l,xs,rfl,I1.sB _ _ h,Jo I1 (show Po Y rI _ H1 (.ok (wB ts)) R from q1) (K0 h r)⟩
  | _=>exact q1.elim
noncomputable def gm:List T->Option (List Str)
 | []=>some []
 | .str x :: r=>match gm r with | some ys=>some (x :: ys) | none=>none
 | _ :: _=>none
noncomputable def Ge (sep:Str):T->R T
 | .lst ts=>match gm ts with
  | some ys=>if (ys.map (·.length)).sum+ys.length*sep.length<=16777216 then .ok (.str (Txt.join sep ys)) else .bad
  | none=> .bad
 | _=> .bad
theorem qW {H:Hp}:∀ {xs:List V} {ts:List T} {its:List Value} {ys:List Str},Z4 H xs ts->ZM xs its->gm ts=some ys->StrsAre its ys
 | _,_,_,ys, .nil, .nil,h=>by
  have h' :some []=some ys:=h
  cases h'; exact .nil
 | _,_,_,ys, .cons (t:=t) r rs, .cons (b:=u) rv vs,h=>by
  cases r with
  | str x=>
   unfold gm at h
   split at h
   ·rename_i zs e
    cases h
    obtain ⟨tk,rfl⟩:=rv
    exact .cons x tk (qW rs vs e)
   ·cases h
  | _=>cases h
theorem K3:MtR X "str.join" (fun x xs H Q=>∃ z l zs ts ys,x= .str z/\xs=[.ref l]/\H l=some (.lst zs)/\Z4 H zs ts/\gm ts=some ys/\(ys.map (·.length)).sum+ys.length*z.length<=16777216/\Q (.str (Txt.join z ys)) H):=by
 intro pins s σ H x xs v us Q I rx rv h
 obtain ⟨z,l,zs,ts,ys,rfl,rfl,hl,r,e,hb,q⟩:=h
 obtain ⟨t,rfl⟩:=rx
 obtain ⟨u,rfl,ru⟩:=Wa rv
 obtain rfl:u=Value.ref l:=ru
 obtain ⟨its,rv,p,_⟩:=Zm I (.inl hl) r
 exact join_list p (by simpa using qW r rv e) hb fun t' k=>⟨.str _,H,I.tok k,⟨t',rfl⟩,q⟩
theorem Gf {z:Str} {kc:Nat} {pz pa:Pos} (ha:WF X Y a fa) (hb:attributeBase (.Constant (.str z) kc pz) "join" X.env (eval (.Constant (.str z) kc pz) X.env)=eval (.Constant (.str z) kc pz) X.env:=by rfl) (hs:St1 X a:=by exact st1 rfl)
  (hz:(pa.endLine == p.line)=true:=by rfl):Snd X Y (.Call (.Attribute (.Constant (.str z) kc pz) "join" pa) [a] [] p) (ap1 (Ge z) fa):= .mk fun ρ=>by
 have e1:(((((backTo p (starEach [a] X.env)).all fun x=> !x.fst) && (backToKw p (keywordEach [] X.env)).all fun x=>x.fst.isSome) && decide (([a].length+([]:List Keyword).length+if ([]:List Keyword).isEmpty=true then 0 else 1) < 30))=true):=by rw [hs]; rfl
 refine PE.imp (vH PySem.F.plainAttrs_str PySem.F.slot_str_join PySem.F.type_str_join K3 XI (zY (ha ρ) j7 hs) hb e1 hz hs rfl) fun σ H Q ⟨B,I,q⟩=> ?_
 refine ⟨rfl,step I q fun t v H1 _ s1 r1 I1 q1=> ?_⟩
 cases r1 with
 | @lst l xs ts h r=>
  have q1:Po Y rC _ H1 (match gm ts with | some ys=>if (ys.map (·.length)).sum+ys.length*z.length<=16777216 then .ok (.str (Txt.join z ys)) else .bad | none=> .bad) Q:=q1
  split at q1
  ·rename_i ys e
   split at q1
   ·rename_i hl
    exact ⟨z,l,xs,ts,ys,rfl,rfl,h,r,e,hl,po0 I1.sB q1 rfl (.str _)⟩
   ·exact q1.elim
  ·exact q1.elim
 | _=>exact q1.elim
end
end PV
namespace PV
open PySem PySem.Spec PyProof.Rows L2
noncomputable def dd:List Str->List Str->List Str
 | acc,[]=>acc
 | acc,x :: r=>dd (if x∈acc then acc else acc++[x]) r
section
variable {prog:Program} {w:World} {A:Around} {R:Result->Shared->Prop} {I:Addr} {fp wr:List Addr} {n:Nat} {P:Nat->Value->Prop} {St:Nat->Heap->Prop}
end
section
variable {prog:Program} {w:World} {A:Around} {E:Value->Shared->Prop} {s:Shared}
end
end PV
namespace PV
open PySem PySem.Spec PyProof.Rows L2
section
variable {X:Cx} {Y:Fx} {a b:Expr} {fa fb:En->R T} {pos pos' p p' :Pos}
noncomputable def Gg (i j:Nat) (ga:En->R (List T)):En->RS:=fun ρ=>(ga ρ).s fun ts=>match ts with
 | [x,y]=> .nx ((ρ.set i (.vl x)).set j (.vl y))
 | _=> .bad
theorem z0X {i j:Nat} {x y:Str} {ga:En->R (List T)} {px py pt pt2:Pos} {kt k2:Nat} (hc:X.calm=true) (hN:X.N.Nodup) (hi:X.N[i]? =some x) (hj:X.N[j]? =some y) (hij:i ≠ j) (hx:X.env.scope.names.lookup x=some .local) (hy:X.env.scope.names.lookup y=some .local)
  (ha:YS X Y [a,b] ga) (hs:swappedStores [.Tuple [.Name x px, .Name y py] kt pt] (.Tuple [a,b] k2 pt2) X.env=pure (some [x,y])) (hw:swapsWithSole [.Tuple [.Name x px, .Name y py] kt pt] (.Tuple [a,b] k2 pt2) pos.line X.env=pure false:=by rfl):
  yY X Y (.Assign [.Tuple [.Name x px, .Name y py] kt pt] (.Tuple [a,b] k2 pt2) pos) (Gg i j ga):= .mk fun ρ=>
 PS.imp (gE hc hN hi hj hij hx hy (ha ρ) hs hw) fun D σ H ⟨B,I,q⟩=>UY I q fun ts vs H1 _ s1 r1 I1 q1=>by
  cases r1 with
  | nil=>exact q1.elim
  | cons r rr=>
   cases rr with
   | nil=>exact q1.elim
   | cons r' rr=>
    cases rr with
    | cons _ _=>exact q1.elim
    | nil=>exact ⟨_,_,rfl,q1 _ _ _ (zS.refl _) ((I1.setV i r).setV j r')⟩
end
end PV
namespace PV
open PySem PySem.Spec PyProof.Rows L2
theorem Gh {X:Cx} {E:XK}:W3 CX0 X E:=fun _ _ _ _ _ _ _ h=>h.elim
section
variable {X:Cx} {Y:Fx} {a b:Expr} {fa fb:En->R T} {pos pos' p p' :Pos}
theorem K4 {cl:Nat->Value} {k j n:Nat} {f:Addr} {fd:FuncData} {ps:List Str} {g:List T->R T} {x:Str} {es:List Expr} {ga:En->R (List T)} (hy:Y.cl=cl) (F:jm X.prog X.w X.K X.mg X.base CX0 j f fd ps (spP cl n g)) (hr:WD k X.A) (hj:j<=k) (gl:Gl X x)
  (mg:X.mg x=some (.ref f)) (kp:PySem.W.keepIn X.K (.ref f)=true) (bd:L2.Binds X.K fd ps []) (ha:YS X Y (a :: es) ga) (hd:(x == ("__debug__":Str))=false:=by decide)
  (hs:starEach (a :: es) X.env=(false,eval a X.env) :: starEach es X.env:=by exact ZH rfl) (hz:((backTo pos (starEach es X.env)).any fun x=>x.fst)=false:=by exact jU rfl):Snd X Y (.Call (.Name x p) (a :: es) [] pos) (zb n g ga):=by
 subst hy
 exact XS F (hr.mono hj) gl mg kp bd Gh ha hd hs hz
theorem qa {x:Str} {i:Int} {u:Value} (gl:Gl X x) (mg:X.mg x=some u) (hu:∃ t,u=Value.int i t) (hd:(x == ("__debug__":Str))=false:=by decide):Snd X Y (.Name x pos) (cE (.int i)):= .mk fun ρ=>
 PE.imp (vj (v:= .int i) gl mg hu hd) fun σ H Q ⟨B,I,q⟩=>Jo I q (.int i)
end
noncomputable def z0Y (scope sc0:Scope):Bool:=(scope.kind == .function) && scope.names.all (fun x=>x.2 != .cell) && scope.names.all (fun x=>x.2 != .local || scope.names.lookup x.1 == some .local) &&
 scope.names.all (fun x=>x.2 != .free || sc0.names.lookup x.1 == some .cell || sc0.names.lookup x.1 == some .free)
theorem Gi {X:Cx} {scope:Scope} (sc0:Scope) (h0:X.env.scope=sc0) (h:z0Y scope sc0=true):CSc X scope:=by
 unfold z0Y at h
 simp only [Bool.and_eq_true,List.all_eq_true] at h
 obtain ⟨⟨⟨h1,h2⟩,h3⟩,h4⟩:=h
 refine ⟨eq_of_beq h1,fun x hx=>by simpa using h2 x hx,fun x hx hl=> ?_,fun x hx hf=> ?_⟩
 ·have:=h3 x hx
  rw [hl] at this
  simpa using this
 ·have:=h4 x hx
  rw [hf] at this
  show X.env.scope.names.lookup x.1=_\/X.env.scope.names.lookup x.1=_
  rw [h0]
  simpa using this
noncomputable def z0Z (N N' :List Str) (scope sc0:Scope) (k:Nat) (js:List Nat):Bool:=(N'.length == k+js.length) && (List.range js.length).all fun i=>match js[i]? with
 | none=>true
 | some j=>match N'[k+i]?,N[j]? with
  | some x,some y=>(x == y) && (sc0.names.lookup x == some .cell || sc0.names.lookup x == some .free) && (scope.names.lookup x == some .free)
  | _,_=>false
theorem K5 {X:Cx} {scope:Scope} {N' :List Str} {k:Nat} {js:List Nat} (N:List Str) (sc0:Scope) (hN:X.N=N) (h0:X.env.scope=sc0) (h:z0Z N N' scope sc0 k js=true):z0W X scope N' k js:=by
 unfold z0Z at h
 simp only [Bool.and_eq_true,List.all_eq_true] at h
 obtain ⟨h1,h2⟩:=h
 refine ⟨eq_of_beq h1,fun i j e=> ?_⟩
 have hi:i < js.length:=(List.getElem?_eq_some_iff.mp e).1
 have q:=h2 i (List.mem_range.mpr hi)
 rw [e] at q
 dsimp only at q
 split at q
 ·rename_i x y e1 e2
  simp only [Bool.and_eq_true,Bool.or_eq_true,beq_iff_eq] at q
  obtain ⟨⟨rfl,q2⟩,q3⟩:=q
  refine ⟨x,e1,by rw [hN]; exact e2, ?_,q3, ?_⟩
  ·unfold Vis
   rw [h0]
   exact .inr q2
  ·show X.env.scope.names.lookup x=_\/X.env.scope.names.lookup x=_
   rw [h0]
   exact q2
 ·cases q
theorem ZR {X:Cx} {Y:Fx} {tg iter elt:Expr} {ifs:List Expr} {scope:Scope} {k:Nat} {js:List Nat} {fi:En->R (List T)} {tG:TG} {g:T->En->R En} {ft:En->R Bool} {fe:En->R T} (N' :List Str) (N:List Str) (sc0:Scope) (hN:X.N=N) (h0:X.env.scope=sc0)
  (h:(z0Y scope sc0 && z0Z N N' scope sc0 k js)=true) (cm:X.calm=true) (it:V9 X Y tg iter fi) (gt:xS X scope N' fun XC=>PG XC tg tG) (gk:GOk tG g) (gn:GNo g) (tt:∀ Y',Y'.cl=Y.cl->xS X scope N' fun XC=>QJ XC Y' ifs ft)
  (el:∀ Y',Y'.cl=Y.cl->xS X scope N' fun XC=>Snd XC Y' elt fe) (hs:∀ x,foldedSetIterable iter X.env x=pure x:=by intro _; rfl):Vc X Y tg iter elt ifs scope N' k js fi tG g ft fe:=by
 rw [Bool.and_eq_true] at h
 exact ⟨Gi sc0 h0 h.1,K5 N sc0 hN h0 h.2,cm,it,gt,gk,gn,tt,el,hs⟩
end PV
namespace PV
open PySem PySem.Spec PyProof.Rows L2 PySem.W
section
variable {X:Cx} {Y:Fx} {a b:Expr} {fa fb:En->R T} {pos pos' p p' :Pos}
theorem K6 {cl:Nat->Value} {k j n:Nat} {f:Addr} {fd:FuncData} {ps:List Str} {g:List T->R T} {x:Str} {es:List Expr} {ga:En->R (List T)} (hy:Y.cl=cl) (hp:W3 (CX1 X.prog X.w) X Y.E) (F:jm X.prog X.w X.K X.mg X.base (CX1 X.prog X.w) j f fd ps (spP cl n g)) (hr:WD k X.A) (hj:j<=k) (gl:Gl X x)
  (mg:X.mg x=some (.ref f)) (kp:PySem.W.keepIn X.K (.ref f)=true) (bd:L2.Binds X.K fd ps []) (ha:YS X Y (a :: es) ga) (hd:(x == ("__debug__":Str))=false:=by decide)
  (hs:starEach (a :: es) X.env=(false,eval a X.env) :: starEach es X.env:=by exact ZH rfl) (hz:((backTo pos (starEach es X.env)).any fun x=>x.fst)=false:=by exact jU rfl):Snd X Y (.Call (.Name x p) (a :: es) [] pos) (zb n g ga):=by
 subst hy
 exact XS F (hr.mono hj) gl mg kp bd hp ha hd hs hz
end
noncomputable def XX (c:Nat):En->RS:=fun _=> .ex c
section
variable {P:Program} {w:World} {K:PySem.W.Frag} {mg:Str->Option Value} {base:Heap} {N:List Str} {qual:Str} {scope:Scope} {f:Addr} {cd:Value} {A:Around} {outer:List Env} {s:Shared} {H:Hp} {E:XK} {Y:Fx}
theorem K7 {x m:Str} {C:Addr} {bm bmN:List Value} {Bn Bb newId nid initId inN:String} {np cpos pos ap:Pos} {j c:Nat} (O:OwnCls x C bm newId mg base) (Fn:ExcBaseFacts Bn newId inN bmN) (hBn:bm.contains (.type Bn)=true) (FB:ExcBaseFacts Bb nid initId bm)
  (hY:Y.E=E) (hc:Y.cl c= .ref C) (hg:Gl (Ul (CX1 P w) P w K mg base N qual scope f cd A outer s H E) x) (hd:(x == ("__debug__":Str))=false:=by decide):
  yY (Ul (CX1 P w) P w K mg base N qual scope f cd A outer s H E) Y (.Raise (some (.Call (.Name x np) [.Constant (.str m) j ap] [] cpos)) none pos) (XX c):= .mk fun ρ=>by
 subst hY
 refine PS.imp (vL O Fn hBn FB hg ((z9 zp zg:YS (Ul (CX1 P w) P w K mg base N qual scope f cd A outer s H Y.E) Y [.Constant (.str m) j ap] _) ρ) (ZH rfl) hd) fun D σ H1 ⟨B,I,q⟩=>⟨B,I,fun vs H2 s2 r2=> ?_⟩
 have q:XP Y B c:=q
 refine ⟨?_, ?_⟩
 ·rw [r2.length]; exact (by decide:1<=sizeLine)
 ·have:=q none H2 (I.sH.trans s2) (I.sB.trans s2)
  rw [hc] at this
  exact this
theorem Fun.okX {x qual:Str} {st:Stmt} {f:Addr} {fd:FuncData} {N ps:List Str} {k:Nat} {sp:Sp} (F:Fun K x qual st f fd) (S:zt N ps (zf st)) (len:∀ vs H Q E,sp vs H Q E->vs.length=ps.length)
  (hbody:∀ (cdv:Value) (A:Around) (outer:List Env) (s:Shared) (H:Hp) (vs:List V) (Q:VK) (E:XK),WD k (A.deeper (envOfC qual (zf st) s.heap.objs.size f cdv))->sp vs H Q E->
   ∃ t,PSs (Ul (CX1 P w) P w K mg base N qual (zf st) f cdv A outer s H E) (jn st) t/\t { nx:=fun _ H' =>Q .non H',rt:=Q } (start N vs) H):jm P w K mg base (CX1 P w) (k+1) f fd ps sp:=by
 obtain ⟨oc,od,kV,doc,pm,an,cdv,ct,osl,rfl,lk,hcd⟩:=F.ex
 exact gP lk hcd S len fun A outer s H vs Q E hr hsp=>hbody cdv A outer s H vs Q E hr hsp
theorem XY {cl:Nat->Value} {x qual:Str} {st:Stmt} {f:Addr} {fd:FuncData} {N ps:List Str} {k n:Nat} {fb:En->RS} {g:List T->R T} (F:Fun K x qual st f fd) (S:zt N ps (zf st)) (hn:n=ps.length)
  (hb:∀ (cdv:Value) (A:Around) (outer:List Env) (s:Shared) (H:Hp) (E:XK) (Y:Fx),Y.cl=cl->Y.E=E->WD k (A.deeper (envOfC qual (zf st) s.heap.objs.size f cdv))->
   QH (Ul (CX1 P w) P w K mg base N qual (zf st) f cdv A outer s H E) Y (jn st) fb)
  (hg:∀ ts,ts.length=n->g ts=zu (fb (en0 N.length ts))):jm P w K mg base (CX1 P w) (k+1) f fd ps (spP cl n g):=by
 subst hn
 refine Fun.okX F S spP.len fun cdv A outer s H vs Q E hr ⟨B,ts,hl,sB,r,q⟩=> ?_
 refine ⟨_,hb cdv A outer s H E ⟨B,H,E,cl⟩ rfl rfl hr (en0 N.length ts),B,SI.start (Y:=⟨B,H,E,cl⟩) sB r, ?_⟩
 rw [hg ts hl] at q
 revert q
 cases fb (en0 N.length ts) with
 | rt t=>exact fun q v H' s r=>q v H' s r
 | rf t=>exact fun q a xs H' B' s0 n e r _ l=>q (.ref a) H' s0 (.lst (by rw [ZI n]; exact e) (r.mono l))
 | nx ρ=>exact fun q σ' H' B' s' I' =>q _ H' I'.sH .non
 | bk ρ=>exact fun q=>q.elim
 | ct ρ=>exact fun q=>q.elim
 | ex c=>exact fun q=>q
 | bad=>exact fun q=>q
end
noncomputable def K8 (k:Nat) (ok:Nat->Bool) (fb:En->RS):En->RS:=fun ρ=>match fb ρ with
 | .ex c=>if ok c=true then .nx ((List.replicate ρ.length Sl.un).set k (.xc c)) else .bad
 | r=>r
theorem SI.wish {Y:Fx} {B:Hp} {ρ:En} {σ:Sg} {H:Hp} (I:SI Y B ρ σ H) (E:XK):SI { Y with E:=E } B ρ σ H:=⟨I.s0,I.sH,I.sB,I.old,I.len,I.vl,I.ow,I.xc⟩
theorem SI.unwish {Y:Fx} {B:Hp} {ρ:En} {σ:Sg} {H:Hp} {E:XK} (I:SI { Y with E:=E } B ρ σ H):SI Y B ρ σ H:=⟨I.s0,I.sH,I.sB,I.old,I.len,I.vl,I.ow,I.xc⟩
theorem SI.caught {Y:Fx} {B:Hp} {σ:Sg} {H' :Hp} {ea:Addr} {c k m:Nat} (s0:zS Y.B0 Y.H0) (old:∀ b o,Y.H0 b=some o->B b=Y.B0 b) (hH:zS Y.H0 H') (hB:zS B H') (he:H' ea=none) (hl:m=σ.length) (hk:σ[k]? =some (some (V.ref ea))):
  ∃ B',zS B B' /\SI Y B' ((List.replicate m Sl.un).set k (.xc c)) σ (upd H' ea (.ext (YR (Y.cl c) ea))):=by
 have up:zS H' (upd H' ea (.ext (YR (Y.cl c) ea))):=zS.new he _
 have h0:Y.H0 ea=none:=hH.free he
 refine ⟨Zl Y.B0 Y.H0 (upd H' ea (.ext (YR (Y.cl c) ea))),fun b o e=> ?_,⟨s0,hH.trans up,fun b o e=> ?_,fun b o e=>by rw [ZN e],by rw [List.length_set,List.length_replicate,hl],fun i t e=> ?_,fun i ts e=> ?_,fun i d e=> ?_⟩⟩
 ·cases q:Y.H0 b with
  | none=>rw [ZI q]; exact up b o (hB b o e)
  | some u=>rw [ZN q,← old b u q]; exact e
 ·cases q:Y.H0 b with
  | none=>rw [ZI q] at e; exact e
  | some u=>rw [ZN q] at e; exact up b o (hH b o (s0 b o e))
 ·rcases Zc e with ⟨_,z⟩ | ⟨_,z⟩
  ·cases z
  ·rw [List.getElem?_replicate] at z; split at z <;> cases z
 ·rcases Zc e with ⟨_,z⟩ | ⟨_,z⟩
  ·cases z
  ·rw [List.getElem?_replicate] at z; split at z <;> cases z
 ·rcases Zc e with ⟨rfl,z⟩ | ⟨_,z⟩
  ·cases z
   exact ⟨ea,hk,by rw [ZI h0,Zu]⟩
  ·rw [List.getElem?_replicate] at z; split at z <;> cases z
theorem z10 {X:Cx} {Y:Fx} {fb:En->RS} {body:List Stmt} {c n y:Str} {C:Addr} {cp np yp hp apos pos:Pos} {i k:Nat} {ok:Nat->Bool}
  (hX:X.stack=X.env :: X.outer) (hf:X.env.frame=some X.env.locals) (hN:X.N.Nodup)
  (hi:X.N[i]? =some n) (hl:X.env.scope.names.lookup n=some .local) (hk:X.N[k]? =some y) (hy:X.env.scope.names.lookup y=some .local) (hik:i ≠ k)
  (hg:Gl X c) (hm:X.mg c=some (.ref C)) (hok:∀ c,ok c=true->exmOne X.K (Y.cl c) (.ref C)=some true)
  (hb:∀ (E' :XK) (pn:List (Addr×Obj)) (xe:Value->Shared->Prop),W3 (CX1 X.prog X.w) (X.try' pn xe) E' ->QH (X.try' pn xe) { Y with E:=E' } body fb)
  (hs:swapsWith (.Name n np) (some (.Name y yp)) apos.line X.env=pure false:=by rfl)
  (hdc:(c == ("__debug__":Str))=false:=by decide) (hdn:(n == ("__debug__":Str))=false:=by decide) (hcd:(n == ("__classdict__":Str))=false:=by decide):
  yY X Y (.Try body [.ExceptHandler (some (.Name c cp)) (some n) [.Assign [.Name y yp] (.Name n np) apos] hp] [] [] pos) (K8 k ok fb):= .mk fun ρ=>by
 refine PS.imp (kH (tb:=fun E' =>tSS { Y with E:=E' } fb ρ) hX hf hN hi hl hk hy hg hm (fun E' pn xe p=>hb E' pn xe p ρ) hs hdc hdn hcd) fun D σ H ⟨B,I,q⟩=> ?_
 refine ⟨fun cls _ H' =>zS Y.H0 H' /\zS B H' /\∃ c,cls=Y.cl c/\ok c=true/\PoS Y B (.nx ((List.replicate ρ.length Sl.un).set k (.xc c))) D,fun cls d H' ea σ' ⟨s1,s2,c,e1,e2,q1⟩=> ?_,B,I.wish _, ?_⟩
 ·subst e1
  refine ⟨hok c e2,fun he hl' hX' => ?_⟩
  have hkl:k < σ'.length:=by rw [hl',hX']; exact (List.getElem?_eq_some_iff.mp hk).1
  have hlen:ρ.length=((((σ'.set i (some (V.ref ea))).set k (some (V.ref ea))).set i none):Sg).length:=by
   rw [List.length_set,List.length_set,List.length_set,hl',I.len]
  obtain ⟨B',b1,b2⟩:=SI.caught (c:=c) (σ:=((σ'.set i (some (V.ref ea))).set k (some (V.ref ea))).set i none) (k:=k) I.s0 I.old s1 s2 he hlen (by
   rw [List.getElem?_set_ne hik,List.getElem?_set_self (by rw [List.length_set]; exact hkl)])
  exact q1 _ _ B' b1 b2
 ·unfold K8 at q
  cases e:fb ρ with
  | nx ρ' =>rw [e] at q; exact fun σ' H' B' s' I' =>q σ' H' B' s' I'.unwish
  | rt t=>rw [e] at q; exact q
  | rf t=>rw [e] at q; exact q
  | bk ρ' =>rw [e] at q; exact fun σ' H' B' s' I' =>q σ' H' B' s' I'.unwish
  | ct ρ' =>rw [e] at q; exact fun σ' H' B' s' I' =>q σ' H' B' s' I'.unwish
  | bad=>rw [e] at q; exact q
  | ex c=>
   rw [e] at q
   dsimp only at q
   split at q
   ·rename_i hc
    exact fun d H' s1 s2=>⟨s1,s2,c,rfl,hc,q⟩
   ·exact q.elim
end PV
namespace PySem.W
open PySem PySem.Calls PyProof.Rows PySem.Spec Builtin Builtin.ObjectAttr Builtin.Getset_descriptor
section
variable {prog:Program} {w:World} {A:Around} {E:Value->Shared->Prop} {s:Shared} {K:Frag} {x C:Addr}
theorem Y2 {tp:Value} {R:Result->Shared->Prop} (X:K.In s.heap) (L0:Looks (model prog w) s.heap (typeOf (.ref x)) (.ref C)) (hm:mroIn K C (.type "object")=some true)
  (h:R (.ok (.ret (.ref C))) s):codeAny (model prog w) A (.call (.builtin "getset_descriptor.__get__") ⟨[.builtin "object.__class__", .ref x,tp],[]⟩) R s:=by
 obtain ⟨hh,g,dr,t,os⟩:=s
 have L1:=looks_mroIn (M:=model prog w) X hm
 refine codeAny_call_builtin KF.slot_gs.plain KF.entry_gs (KF.slot_gs.check _ _ _ _ _ _ _ _ KF.type_class (KF.args_gs _ _ _) ?_)
 unfold Builtin.«getset_descriptor.__get__» descrGet
 rw [dga_obj]
 refine wpAny_bind (wpAny_pure ?_)
 unfold descrGetter descrCheckInstance descrNameAndClass isInstance
 simp only [KF.owner_class]
 repeat lk
 refine ⟨Code.quiet_builtin _ (by decide+kernel),codeAny_builtin KF.entry_class ?_⟩
 unfold Builtin.«object.__class__» shownTypeOf
 repeat lk
 exact h
theorem K9 {M:Model} {h:Heap} (X:K.In h) (ha:findIn K (.ref C) "__class__"=some (some (.builtin "object.__class__"))) (hn:specialIn K (.builtin "object.__class__") "__get__"=some (some (.builtin "getset_descriptor.__get__")))
  (htk:takesIn K (.builtin "object.__class__")=some true):Looks M h (find (.ref x) (.ref C) "__class__") (.bind (.builtin "getset_descriptor.__get__") (.builtin "object.__class__")):=by
 have L1:=looks_findIn (M:=M) X ha
 have L2:Looks M h (getOf (some (.builtin "object.__class__"))) (some (.builtin "getset_descriptor.__get__")):=looks_specialIn X hn
 have L3:=looks_takesIn (M:=M) X htk
 refine L1.andThen (L2.andThen ?_)
 exact (show Looks M h (dataDescriptor? (some (.builtin "object.__class__")) (some (.builtin "getset_descriptor.__get__"))) (some (.builtin "getset_descriptor.__get__", .builtin "object.__class__")) from L3.andThen .now).andThen (Looks.tag .now)
theorem xW {M:Model} {nameV:Value} {Q:Unit->Shared->Prop} (L0:Looks M s.heap (typeOf (.ref x)) (.ref C)) (L1:Looks M s.heap (isSubtype (.ref C) (.type "BaseException")) true) (hq:Q () s):wpAny M A (checkBuiltinCall "BaseException.__getattribute__" ⟨[.ref x,nameV],[]⟩) Q E s:=by
 have hk:builtinKind "BaseException.__getattribute__"=some .slot:=by decide+kernel
 have hsplit:splitId "BaseException.__getattribute__"=some ("BaseException","__getattribute__"):=by decide+kernel
 have ha:=PySem.F.args_bexc_ga (.ref x) nameV
 obtain ⟨hh,g,d,t,os⟩:=s
 simp only [checkBuiltinCall,hk,hsplit]
 refine wpAny_bind ?_
 unfold isInstance
 repeat (first | lk | wp_step)
 exact hq
end
end PySem.W
namespace PySem.W
open PySem PySem.Calls PyProof.Rows PySem.Spec Builtin Builtin.ObjectAttr Builtin.Getset_descriptor
section
variable {prog:Program} {w:World} {A:Around} {E:Value->Shared->Prop} {s:Shared} {K:Frag} {x C:Addr}
structure XCls (K:Frag) (C:Addr):Prop where
 ga:findIn K (.ref C) "__getattribute__"=some (some (.builtin "BaseException.__getattribute__"))
 gt:findIn K (.ref C) "__getattr__"=some none
 ca:findIn K (.ref C) "__class__"=some (some (.builtin "object.__class__"))
 sp:specialIn K (.builtin "object.__class__") "__get__"=some (some (.builtin "getset_descriptor.__get__"))
 tk:takesIn K (.builtin "object.__class__")=some true
 ob:mroIn K C (.type "object")=some true
 be:mroIn K C (.type "BaseException")=some true
 cl:(clsIn K C).isSome=true
theorem xX {tk:Tok} {Q:Fin->Shared->Prop} (X:K.In s.heap) (c:XCls K C) (L0:Looks (model prog w) s.heap (typeOf (.ref x)) (.ref C)) (hq:Q (.done (.ret (.ref C))) s):
  wpAny (model prog w) A (Builtin.«object.__getattribute__» ⟨[.ref x, .str "__class__" tk],[]⟩) Q E s:=by
 obtain ⟨hh,g,d,t,os⟩:=s
 have L1:=K9 (M:=model prog w) (x:=x) X c.ca c.sp c.tk
 refine wpAny_bind (wpAny_pure (wpAny_bind (wpAny_pure (wpAny_bind (L0.at (wpAny_bind (L1.at ?_)))))))
 show wpAny _ _ (bindTo _ _ _ _) _ _ _
 unfold bindTo
 refine wpAny_bind (wpAny_call (Y2 X L0 c.ob ?_))
 exact wpAny_pure hq
end
end PySem.W
namespace PySem.W
open PySem PySem.Calls PyProof.Rows PySem.Spec Builtin Builtin.ObjectAttr Builtin.Getset_descriptor
section
variable {prog:Program} {w:World} {A:Around} {E:Value->Shared->Prop} {s:Shared} {K:Frag} {x C:Addr}
theorem xY {Q:Option Value->Shared->Prop} (X:K.In s.heap) (c:XCls K C) (L0:Looks (model prog w) s.heap (typeOf (.ref x)) (.ref C)) (h:Q (some (.ref C)) { s with toks:=s.toks+1 }):wpAny (model prog w) A (getAttr? (.ref x) "__class__") Q E s:=by
 obtain ⟨hh,g,d,t,os⟩:=s
 have L1:=looks_findIn (M:=model prog w) X c.ga
 have L2:=looks_findIn (M:=model prog w) X c.gt
 have L3:=looks_mroIn (M:=model prog w) X c.be
 have fb:=PySem.F.attr_ValueError.ga.bind (.ref x)
 unfold getAttr? getAttrBy? getAttrBy
 refine wpAny_bind (wpAny_mkText (wpAny_bind (wpAny_attempt (wpAny_holding (wpAny_bind (L0.at (wpAny_bind (L1.at ?_))))))))
 dsimp only
 have hx2:(Value.builtin "BaseException.__getattribute__" == Value.builtin "object.__getattribute__")=false:=by decide+kernel
 rw [if_neg (by rw [hx2]; simp)]
 unfold getAttrByItsOwn hookBefore
 refine wpAny_bind ?_
 rw [if_pos (by rfl)]
 refine L2.at ?_
 refine wpAny_bind (wpAny_attempt (wpAny_holding ?_))
 unfold callGetattribute
 rw [if_neg (by simp)]
 unfold boundAndCalled
 rw [fb]
 refine wpAny_bind (wpAny_pure ?_)
 refine wpAny_call (codeAny_call_builtin PySem.F.attr_ValueError.ga.plain PySem.F.entry_bexc_ga (xW (s:=⟨hh,g,d,t+1,os⟩) L0 L3 (xX (s:=⟨hh,g,d,t+1,os⟩) X c L0 ?_)))
 exact handed_on rfl (wpAny_pure h)
theorem Ka (c:XCls K C):KitX K (.ref x) (.ref C) (fun h=>∃ o,h.get? x=some o/\o.cls= .ref C) where
 ty:=fun M h _ ⟨o,h1,h2⟩=>h2 ▸ (Looks.ld h1).andThen .now
 it:=fun _ _ X _=>by
  obtain ⟨cdD,hcD⟩:=Option.isSome_iff_exists.mp c.cl
  unfold clsIn at hcD
  split at hcD
  ·rename_i c' d' cd' sl' ho
   intro A' Q' E' s' k q
   unfold isType loadHead
   exact wpAny_bind (wpAny_loadPart (k _ _ (X _ _ ho)) (wpAny_pure q))
  ·cases hcD
 ne:=fun h tp dd its n sl X htp=>by
  obtain ⟨cdD,hcD⟩:=Option.isSome_iff_exists.mp c.cl
  refine Bool.eq_false_iff.mpr fun q=> ?_
  have e:C=tp:=Value.ref.inj (beq_iff_eq.mp q)
  subst e
  unfold clsIn at hcD
  split at hcD
  ·rename_i c' d' cd' sl' ho
   have z:=(X _ _ ho).symm.trans htp
   cases z
  ·cases hcD
 ca:=fun {prog w A E Q s} X ⟨o,h1,h2⟩ k=>xY X c (h2 ▸ (Looks.ld h1).andThen .now) k
end
end PySem.W
namespace PV
open PySem PySem.Spec PyProof.Rows L2 PySem.W
section
variable {X:Cx} {Y:Fx} {a b:Expr} {fa fb:En->R T} {pos pos' p p' :Pos}
noncomputable def uM (i:Nat) (ok tab:Nat->Bool):En->R T:=fun ρ=>match ρ[i]? with
 | some (.xc c)=>if ok c=true then .ok (.bl (tab c)) else .bad
 | _=> .bad
theorem Y3:JG X (.builtin "isinstance") (fun xs H Q=>∃ a C v b,xs=[.ref a,v]/\H a=some (.ext (YR (.ref C) a))/\XCls X.K C/\(∀ u,jc v u->kitOne X.K (.ref C) u=some b)/\Q (.bl b) H):=by
 intro pins s σ H xs us Q I rv h
 obtain ⟨a,C,v,b,rfl,e,c,hk,q⟩:=h
 obtain ⟨u,w,rfl,ru,rw'⟩:=vw rv
 obtain rfl:u=Value.ref a:=ru
 obtain ⟨hx,_,_⟩:=(show jb X.prog X.w H s.heap a (.ext (YR (.ref C) a)) from I.hok a _ e)
 exact kia_one (Ka c) I.kIn hx (hk w rw') (fun z=>nomatch z) fun tk=>⟨.bl _,H,I.tok tk,rfl,q⟩
structure XK1 (K:Frag) (cl:Nat->Value) (ok:Nat->Bool):Prop where
 at_:∀ c,ok c=true->∃ C,cl c= .ref C/\XCls K C
theorem WI {i:Nat} {ok tab:Nat->Bool} {y cn:Str} {C:Addr} {yp cp:Pos} (hK:XK1 X.K Y.cl ok) (ht:∀ c,ok c=true->kitOne X.K (Y.cl c) (.ref C)=some (tab c)) (gl:Gl X "isinstance") (mg:X.mg "isinstance"=none) (hv:PE X (.Name y yp) (vi i)) (gl' :Gl X cn) (mg' :X.mg cn=some (.ref C))
  (hd:(cn == ("__debug__":Str))=false:=by decide):Snd X Y (.Call (.Name "isinstance" p) [.Name y yp, .Name cn cp] [] pos) (uM i ok tab):= .mk fun ρ=>
 PE.imp (Wn Y3 gl mg PyProof.Rows.Boot.«isinstance» (zY hv (zY (vj (v:= .ref C) gl' mg' rfl hd) j7 (st1 rfl)) (st2 rfl rfl)) (by decide) (by decide) (by rw [st2 rfl rfl,st1 rfl]) (jU rfl)) fun σ H Q ⟨B,I,q⟩=>by
  unfold uM at q
  split at q
  ·rename_i c e
   split at q
   ·rename_i hc
    obtain ⟨a,e1,r⟩:=I.xc i c e
    obtain ⟨Cc,e2,xc⟩:=hK.at_ c hc
    have ht' :=ht c hc
    rw [e2] at r ht'
    exact ⟨_,e1,a,Cc,_,_,rfl,I.sB a _ r,xc,fun u ru=>by obtain rfl:u=Value.ref C:=ru; exact ht',Jo I q (.bl _)⟩
   ·exact q.elim
  ·exact q.elim
theorem Kb {i:Nat} {ok tab:Nat->Bool} {y:Str} {n:String} {yp cp:Pos} (hK:XK1 X.K Y.cl ok) (ht:∀ c,ok c=true->kitOne X.K (Y.cl c) (.type n)=some (tab c)) (gl:Gl X "isinstance") (mg:X.mg "isinstance"=none) (hv:PE X (.Name y yp) (vi i)) (gl' :Gl X (Str.ofString n)) (mg' :X.mg (Str.ofString n)=none)
  (bt:bootBuiltins (Str.ofString n)=some (.type n)) (hn:Str.ofString n ≠ "__name__":=by decide) (hd:(Str.ofString n == ("__debug__":Str))=false:=by decide):Snd X Y (.Call (.Name "isinstance" p) [.Name y yp, .Name (Str.ofString n) cp] [] pos) (uM i ok tab):= .mk fun ρ=>
 PE.imp (Wn Y3 gl mg PyProof.Rows.Boot.«isinstance» (zY hv (zY (vk (v:= .ty n) gl' mg' bt rfl hn hd) j7 (st1 rfl)) (st2 rfl rfl)) (by decide) (by decide) (by rw [st2 rfl rfl,st1 rfl]) (jU rfl)) fun σ H Q ⟨B,I,q⟩=>by
  unfold uM at q
  split at q
  ·rename_i c e
   split at q
   ·rename_i hc
    obtain ⟨a,e1,r⟩:=I.xc i c e
    obtain ⟨Cc,e2,xc⟩:=hK.at_ c hc
    have ht' :=ht c hc
    rw [e2] at r ht'
    exact ⟨_,e1,a,Cc,_,_,rfl,I.sB a _ r,xc,fun u ru=>by obtain rfl:u=Value.type n:=ru; exact ht',Jo I q (.bl _)⟩
   ·exact q.elim
  ·exact q.elim
noncomputable def Gj (i:Nat):En->R Bool:=fun ρ=>match ρ[i]? with
 | some (.xc _)=> .ok false
 | some (.vl t)=>vU t .non
 | _=> .bad
theorem Gk:OpR X (compareOp .Is) (fun x y H Q=>y= .non/\((∃ a,x= .ref a/\Q (.bl false) H)\/∃ t b,Rep H x t/\vU t .non= .ok b/\Q (.bl b) H)):=by
 intro pins s σ H x y v u Q I rx ry h
 obtain ⟨rfl,h⟩:=h
 rcases h with ⟨a,rfl,q⟩ | ⟨t,b,r,e,q⟩
 ·obtain rfl:u=Value.none:=ry
  obtain rfl:v=Value.ref a:=rx
  exact wpAny_is_plain rfl ⟨.bl false,H,I,rfl,q⟩
 ·exact G4 pins s σ H x .non v u Q I rx ry ⟨t, .non,b,r, .non,e,q⟩
theorem Gm {i:Nat} {y:Str} {yp:Pos} {j:Nat} (hv:PE X (.Name y yp) (vi i)):YJ X Y (.Compare (.Name y yp) [.Is] [.Constant .none j p'] pos) (Gj i):= .mk fun ρ=>
 PT.imp (vv Gk hv XH (by rfl)) fun σ H Q ⟨B,I,q⟩=>by
  unfold Gj at q
  split at q
  ·rename_i c e
   obtain ⟨a,e1,r⟩:=I.xc i c e
   exact ⟨_,e1,rfl, .inl ⟨a,rfl,false,rfl,Jo I q rfl⟩⟩
  ·rename_i t e
   obtain ⟨v,e1,r⟩:=I.vl i t e
   refine ⟨v,e1,rfl, .inr ?_⟩
   cases ek:vU t .non with
   | bad=>rw [ek] at q; exact q.elim
   | ex c=>exact absurd ek (kR _ _ _)
   | ok b=>rw [ek] at q; exact ⟨t,b,r.mono I.sB,ek,b,rfl,Jo I q rfl⟩
  ·exact q.elim
noncomputable def spC (cl:Nat->Value) (gx:Nat->R T):Sp:=fun vs H Q E=>∃ B a c,vs=[V.ref a]/\zS B H/\B a=some (.ext (YR (cl c) a))/\Po ⟨B,H,E,cl⟩ rC B H (gx c) Q
noncomputable def Kc (i:Nat) (gx:Nat->R T):En->R T:=fun ρ=>match ρ[i]? with
 | some (.xc c)=>gx c
 | _=> .bad
theorem Ke {cl:Nat->Value} {k j i:Nat} {f:Addr} {fd:FuncData} {q:Str} {gx:Nat->R T} {x y:Str} {yp:Pos} (hy:Y.cl=cl) (F:jm X.prog X.w X.K X.mg X.base CX0 j f fd [q] (spC cl gx)) (hr:WD k X.A) (hj:j<=k) (gl:Gl X x)
  (mg:X.mg x=some (.ref f)) (kp:PySem.W.keepIn X.K (.ref f)=true) (bd:L2.Binds X.K fd [q] []) (hv:PE X (.Name y yp) (vi i)) (hd:(x == ("__debug__":Str))=false:=by decide):Snd X Y (.Call (.Name x p) [.Name y yp] [] pos) (Kc i gx):= .mk fun ρ=>
 PE.imp (vC F (hr.mono hj) gl mg kp bd .nil (Gh (E:=Y.E)) (zY hv j7 (st1 rfl)) hd (st1 rfl) rfl) fun σ H Q ⟨B,I,q⟩=>by
  subst hy
  unfold Kc at q
  split at q
  ·rename_i c e
   obtain ⟨a,e1,r⟩:=I.xc i c e
   refine ⟨_,e1,B,a,c,rfl,I.sB,r, ?_⟩
   revert q
   cases gx c with
   | bad=>exact fun q=>q
   | ex c=>exact fun q d H' s sB=>q d H' (I.sH.trans s) sB
   | ok t=>exact fun q=>q
  ·exact q.elim
end
section
variable {P:Program} {w:World} {K:PySem.W.Frag} {mg:Str->Option Value} {base:Heap}
noncomputable def enC (n c:Nat):En:= .xc c :: List.replicate (n - 1) .un
theorem SI.startC {Y:Fx} {N:List Str} {a:Addr} {c:Nat} (s:zS Y.B0 Y.H0) (hN:1<=N.length) (r:Y.B0 a=some (.ext (YR (Y.cl c) a))):SI Y Y.B0 (enC N.length c) (L2.start N [V.ref a]) Y.H0 where
 s0:=s
 sH:=zS.refl _
 sB:=s
 old:=fun _ _ _=>rfl
 len:=by unfold enC L2.start; simp
 vl:=fun i t h=>by
  unfold enC at h
  cases i with
  | zero=>cases h
  | succ i=>rw [List.getElem?_cons_succ,List.getElem?_replicate] at h; split at h <;> cases h
 ow:=fun i t h=>by
  unfold enC at h
  cases i with
  | zero=>cases h
  | succ i=>rw [List.getElem?_cons_succ,List.getElem?_replicate] at h; split at h <;> cases h
 xc:=fun i d h=>by
  unfold enC at h
  cases i with
  | zero=>
   cases h
   exact ⟨a,by unfold L2.start; rfl,r⟩
  | succ i=>rw [List.getElem?_cons_succ,List.getElem?_replicate] at h; split at h <;> cases h
theorem Gn {cl:Nat->Value} {x qual q:Str} {st:Stmt} {f:Addr} {fd:FuncData} {N:List Str} {k:Nat} {fb:En->RS} {gx:Nat->R T} (F:Fun K x qual st f fd) (S:zt N [q] (zf st)) (hN:1<=N.length)
  (hb:∀ (cdv:Value) (A:Around) (outer:List Env) (s:Shared) (H:Hp) (E:XK) (Y:Fx),Y.cl=cl->WD k (A.deeper (envOfC qual (zf st) s.heap.objs.size f cdv))->
   QH (Ul CX0 P w K mg base N qual (zf st) f cdv A outer s H E).nox Y (jn st) fb)
  (hg:∀ c,gx c=zu (fb (enC N.length c))):jm P w K mg base CX0 (k+1) f fd [q] (spC cl gx):=by
 refine F.ok S (fun vs H Q E ⟨_,_,_,e,_⟩=>by rw [e]; rfl) fun cdv A outer s H vs Q E hr ⟨B,a,c,e,sB,r,q⟩=> ?_
 subst e
 refine ⟨_,hb cdv A outer s H E ⟨B,H,E,cl⟩ rfl hr (enC N.length c),B,SI.startC (Y:=⟨B,H,E,cl⟩) sB hN r, ?_⟩
 rw [hg c] at q
 revert q
 cases fb (enC N.length c) with
 | rt t=>exact fun q v H' s r=>q v H' s r
 | rf t=>exact fun q a xs H' B' s0 n e r _ l=>q (.ref a) H' s0 (.lst (by rw [ZI n]; exact e) (r.mono l))
 | nx ρ=>exact fun q σ' H' B' _ I=>q .non H' I.sH .non
 | ex c=>exact fun q=>q
 | bk ρ=>exact fun q=>q.elim
 | ct ρ=>exact fun q=>q.elim
 | bad=>exact fun q=>q
end
end PV
namespace PySem.ZG
open PySem PySem.Spec PySem.Builtin.SmallTypes
structure qb (i:Addr) (fp:List Addr) (v:Nat->Option Value) (St:Nat->Heap->Prop):Prop where
 mem:i∈fp
 item:∀ {prog:Program} {w:World} {A:Around} {E:Value->Shared->Prop} {s:Shared} {Q:Value->Shared->Prop} {k:Nat} {x:Value},St k s.heap->v k=some x->(∀ h',St (k+1) h' ->Heap.SameBut i s.heap h' ->Q x { s with heap:=h' })->wpAny (model prog w) A (nextOf (.ref i)) Q E s
 stop:∀ {prog:Program} {w:World} {A:Around} {E:Value->Shared->Prop} {s:Shared} {Q:Value->Shared->Prop} {k:Nat},A.handled=none->St k s.heap->v k=none->(∀ h' e,Heap.ExtBut i s.heap h' ->(∃ o,h'.get? e=some o/\o.cls= .type "StopIteration")->E (.ref e) { s with heap:=h' })->wpAny (model prog w) A (nextOf (.ref i)) Q E s
 keep:∀ {k:Nat} {h h' :Heap},St k h->(∀ b∈fp,∀ o,h.get? b=some o->h'.get? b=some o)->St k h'
 there:∀ {k:Nat} {h:Heap},St k h->∀ b∈fp,∃ o,h.get? b=some o
theorem qb.but {i:Addr} {fp:List Addr} {v:Nat->Option Value} {St:Nat->Heap->Prop} (N:qb i fp v St) {k:Nat} {h h' :Heap} {b:Addr} (x:St k h) (e:Heap.ExtBut b h h') (n:b ∉ fp):St k h' :=
 N.keep x fun c hc o q=>e c o (fun z=>n (z ▸ hc)) q
theorem Kf {i l:Addr} (hil:l ≠ i) (xs:Array Value):qb i [i,l] (fun k=>xs[k]?) (fun k h=>h.IsListIter i l k/\h.IsList l xs) where
 mem:= .head _
 item:=fun st hx h=>wpAny_nextOf_list_item st.1 st.2 hx fun h' a b=>h h' ⟨a,st.2.extBut b.extBut hil⟩ b
 stop:=fun hh st hx h=>wpAny_nextOf_list_end hh st.1 st.2 hx h
 keep:=fun st k=>⟨st.1.at fun o e=>k i (.head _) o e,st.2.at fun o e=>k l (.tail _ (.head _)) o e⟩
 there:=fun st b hb=>by
  obtain ⟨⟨o,e,_⟩,o2,e2,_⟩:=st
  rcases List.mem_cons.mp hb with z | hb
  ·exact ⟨o,z ▸ e⟩
  ·exact ⟨o2,(List.mem_singleton.mp hb) ▸ e2⟩
end PySem.ZG
namespace PySem.ZG
open PySem PySem.Spec PySem.Builtin.SmallTypes
section
variable {prog:Program} {w:World} {A:Around} {E:Value->Shared->Prop} {s:Shared} {it l:Addr} {k:Nat} {xs:Array Value} {Q:Value->Shared->Prop}
theorem qX (hit:s.heap.IsTupleIter it l k) (h:wpAny (model prog w) A.in1 (Builtin.«tuple_iterator.__next__» ⟨[.ref it],[]⟩) (fun fin s' =>∃ v,fin= .done (.ret v)/\Q v s') E s):wpAny (model prog w) A (nextOf (.ref it)) Q E s:=by
 unfold nextOf
 exact wpAny_bind (wpAny_callSpecial?_slot (name:=Str.ofString "__next__") hit.typeIs PySem.F.slot_tuple_iterator_next (wpAny_call_entry PySem.F.slot_tuple_iterator_next hit.typeIs PySem.F.entry_tuple_iterator_next
  (wpAny_mono h (fun fin s' ⟨v,e,q⟩=>⟨v,e,wpAny_pure q⟩) fun _ _ z=>z) (PySem.F.args_tuple_iterator_next_1 _)))
theorem tup_item (hit:s.heap.IsTupleIter it l k) (ht:s.heap.IsTuple l xs) {x:Value} (hx:xs[k]? =some x) (h:∀ h',h'.IsTupleIter it l (k+1)->Heap.SameBut it s.heap h' ->Q x { s with heap:=h' }):wpAny (model prog w) A (nextOf (.ref it)) Q E s:=by
 refine qX hit ?_
 obtain ⟨o,ho,hc,hd⟩:=id hit
 obtain ⟨ol,hol,_,nl,hdl⟩:=ht
 refine wpAny_bind (m:=field (.ref it) 0) (wpAny_field ho hd (x:= .ref l) rfl ?_)
 rw [if_neg (show ¬((Value.ref l == Value.none)=true) by exact Bool.false_ne_true)]
 refine wpAny_bind (m:=field (.ref it) 1) (wpAny_field ho hd (x:= .int k 0) rfl (wpAny_bind (m:=seqItems? (.ref l)) (wpAny_seqItems hol hdl ?_)))
 simp only [Int.toNat_natCast,hx]
 have g:=Heap.get?_update_self (Obj.mapFields (·.setIfInBounds 1 (rawInt (k+1:Nat)))) ho (Obj.isFreed_of_fields (Obj.data_mapFields hd _))
 refine wpAny_bind (wpAny_setField ho hd (by simp) (wpAny_pure ⟨x,rfl,h _ ⟨_,g,(Obj.cls_mapFields ..).trans hc, ?_⟩ (Heap.SameBut.update ..)⟩))
 rw [Obj.data_mapFields hd]; simp [rawInt]
theorem tup_stop (hh:A.handled=none) (hit:s.heap.IsTupleIter it l k) (ht:s.heap.IsTuple l xs) (hx:xs[k]? =none)
  (h:∀ h' e,Heap.ExtBut it s.heap h' ->(∃ o,h'.get? e=some o/\o.cls= .type "StopIteration")->E (.ref e) { s with heap:=h' }):wpAny (model prog w) A (nextOf (.ref it)) Q E s:=by
 refine qX hit ?_
 obtain ⟨o,ho,hc,hd⟩:=id hit
 obtain ⟨ol,hol,_,nl,hdl⟩:=ht
 refine wpAny_bind (m:=field (.ref it) 0) (wpAny_field ho hd (x:= .ref l) rfl ?_)
 rw [if_neg (show ¬((Value.ref l == Value.none)=true) by exact Bool.false_ne_true)]
 refine wpAny_bind (m:=field (.ref it) 1) (wpAny_field ho hd (x:= .int k 0) rfl (wpAny_bind (m:=seqItems? (.ref l)) (wpAny_seqItems hol hdl ?_)))
 simp only [Int.toNat_natCast,hx]
 refine wpAny_bind (wpAny_rule (wpAny_bind (wpAny_setField ho hd (by simp) (wpAny_bind (m:=newExc (.type "StopIteration") []) ?_))))
 simp only [newExc,newTuple]
 refine wpAny_bind (wpAny_newObj_type (wpAny_bind (m:=firstArgMember _ _) (wpAny_of_eq (a:=Value.none) (by first | rfl | (simp only [firstArgMember]; rfl)) (wpAny_newObj_type ?_ (by size_fits)))) (by size_fits))
 simp only [raiseNew]
 refine wpAny_bind (wpAny_handled ?_)
 rw [show A.in1.handled=none from hh]
 exact wpAny_bind (wpAny_pure (wpAny_throw (h _ _ (((Heap.SameBut.update ..).extBut.push _).push _) ⟨_,Heap.get?_push_size _ rfl,rfl⟩)))
end
theorem nx_tup {i l:Addr} (hil:l ≠ i) (xs:Array Value):qb i [i,l] (fun k=>xs[k]?) (fun k h=>h.IsTupleIter i l k/\h.IsTuple l xs) where
 mem:= .head _
 item:=fun st hx h=>tup_item st.1 st.2 hx fun h' a b=>h h' ⟨a,st.2.extBut b.extBut hil⟩ b
 stop:=fun hh st hx h=>tup_stop hh st.1 st.2 hx h
 keep:=fun st k=>by
  obtain ⟨⟨o,e,r⟩,o2,e2,r2⟩:=st
  exact ⟨⟨o,k i (.head _) o e,r⟩,o2,k l (.tail _ (.head _)) o2 e2,r2⟩
 there:=fun st b hb=>by
  obtain ⟨⟨o,e,_⟩,o2,e2,_⟩:=st
  rcases List.mem_cons.mp hb with z | hb
  ·exact ⟨o,z ▸ e⟩
  ·exact ⟨o2,(List.mem_singleton.mp hb) ▸ e2⟩
end PySem.ZG
namespace PySem.ZG
open PySem PySem.Spec PySem.Builtin.SmallTypes
structure Ap (z TI TO i1 i2:Addr) (fp1 fp2:List Addr):Prop where
 Iz:TI ≠ z
 Oz:TO ≠ z
 IO:TI ≠ TO
 I1:TI ≠ i1
 I2:TI ≠ i2
 z1:z ∉ fp1
 z2:z ∉ fp2
 O1:TO ∉ fp1
 O2:TO ∉ fp2
 a:i1 ∉ fp2
 b:i2 ∉ fp1
section
variable {prog:Program} {w:World} {A:Around} {E:Value->Shared->Prop} {s:Shared} {z TI TO i1 i2:Addr} {fp1 fp2:List Addr} {v1 v2:Nat->Option Value} {S1 S2:Nat->Heap->Prop} {k:Nat} {x y a b:Value}
theorem Ap.ne1 (D:Ap z TI TO i1 i2 fp1 fp2) (N1:qb i1 fp1 v1 S1):i1 ≠ z/\i1 ≠ TO:=⟨fun e=>D.z1 (e ▸ N1.mem),fun e=>D.O1 (e ▸ N1.mem)⟩
theorem Ap.ne2 (D:Ap z TI TO i1 i2 fp1 fp2) (N2:qb i2 fp2 v2 S2):i2 ≠ z/\i2 ≠ TO:=⟨fun e=>D.z2 (e ▸ N2.mem),fun e=>D.O2 (e ▸ N2.mem)⟩
theorem Kg {Q:Value->Shared->Prop} (N1:qb i1 fp1 v1 S1) (N2:qb i2 fp2 v2 S2) (D:Ap z TI TO i1 i2 fp1 fp2) (hz:IsZip s.heap z TI TO .none) (hTI:IsPair s.heap TI (.ref i1) (.ref i2)) (hTO:IsPair s.heap TO a b) (p1:S1 k s.heap) (p2:S2 k s.heap) (hx:v1 k=some x) (hy:v2 k=some y)
  (hQ:∀ h',IsZip h' z TI TO (rawInt s.heap.objs.size)->IsPair h' TO x y->S1 (k+1) h' ->S2 (k+1) h' ->IsPair h' s.heap.objs.size x y->
   (∀ c o,c ≠ z->c ≠ TO->c ≠ i1->c ≠ i2->s.heap.get? c=some o->h'.get? c=some o)->Q (.ref s.heap.objs.size) { s with heap:=h' }):
  wpAny (model prog w) A (Builtin.«zip.__next__» ⟨[.ref z],[]⟩) (fun fin s' =>∃ v,fin= .done (.ret v)/\Q v s') E s:=by
 refine wpAny_bind (m:=field (.ref z) 2) (wpAny_field hz rfl (x:= .bool false) rfl (wpAny_bind (m:=field (.ref z) 3) (wpAny_field hz rfl (x:= .ref TI) rfl (wpAny_bind (wpAny_seqItems hTI rfl ?_)))))
 refine wpAny_bind (m:=ownedTupleIsFree (.ref z)) ?_
 unfold ownedTupleIsFree
 refine wpAny_bind (wpAny_field hz rfl (x:= .none) rfl (wpAny_pure ?_))
 simp only [if_true]
 refine wpAny_bind (wpAny_rule (wpAny_bind (wpAny_field hz rfl (x:= .ref TO) rfl (wpAny_bind (wpAny_setField_rec hz (by simp) fun g1 z1 e1=> ?_)))))
 replace z1:IsZip g1 z TI TO .ellipsis:=z1
 refine wpAny_bind ?_
 simp only [List.zipIdx_cons,List.zipIdx_nil,List.forIn_cons,List.forIn_nil]
 refine wpAny_bind (wpAny_bind (wpAny_onRaise (wpAny_bind (m:=nextOf (.ref i1)) (N1.item (N1.but p1 e1.extBut D.z1) hx fun g2 q1 e2=>wpAny_pure ?_))))
 have t2:IsPair g2 TO a b:=e2.extBut _ _ (D.ne1 N1).2.symm (e1.extBut _ _ D.Oz hTO)
 refine wpAny_bind (wpAny_seqItems t2 rfl (wpAny_bind (wpAny_updateSeq_pair t2 fun g3 t3 e3=> ?_)))
 replace t3:IsPair g3 TO x b:=t3
 refine wpAny_bind (wpAny_letGo (wpAny_pure ?_))
 refine wpAny_bind (wpAny_bind (wpAny_onRaise (wpAny_bind (m:=nextOf (.ref i2)) (N2.item (N2.but (N2.but (N2.but p2 e1.extBut D.z2) e2.extBut D.a) e3.extBut D.O2) hy fun g4 q2 e4=>wpAny_pure ?_))))
 have t4:IsPair g4 TO x b:=e4.extBut _ _ (D.ne2 N2).2.symm t3
 refine wpAny_bind (wpAny_seqItems t4 rfl (wpAny_bind (wpAny_updateSeq_pair t4 fun g5 t5 e5=> ?_)))
 replace t5:IsPair g5 TO x y:=t5
 refine wpAny_bind (wpAny_letGo (wpAny_pure (wpAny_pure ?_)))
 refine wpAny_bind (wpAny_seqItems t5 rfl (wpAny_bind (wpAny_newTuple ?_)))
 have sz:g5.objs.size=s.heap.objs.size:=by rw [e5.1,e4.1,e3.1,e2.1,e1.1]
 have z5:IsZip g5 z TI TO .ellipsis:=e5.extBut _ _ D.Oz.symm (e4.extBut _ _ (D.ne2 N2).1.symm (e3.extBut _ _ D.Oz.symm (e2.extBut _ _ (D.ne1 N1).1.symm z1)))
 have k5:∀ c o,c ≠ z->c ≠ TO->c ≠ i1->c ≠ i2->s.heap.get? c=some o->g5.get? c=some o:=fun c o c1 c2 c3 c4 e=>
  e5.extBut _ _ c2 (e4.extBut _ _ c4 (e3.extBut _ _ c2 (e2.extBut _ _ c3 (e1.extBut _ _ c1 e))))
 have r1:S1 (k+1) g5:=N1.but (N1.but (N1.but q1 e3.extBut D.O1) e4.extBut D.b) e5.extBut D.O1
 have r2:S2 (k+1) g5:=N2.but q2 e5.extBut D.O2
 refine wpAny_bind (m:=ownedTupleHandOut (.ref z) (.ref g5.objs.size)) ?_
 unfold ownedTupleHandOut
 have z6:IsZip (g5.push { cls:= .type "tuple",data:= .seq #[x,y] }) z TI TO .ellipsis:=Heap.get?_push_of_some _ z5
 refine wpAny_bind (wpAny_setField_rec z6 (by simp) fun g7 z7 e7=> ?_)
 replace z7:IsZip g7 z TI TO (rawInt g5.objs.size):=z7
 refine wpAny_setField_rec z7 (by simp) fun g8 z8 e8=> ?_
 replace z8:IsZip g8 z TI TO (rawInt g5.objs.size):=z8
 have up:∀ c o,c ≠ z->g5.get? c=some o->g8.get? c=some o:=fun c o c1 e=>e8.extBut _ _ c1 (e7.extBut _ _ c1 (Heap.get?_push_of_some _ e))
 have hn:g5.objs.size ≠ z:=Nat.ne_of_gt (Heap.lt_size z5)
 have t8:IsPair g8 g5.objs.size x y:=e8.extBut _ _ hn (e7.extBut _ _ hn (Heap.get?_push_size _ rfl))
 rw [sz] at z8 t8
 refine wpAny_pure ⟨_,rfl, ?_⟩
 show Q (.ref g5.objs.size) _
 rw [sz]
 exact hQ g8 z8 (up _ _ D.Oz t5) (N1.keep r1 fun c hc o e=>up c o (fun q=>D.z1 (q ▸ hc)) e) (N2.keep r2 fun c hc o e=>up c o (fun q=>D.z2 (q ▸ hc)) e) t8 fun c o c1 c2 c3 c4 e=>up c o c1 (k5 c o c1 c2 c3 c4 e)
theorem Kh {Q:Fin->Shared->Prop} (hh:A.handled=none) (N1:qb i1 fp1 v1 S1) (N2:qb i2 fp2 v2 S2) (D:Ap z TI TO i1 i2 fp1 fp2) (hz:IsZip s.heap z TI TO .none) (hTI:IsPair s.heap TI (.ref i1) (.ref i2)) (hTO:IsPair s.heap TO a b) (p1:S1 k s.heap) (p2:S2 k s.heap) (hend:v1 k=none\/v2 k=none)
  (hE:∀ h' e,(∀ c o,c ≠ z->c ≠ TO->c ≠ i1->c ≠ i2->s.heap.get? c=some o->h'.get? c=some o)->(∃ o,h'.get? e=some o/\o.cls= .type "StopIteration")->E (.ref e) { s with heap:=h' }):
  wpAny (model prog w) A (Builtin.«zip.__next__» ⟨[.ref z],[]⟩) Q E s:=by
 refine wpAny_bind (m:=field (.ref z) 2) (wpAny_field hz rfl (x:= .bool false) rfl (wpAny_bind (m:=field (.ref z) 3) (wpAny_field hz rfl (x:= .ref TI) rfl (wpAny_bind (wpAny_seqItems hTI rfl ?_)))))
 refine wpAny_bind (m:=ownedTupleIsFree (.ref z)) ?_
 unfold ownedTupleIsFree
 refine wpAny_bind (wpAny_field hz rfl (x:= .none) rfl (wpAny_pure ?_))
 simp only [if_true]
 refine wpAny_bind (wpAny_rule (wpAny_bind (wpAny_field hz rfl (x:= .ref TO) rfl (wpAny_bind (wpAny_setField_rec hz (by simp) fun g1 z1 e1=> ?_)))))
 replace z1:IsZip g1 z TI TO .ellipsis:=z1
 refine wpAny_bind ?_
 simp only [List.zipIdx_cons,List.zipIdx_nil,List.forIn_cons,List.forIn_nil]
 have off:∀ {g:Heap} {e:Addr} {oe:Obj},IsZip g z TI TO .ellipsis->g.get? e=some oe->oe.cls= .type "StopIteration"->e ≠ z:=fun hg he hc q=>by
  subst q; rw [hg] at he; cases he; simp at hc
 cases hx:v1 k with
 | none=>
  refine wpAny_bind (wpAny_bind (wpAny_onRaise (wpAny_bind (m:=nextOf (.ref i1)) (N1.stop hh (N1.but p1 e1.extBut D.z1) hx fun g2 e e2 he=> ?_))))
  obtain ⟨oe,ho,hc⟩:=he
  have z2:IsZip g2 z TI TO .ellipsis:=e2 _ _ (D.ne1 N1).1.symm z1
  exact wpAny_setField_rec z2 (by simp) fun g3 _ e3=>hE g3 e (fun c o c1 _ c3 _ q=>e3.extBut _ _ c1 (e2 _ _ c3 (e1.extBut _ _ c1 q))) ⟨oe,e3.extBut _ _ (off z2 ho hc) ho,hc⟩
 | some x=>
  have hy:v2 k=none:=by
   rcases hend with q | q
   ·rw [hx] at q; cases q
   ·exact q
  refine wpAny_bind (wpAny_bind (wpAny_onRaise (wpAny_bind (m:=nextOf (.ref i1)) (N1.item (N1.but p1 e1.extBut D.z1) hx fun g2 q1 e2=>wpAny_pure ?_))))
  have t2:IsPair g2 TO a b:=e2.extBut _ _ (D.ne1 N1).2.symm (e1.extBut _ _ D.Oz hTO)
  refine wpAny_bind (wpAny_seqItems t2 rfl (wpAny_bind (wpAny_updateSeq_pair t2 fun g3 t3 e3=>wpAny_bind (wpAny_letGo (wpAny_pure ?_)))))
  refine wpAny_bind (wpAny_bind (wpAny_onRaise (wpAny_bind (m:=nextOf (.ref i2)) (N2.stop hh (N2.but (N2.but (N2.but p2 e1.extBut D.z2) e2.extBut D.a) e3.extBut D.O2) hy fun g4 e e4 he=> ?_))))
  obtain ⟨oe,ho,hc⟩:=he
  have z4:IsZip g4 z TI TO .ellipsis:=e4 _ _ (D.ne2 N2).1.symm (e3.extBut _ _ D.Oz.symm (e2.extBut _ _ (D.ne1 N1).1.symm z1))
  exact wpAny_setField_rec z4 (by simp) fun g5 _ e5=>hE g5 e (fun c o c1 c2 c3 c4 q=>e5.extBut _ _ c1 (e4 _ _ c4 (e3.extBut _ _ c2 (e2.extBut _ _ c3 (e1.extBut _ _ c1 q))))) ⟨oe,e5.extBut _ _ (off z4 ho hc) ho,hc⟩
theorem Ki {Q:Option Value->Shared->Prop} (N1:qb i1 fp1 v1 S1) (N2:qb i2 fp2 v2 S2) (D:Ap z TI TO i1 i2 fp1 fp2) (hz:IsZip s.heap z TI TO .none) (hTI:IsPair s.heap TI (.ref i1) (.ref i2)) (hTO:IsPair s.heap TO a b) (p1:S1 k s.heap) (p2:S2 k s.heap) (hx:v1 k=some x) (hy:v2 k=some y)
  (hQ:∀ h',IsZip h' z TI TO (rawInt s.heap.objs.size)->IsPair h' TO x y->S1 (k+1) h' ->S2 (k+1) h' ->IsPair h' s.heap.objs.size x y->
   (∀ c o,c ≠ z->c ≠ TO->c ≠ i1->c ≠ i2->s.heap.get? c=some o->h'.get? c=some o)->Q (some (.ref s.heap.objs.size)) { s with heap:=h' }):wpAny (model prog w) A (pyNext (.ref z)) Q E s:=by
 have ty:s.TypeIs (.ref z) "zip":=⟨_,hz,rfl⟩
 unfold pyNext
 exact wpAny_bind (wpAny_attempt (wpAny_callSpecial?_slot (name:=Str.ofString "__next__") ty PySem.F.slot_zip_next (wpAny_call_entry PySem.F.slot_zip_next ty PySem.F.entry_zip_next
  (Kg N1 N2 D hz hTI hTO p1 p2 hx hy fun h' a1 a2 a3 a4 a5 a6=>wpAny_pure (hQ h' a1 a2 a3 a4 a5 a6)) (PySem.F.args_zip_next_1 _))))
theorem Kj {Q:Option Value->Shared->Prop} (hh:A.handled=none) (N1:qb i1 fp1 v1 S1) (N2:qb i2 fp2 v2 S2) (D:Ap z TI TO i1 i2 fp1 fp2) (hz:IsZip s.heap z TI TO .none) (hTI:IsPair s.heap TI (.ref i1) (.ref i2)) (hTO:IsPair s.heap TO a b) (p1:S1 k s.heap) (p2:S2 k s.heap) (hend:v1 k=none\/v2 k=none)
  (hQ:∀ h',(∀ c o,c ≠ z->c ≠ TO->c ≠ i1->c ≠ i2->s.heap.get? c=some o->h'.get? c=some o)->Q none { s with heap:=h' }):wpAny (model prog w) A (pyNext (.ref z)) Q E s:=by
 have ty:s.TypeIs (.ref z) "zip":=⟨_,hz,rfl⟩
 unfold pyNext
 refine wpAny_bind (wpAny_attempt (wpAny_callSpecial?_slot (name:=Str.ofString "__next__") ty PySem.F.slot_zip_next (wpAny_call_entry PySem.F.slot_zip_next ty PySem.F.entry_zip_next
  (Kh hh N1 N2 D hz hTI hTO p1 p2 hend fun h' e kp he=> ?_) (PySem.F.args_zip_next_1 _))))
 obtain ⟨o,ho,hc⟩:=he
 exact wpAny_bind (wpAny_isInstance (T:="StopIteration") (b:=true) ⟨o,ho,hc⟩ isSubtype_stop (wpAny_pure (hQ _ kp)))
end
end PySem.ZG
namespace PySem.ZG
open PySem PySem.Spec PySem.Builtin.SmallTypes
structure Kk (l:Addr) (o:Obj) (P:Heap->Prop):Prop where
 go:∀ {prog:Program} {w:World} {A:Around} {E:Value->Shared->Prop} {s:Shared} {Q:Value->Shared->Prop},P s.heap->Q (.ref s.heap.objs.size) { s with heap:=s.heap.push o }->wpAny (model prog w) A (pyIter (.ref l)) Q E s
 push:∀ {h:Heap} (o' :Obj),P h->P (h.push o')
 fresh:o.isFreed=false
noncomputable abbrev oL (l:Addr):Obj:={ cls:= .type "list_iterator",data:= .fields #[.ref l, .int 0 0] }
noncomputable abbrev oT (l:Addr):Obj:={ cls:= .type "tuple_iterator",data:= .fields #[.ref l, .int 0 0] }
theorem Kl (l:Addr) (xs:Array Value):Kk l (oL l) (fun h=>h.IsList l xs):=⟨fun p q=>wpAny_pyIter_list p q,fun o p=>Heap.IsList.push p o,rfl⟩
theorem Go (l:Addr) (xs:Array Value):Kk l (oT l) (fun h=>h.IsTuple l xs):=⟨fun p q=>wpAny_pyIter_tuple p q,fun o p=>Heap.IsTuple.push p o,rfl⟩
noncomputable abbrev zh2 (h:Heap) (o1 o2:Obj):Heap:=(h.push o1).push o2
noncomputable abbrev zh3 (h:Heap) (o1 o2:Obj):Heap:=(zh2 h o1 o2).push { cls:= .type "tuple",data:= .seq #[.ref h.objs.size, .ref (h.push o1).objs.size] }
noncomputable abbrev zh4 (h:Heap) (o1 o2:Obj):Heap:=(zh3 h o1 o2).push { cls:= .type "tuple",data:= .seq #[.none, .none] }
noncomputable abbrev zh5 (h:Heap) (o1 o2:Obj):Heap:=(zh4 h o1 o2).push { cls:= .type "zip",data:= .fields #[.none, .bool false, .bool false, .ref (zh2 h o1 o2).objs.size, .ref (zh3 h o1 o2).objs.size] }
theorem Gp {l1 l2:Addr} {o1 o2:Obj} {P1 P2:Heap->Prop} (J1:Kk l1 o1 P1) (J2:Kk l2 o2 P2):
  Meets (Builtin.«zip.__new__» ⟨[.type "zip", .ref l1, .ref l2],[]⟩) (fun _ R s=>P1 s.heap/\P2 s.heap/\R (.ok (.ret (.ref (zh4 s.heap o1 o2).objs.size))) { s with heap:=zh5 s.heap o1 o2 }):=
 .of_wp fun prog w A R s h=>by
  obtain ⟨hp,g,d,tk,os⟩:=s
  obtain ⟨q1,q2,h⟩:=h
  have hsub:=sub_zip
  have c1:P1 (Shared.heap ⟨hp,g,d,tk,os⟩):=q1
  have c2:P2 (Shared.heap ⟨hp.push o1,g,d,tk,os⟩):=J2.push o1 q2
  wp_walk using J1.go c1,J2.go c2
  exact ⟨_,rfl,h⟩
end PySem.ZG
namespace PySem.ZG
open PySem PySem.Spec PySem.Builtin.SmallTypes
theorem Km {prog:Program} {w:World} {A:Around} {E:Value->Shared->Prop} {s:Shared} {l1 l2:Addr} {o1 o2:Obj} {P1 P2:Heap->Prop} {Q:Value->Shared->Prop} (J1:Kk l1 o1 P1) (J2:Kk l2 o2 P2) (q1:P1 s.heap) (q2:P2 s.heap)
  (h:∀ h' n,n=s.heap.objs.size->IsZip h' (n+4) (n+2) (n+3) .none->IsPair h' (n+2) (.ref n) (.ref (n+1))->IsPair h' (n+3) .none .none->h'.get? n=some o1->h'.get? (n+1)=some o2->
   (∀ c o,s.heap.get? c=some o->h'.get? c=some o)->Q (.ref (n+4)) { s with heap:=h' }):wpAny (model prog w) A (call (.type "zip") [.ref l1, .ref l2]) Q E s:=by
 refine callType_new PySem.F.called_zip (by decide) (PySem.F.typeCall_zip_2 _ _) (PySem.F.newCall_zip_2 _ _) (fun obj=>PySem.F.args_object_init_3 obj _ _) PySem.F.entry_zip_new (Gp J1 J2) ⟨q1,q2, ?_⟩
 have n1:(s.heap.push o1).objs.size=s.heap.objs.size+1:=Heap.size_push ..
 have n2:(zh2 s.heap o1 o2).objs.size=s.heap.objs.size+2:=by rw [Heap.size_push,n1]
 have n3:(zh3 s.heap o1 o2).objs.size=s.heap.objs.size+3:=by rw [Heap.size_push,n2]
 have n4:(zh4 s.heap o1 o2).objs.size=s.heap.objs.size+4:=by rw [Heap.size_push,n3]
 have up:∀ {h:Heap} {c:Addr} {o:Obj} (o' :Obj),h.get? c=some o->(h.push o').get? c=some o:=fun o' e=>Heap.get?_push_of_some o' e
 have e5:(zh5 s.heap o1 o2).get? (zh4 s.heap o1 o2).objs.size=some _:=Heap.get?_push_size _ rfl
 have e4:(zh5 s.heap o1 o2).get? (zh3 s.heap o1 o2).objs.size=some _:=up _ (Heap.get?_push_size _ rfl)
 have e3:(zh5 s.heap o1 o2).get? (zh2 s.heap o1 o2).objs.size=some _:=up _ (up _ (Heap.get?_push_size _ rfl))
 have e2:(zh5 s.heap o1 o2).get? (s.heap.push o1).objs.size=some _:=up _ (up _ (up _ (Heap.get?_push_size _ J2.fresh)))
 have e1:(zh5 s.heap o1 o2).get? s.heap.objs.size=some _:=up _ (up _ (up _ (up _ (Heap.get?_push_size _ J1.fresh))))
 show _/\_
 rw [n2,n3,n4] at e5
 rw [n1,n2] at e3
 rw [n3] at e4
 rw [n1] at e2
 rw [n4]
 exact ⟨⟨_,e5,rfl⟩,h _ _ rfl e5 e3 e4 e1 e2 fun c o q=>up _ (up _ (up _ (up _ (up _ q))))⟩
end PySem.ZG
namespace PV
open PySem PySem.Spec PyProof.Rows L2 PySem.ZG
inductive SK where
 | l | t
noncomputable def SK.it:SK->Heap->Addr->Addr->Nat->Prop
 | .l=>fun h i l k=>h.IsListIter i l k
 | .t=>fun h i l k=>h.IsTupleIter i l k
noncomputable def SK.has:SK->Heap->Addr->Array Value->Prop
 | .l=>fun h l xs=>h.IsList l xs
 | .t=>fun h l xs=>h.IsTuple l xs
noncomputable def SK.sq (K:PySem.W.Frag):SK->Hp->Addr->List V->Prop
 | .l=>fun H a xs=>SqL K H a xs
 | .t=>fun H a xs=>SqT K H a xs
noncomputable def SK.tr:SK->List V->HO
 | .l=> .lst
 | .t=> .tup
noncomputable def SK.ob:SK->Addr->Obj
 | .l=>oL
 | .t=>oT
theorem SK.nx (k:SK) {i l:Addr} (h:l ≠ i) (xs:Array Value):qb i [i,l] (fun n=>xs[n]?) (fun n hp=>k.it hp i l n/\k.has hp l xs):=by
 cases k with
 | l=>exact Kf h xs
 | t=>exact nx_tup h xs
theorem SK.of (k:SK) (l:Addr) (xs:Array Value):Kk l (k.ob l) (fun h=>k.has h l xs):=by
 cases k with
 | l=>exact Kl l xs
 | t=>exact Go l xs
theorem SK.start (k:SK) {h:Heap} {i l:Addr} (e:h.get? i=some (k.ob l)):k.it h i l 0:=by
 cases k with
 | l=>exact ⟨_,e,rfl,rfl⟩
 | t=>exact ⟨_,e,rfl,rfl⟩
theorem SK.obj {k:SK} {h:Heap} {i l:Addr} {n:Nat} (x:k.it h i l n):∃ o,h.get? i=some o/\∀ v,o.data ≠ .cell v:=by
 cases k with
 | l=>obtain ⟨o,e,_,d⟩:=x; exact ⟨o,e,fun v z=>by rw [d] at z; cases z⟩
 | t=>obtain ⟨o,e,_,d⟩:=x; exact ⟨o,e,fun v z=>by rw [d] at z; cases z⟩
theorem SK.at_ {k:SK} {h h' :Heap} {i l:Addr} {n:Nat} (x:k.it h i l n) (q:∀ o,h.get? i=some o->h'.get? i=some o):k.it h' i l n:=by
 cases k with
 | l=>obtain ⟨o,e,r⟩:=x; exact ⟨o,q o e,r⟩
 | t=>obtain ⟨o,e,r⟩:=x; exact ⟨o,q o e,r⟩
theorem SK.sqOf {K:PySem.W.Frag} (k:SK) {H:Hp} {a:Addr} {xs:List V} (e:H a=some (k.tr xs)):k.sq K H a xs:=by
 cases k with
 | l=>exact SqL.of e
 | t=>exact SqT.of e
theorem Inv.seq {X:Cx} {pins:List (Addr×Obj)} {σ:Sg} {H:Hp} {s:Shared} (I:L2.Inv X pins σ H s) (k:SK) {a:Addr} {xs:List V} (h:k.sq X.K H a xs):∃ its:List Value,ZM xs its/\k.has s.heap a its.toArray/\∃ o,s.heap.get? a=some o:=by
 cases k with
 | l=>
  obtain ⟨its,r,p,_⟩:=I.list h
  obtain ⟨o,_,e,_⟩:=id p
  exact ⟨its,r,p.isList,o,e⟩
 | t=>
  obtain ⟨its,r,p,_⟩:=I.tuple h
  obtain ⟨o,e,_⟩:=id p
  exact ⟨its,r,p,o,e⟩
noncomputable def Itz (K:PySem.W.Frag) (k1 k2:SK) (l1 l2:Addr):It:=
 ⟨fun i H=>∃ xs ys x y,k1.sq K H l1 xs/\k2.sq K H l2 ys/\xs[i]? =some x/\ys[i]? =some y,fun i H v H' =>∃ p x y,H p=none/\v= .ref p/\(∀ xs,k1.sq K H l1 xs->xs[i]? =some x)/\(∀ ys,k2.sq K H l2 ys->ys[i]? =some y)/\H' =upd H p (.tup [x,y]),
  fun i H=>∃ xs ys,k1.sq K H l1 xs/\k2.sq K H l2 ys/\(xs.length<=i\/ys.length<=i)⟩
theorem Inv.seq_inj {X:Cx} {pins:List (Addr×Obj)} {σ:Sg} {H:Hp} {s:Shared} (I:L2.Inv X pins σ H s) (k:SK) {a:Addr} {xs ys:List V} (h:k.sq X.K H a xs) (h' :k.sq X.K H a ys):xs=ys:=by
 cases k with
 | l=>exact I.list_inj h h'
 | t=>exact I.tuple_inj h h'
end PV
namespace PV
open PySem PySem.Spec PyProof.Rows L2 PySem.ZG
theorem nN {a b:Nat} (h:a ≠ b): @Ne Addr a b:=h
theorem nM {a b c:Nat} (h:a ≠ b) (h' :a ≠ c):¬ @Membership.mem Addr (List Addr) _ [b,c] a:=fun q=>by
 rcases List.mem_cons.mp q with z | z
 ·exact h z
 ·exact h' (List.mem_singleton.mp z)
theorem xZ {P:Program} {w:World} {K:PySem.W.Frag} {elts:List Expr} {kk:Nat} {pt:Pos} (k1 k2:SK) {n l1 l2:Nat} (h1:l1 < n) (h2:l2 < n):
  xy P w K (.Tuple elts kk pt) (Itz K k1 k2 l1 l2) [n+4,n+2,n+3,n,n+1] (n+4)
   (fun i h=>IsZip h (n+4) (n+2) (n+3) .none/\IsPair h (n+2) (.ref n) (.ref (n+1))/\(∃ a b,IsPair h (n+3) a b)/\k1.it h n l1 i/\k2.it h (n+1) l2 i):=by
 have D:Ap (n+4) (n+2) (n+3) n (n+1) [n,l1] [n+1,l2]:=by
  refine ⟨nN (by omega),nN (by omega),nN (by omega),nN (by omega),nN (by omega),nM (by omega) (by omega),nM (by omega) (by omega),nM (by omega) (by omega),nM (by omega) (by omega),nM (by omega) (by omega),nM (by omega) (by omega)⟩
 refine ⟨by simp,fun i h st b hb=> ?_,fun i h h' st k=> ?_, ?_, ?_, ?_⟩
 ·obtain ⟨hz,hI,⟨a,c,hO⟩,p1,p2⟩:=st
  simp only [List.mem_cons,List.not_mem_nil,or_false] at hb
  rcases hb with rfl | rfl | rfl | rfl | rfl
  ·exact ⟨_,hz,fun v z=>nomatch z⟩
  ·exact ⟨_,hI,fun v z=>nomatch z⟩
  ·exact ⟨_,hO,fun v z=>nomatch z⟩
  ·exact SK.obj p1
  ·exact SK.obj p2
 ·obtain ⟨hz,hI,⟨a,c,hO⟩,p1,p2⟩:=st
  exact ⟨k _ (by simp) _ hz,k _ (by simp) _ hI,⟨a,c,k _ (by simp) _ hO⟩,SK.at_ p1 fun o e=>k n (by simp) o e,SK.at_ p2 fun o e=>k (n+1) (by simp) o e⟩
 ·intro X hP hw hK hc i pins s σ H E I hf st hg
  subst hP hw hK
  obtain ⟨xs,ys,x,y,s1,s2,hx,hy⟩:=hg
  obtain ⟨hz,hI,⟨a,c,hO⟩,p1,p2⟩:=st
  obtain ⟨its1,r1,b1,_⟩:=Inv.seq I k1 s1
  obtain ⟨its2,r2,b2,_⟩:=Inv.seq I k2 s2
  obtain ⟨u,hu,ru⟩:=r1.get hx
  obtain ⟨v,hv,rv⟩:=r2.get hy
  refine Ki (k1.nx (Nat.ne_of_lt h1) its1.toArray) (k2.nx (i:=n+1) (nN (by omega)) its2.toArray) D hz hI hO ⟨p1,b1⟩ ⟨p2,b2⟩ (x:=u) (y:=v) (by simpa using hu) (by simpa using hv) fun g a1 a2 a3 a4 a5 kp=>⟨_,rfl, ?_⟩
  refine wpAny_letOwnedTupleGo_zip a1 fun g2 z2 e2=> ?_
  have hlt:n+4 < s.heap.objs.size:=Heap.lt_size hz
  have ne:∀ b:Nat,b<=n+4->s.heap.objs.size ≠ b:=fun b hb=>by
   have hlt:n+4 < s.heap.objs.size:=hlt
   omega
  have kp2:∀ b o,b ∉ [n+4,n+2,n+3,n,n+1]->s.heap.get? b=some o->g2.get? b=some o:=fun b o hb e=>by
   simp only [List.mem_cons,List.not_mem_nil,or_false,not_or] at hb
   exact e2.extBut _ _ hb.1 (kp b o hb.1 hb.2.2.1 hb.2.2.2.1 hb.2.2.2.2 e)
  have g2P:IsPair g2 s.heap.objs.size u v:=e2.extBut _ _ (ne _ (Nat.le_refl _)) a5
  have g2I:IsPair g2 (n+2) (.ref n) (.ref (n+1)):=e2.extBut _ _ D.Iz (kp _ _ D.Iz D.IO D.I1 D.I2 hI)
  have g2O:IsPair g2 (n+3) u v:=e2.extBut _ _ D.Oz a2
  have q1:k1.it g2 n l1 (i+1):=SK.at_ a3.1 fun o e=>e2.extBut _ _ (nN (by omega)) e
  have q2:k2.it g2 (n+1) l2 (i+1):=SK.at_ a4.1 fun o e=>e2.extBut _ _ (nN (by omega)) e
  have hfr:H s.heap.objs.size=none:=I.hok.fresh (Nat.le_refl _)
  refine ⟨.ref s.heap.objs.size,upd H s.heap.objs.size (.tup [x,y]),Inv.laidT (s:=s) (h' :=g2) (ch:=[n+4,n+2,n+3,n,n+1]) (tk:=s.toks) I hf kp2 (fun b o hb _=> ?_) (Nat.le_refl _)
   ⟨by rw [sizeLine_eq]; show 2<=16777216; decide,[u,v], .cons ru (.cons rv .nil),⟨_,g2P,rfl,_,rfl⟩⟩,rfl,⟨_,x,y,hfr,rfl,fun zs hq=>by rw [← Inv.seq_inj I k1 s1 hq]; exact hx,fun zs hq=>by rw [← Inv.seq_inj I k2 s2 hq]; exact hy,rfl⟩,⟨z2,g2I,⟨u,v,g2O⟩,q1,q2⟩,fun b hb=> ?_⟩
  ·simp only [List.mem_cons,List.not_mem_nil,or_false] at hb
   rcases hb with rfl | rfl | rfl | rfl | rfl
   ·exact ⟨_,z2⟩
   ·exact ⟨_,g2I⟩
   ·exact ⟨_,g2O⟩
   ·obtain ⟨o',e',_⟩:=SK.obj q1; exact ⟨o',e'⟩
   ·obtain ⟨o',e',_⟩:=SK.obj q2; exact ⟨o',e'⟩
  ·have hb2:(b:Nat)<=n+4:=by
    have hb:b=n+4\/b=n+2\/b=n+3\/b=n\/b=n+1:=by simpa using hb
    rcases hb with rfl | rfl | rfl | rfl | rfl
    ·exact Nat.le_refl _
    ·exact Nat.add_le_add_left (by decide) n
    ·exact Nat.add_le_add_left (by decide) n
    ·exact Nat.le_add_right _ _
    ·exact Nat.add_le_add_left (by decide) n
   rw [zJ fun z=>ne b hb2 z.symm]
   exact (hf b hb).1
 ·intro X hP hw hK hc i pins s σ H E I hf st hg
  subst hP hw hK
  obtain ⟨xs,ys,s1,s2,hend⟩:=hg
  obtain ⟨hz,hI,⟨a,c,hO⟩,p1,p2⟩:=st
  obtain ⟨its1,r1,b1,_⟩:=Inv.seq I k1 s1
  obtain ⟨its2,r2,b2,_⟩:=Inv.seq I k2 s2
  have l1' :=r1.length
  have l2' :=r2.length
  refine Kj (I.ok.hd hc) (k1.nx (Nat.ne_of_lt h1) its1.toArray) (k2.nx (i:=n+1) (nN (by omega)) its2.toArray) D hz hI hO ⟨p1,b1⟩ ⟨p2,b2⟩ (k:=i) ?_ fun g kp=>⟨rfl, ?_⟩
  ·rcases hend with q | q
   ·exact .inl (Array.getElem?_eq_none (by rw [List.size_toArray,← l1']; exact q))
   ·exact .inr (Array.getElem?_eq_none (by rw [List.size_toArray,← l2']; exact q))
  ·have kp2:∀ b o,b ∉ [n+4,n+3,n,n+1]->s.heap.get? b=some o->g.get? b=some o:=fun b o hb e=>by
    simp only [List.mem_cons,List.not_mem_nil,or_false,not_or] at hb
    exact kp b o hb.1 hb.2.1 hb.2.2.1 hb.2.2.2 e
   have nch:∀ b u,H b=some u->b ∉ [n+4,n+3,n,n+1]:=fun b u e hb=>by
    have hb' :b∈[n+4,n+2,n+3,n,n+1]:=by
     simp only [List.mem_cons,List.not_mem_nil,or_false] at hb ⊢
     rcases hb with q | q | q | q
     ·exact .inl q
     ·exact .inr (.inr (.inl q))
     ·exact .inr (.inr (.inr (.inl q)))
     ·exact .inr (.inr (.inr (.inr q)))
    rw [(hf b hb').1] at e; cases e
   refine I.call' (s' :={ s with heap:=g }) (ch:=[n+4,n+3,n,n+1]) rfl ⟨fun b o e _ _ hc=>kp2 b o hc e,fun b o e _ _ hc=>⟨o.slots,kp2 b o hc e⟩,fun b o e q _=>q,fun b o e hc=>⟨o,kp2 b o hc e⟩,fun b ys e=>e,fun b o u e=>e,fun b ps e=>⟨#[],by rw [e]; simp⟩⟩ (fun b u e=> ?_) I.bare fun b hb=> ?_
   ·refine (I.hok b u e).stay (fun c v hc q=>kp2 c v ?_ q) (fun _ q=>q) fun _ _ q=>q
    rcases hc with rfl | hc
    ·exact nch c u e
    ·exact nch c _ hc
   ·have hb' :b∈[n+4,n+2,n+3,n,n+1]:=by
     simp only [List.mem_cons,List.not_mem_nil,or_false] at hb ⊢
     rcases hb with q | q | q | q
     ·exact .inl q
     ·exact .inr (.inr (.inl q))
     ·exact .inr (.inr (.inr (.inl q)))
     ·exact .inr (.inr (.inr (.inr q)))
    obtain ⟨f0,f1,f2,f3,f4,f5⟩:=hf b hb'
    exact ⟨f3,f1,f4,f5⟩
 ·intro A i s Q E st h
  exact wpAny_pyIter_zip st.1 h
noncomputable def X0 (xs ys:List T):List T:=(xs.zip ys).map fun p=>T.tup [p.1,p.2]
theorem X1 {xs ys:List T} {i:Nat} {t:T} (h:(X0 xs ys)[i]? =some t):∃ x y,xs[i]? =some x/\ys[i]? =some y/\t= .tup [x,y]:=by
 unfold X0 at h
 rw [List.getElem?_map] at h
 cases e:(xs.zip ys)[i]? with
 | none=>rw [e] at h; cases h
 | some p=>
  rw [e] at h
  cases h
  have:=List.getElem?_zip_eq_some.mp e
  exact ⟨p.1,p.2,this.1,this.2,rfl⟩
theorem qc (xs ys:List T):(X0 xs ys).length=min xs.length ys.length:=by unfold X0; simp
theorem Gq {K:PySem.W.Frag} {B1 H1:Hp} {k1 k2:SK} {a b:Addr} {xs ys:List V} {ts us:List T} (ha:B1 a=some (k1.tr xs)) (hb:B1 b=some (k2.tr ys)) (ra:Z4 B1 xs ts) (rb:Z4 B1 ys us):rI B1 H1 (Itz K k1 k2 a b) (X0 ts us):=fun B2 H2 s1 s2=>by
 have a2:=k1.sqOf (K:=K) (s2 _ _ (s1 _ _ ha))
 have b2:=k2.sqOf (K:=K) (s2 _ _ (s1 _ _ hb))
 rw [qc]
 refine ⟨fun i hi=> ?_,fun i t x H3 e y=> ?_,fun i hi=>⟨xs,ys,a2,b2, ?_⟩⟩
 ·obtain ⟨v,e1,_⟩:=ra.get (List.getElem?_eq_getElem (show i < ts.length by omega))
  obtain ⟨u,e2,_⟩:=rb.get (List.getElem?_eq_getElem (show i < us.length by omega))
  exact ⟨xs,ys,v,u,a2,b2,e1,e2⟩
 ·obtain ⟨p,v,u,hp,rfl,y1,y2,rfl⟩:=y
  obtain ⟨t1,t2,et,eu,rfl⟩:=X1 e
  obtain ⟨v',e1,r1⟩:=ra.get et
  obtain ⟨u',e2,r2⟩:=rb.get eu
  have q1:=y1 xs a2
  have q2:=y2 ys b2
  rw [e1] at q1; cases q1
  rw [e2] at q2; cases q2
  have up:=Zl.ge s2 (zS.new hp (.tup [v,u]))
  exact ⟨zS.new hp _, .tup (wz hp _) (.cons ((r1.mono s1).mono up) (.cons ((r2.mono s1).mono up) .nil))⟩
 ·rw [ra.length,rb.length]; omega
section
variable {X:Cx} {Y:Fx} {a b:Expr} {fa fb:En->R T} {pos p pt:Pos} {elts:List Expr} {kk:Nat}
theorem Gr {ta:TA} (hg:Gl X "zip") (hm:X.mg "zip"=none) (ha:PA X [a,b] ta) (hs:starEach [a,b] X.env=[(false,eval a X.env),(false,eval b X.env)]) (hs2:starEach [b] X.env=[(false,eval b X.env)]):
  PI X (.Tuple elts kk pt) (.Call (.Name "zip" p) [a,b] [] pos) (fun σ H R=>ta σ H fun vs H1=>∃ k1 k2 l1 l2 xs ys,vs=[.ref l1, .ref l2]/\H1 l1=some (SK.tr k1 xs)/\H1 l2=some (SK.tr k2 ys)/\R (Itz X.K k1 k2 l1 l2) H1):=by
 intro pins s σ H R I h
 refine Call_ (u6 I hg hm PyProof.Rows.Boot.«zip» (PyProof.Rows.callWith_type1 (thn (ha pos pins s σ H _ I h) fun us s1 ⟨vs,H1,I1,r1,q1⟩=> ?_) (by rw [hs,hs2]) (by rw [hs2]; rfl)))
 obtain ⟨k1,k2,l1,l2,xs,ys,e,h1,h2,q⟩:=q1
 subst e
 obtain ⟨u,v,rfl,ru,rv⟩:=vw r1
 obtain rfl:u=Value.ref l1:=ru
 obtain rfl:v=Value.ref l2:=rv
 obtain ⟨its1,_,b1,o1,e1⟩:=Inv.seq I1 k1 (k1.sqOf h1)
 obtain ⟨its2,_,b2,o2,e2⟩:=Inv.seq I1 k2 (k2.sqOf h2)
 refine Km (k1.of l1 its1.toArray) (k2.of l2 its2.toArray) b1 b2 fun g n hn z1 z2 z3 z4 z5 kp=>wpAny_pyIter_zip z1 ?_
 subst hn
 have f:∀ b∈[s1.heap.objs.size+4,s1.heap.objs.size+2,s1.heap.objs.size+3,s1.heap.objs.size,s1.heap.objs.size+1],YI X pins H1 b:=fun b hb=>by
  have hb' :s1.heap.objs.size<=b:=by
   simp only [List.mem_cons,List.not_mem_nil,or_false] at hb
   rcases hb with rfl | rfl | rfl | rfl | rfl
   ·exact Nat.le_add_right _ _
   ·exact Nat.le_add_right _ _
   ·exact Nat.le_add_right _ _
   ·exact Nat.le_refl _
   ·exact Nat.le_add_right _ _
  exact I1.fpOk hb' (I1.hok.fresh hb')
 exact ⟨s1.heap.objs.size+4,_,_,_,H1,rfl,I1.kept (t' :=s1.toks) kp,xZ k1 k2 (Heap.lt_size e1) (Heap.lt_size e2),⟨z1,z2,⟨_,_,z3⟩,SK.start k1 z4,SK.start k2 z5⟩,f,q⟩
noncomputable def QK:T->R (List T)
 | .lst xs=> .ok xs
 | .tup xs=> .ok xs
 | _=> .bad
noncomputable def z11 (fa fb:En->R T):En->R (List T):=fun ρ=>(fa ρ).bind fun t=>(fb ρ).bind fun u=>(QK t).bind fun xs=>(QK u).bind fun ys=> .ok (X0 xs ys)
theorem Vf {B:Hp} {v:V} {t:T} {xs:List T} (r:Rep B v t) (e:QK t= .ok xs):∃ (k:SK) (a:Addr) (vs:List V),v= .ref a/\B a=some (k.tr vs)/\Z4 B vs xs:=by
 cases r with
 | lst h r=>cases e; exact ⟨.l,_,_,rfl,h,r⟩
 | tup h r=>cases e; exact ⟨.t,_,_,rfl,h,r⟩
 | _=>cases e
theorem qY (t:T) (c:Nat):QK t ≠ .ex c:=by cases t <;> exact fun z=>nomatch z
theorem z12 (hg:Gl X "zip") (hm:X.mg "zip"=none) (ha:Snd X Y a fa) (hb:Snd X Y b fb) (hs:starEach [a,b] X.env=[(false,eval a X.env),(false,eval b X.env)]:=by exact st2 rfl rfl) (hs2:starEach [b] X.env=[(false,eval b X.env)]:=by exact st1 rfl):
  V9 X Y (.Tuple elts kk pt) (.Call (.Name "zip" p) [a,b] [] pos) (z11 fa fb):= .mk fun ρ=>
 PI.imp (Gr hg hm (zY (ha ρ) (zY (hb ρ) j7 hs2) (by rw [hs,hs2])) hs hs2) fun σ H R ⟨B,I,q⟩=>step I q fun t v H1 _ s1 r1 I1 q1=>step I1 q1 fun u v' H2 _ s2 r2 I2 q2=>by
  cases e1:QK t with
  | bad=>rw [e1] at q2; exact q2.elim
  | ex c=>exact absurd e1 (qY _ _)
  | ok xs=>
   rw [e1] at q2
   cases e2:QK u with
   | bad=>rw [e2] at q2; exact q2.elim
   | ex c=>exact absurd e2 (qY _ _)
   | ok ys=>
    rw [e2] at q2
    obtain ⟨k1,a1,vs1,rfl,h1,w1⟩:=Vf (r1.mono (Zl.ge I1.sB s2)) e1
    obtain ⟨k2,a2,vs2,rfl,h2,w2⟩:=Vf r2 e2
    exact ⟨k1,k2,a1,a2,vs1,vs2,rfl,I2.sB _ _ h1,I2.sB _ _ h2,Jo I2 (show Po Y rI _ H2 (.ok (X0 xs ys)) R from q2) (Gq h1 h2 w1 w2)⟩
end
end PV
namespace PV
open PySem PySem.Spec PyProof.Rows L2
section
variable {X:Cx} {Y:Fx} {a b:Expr} {fa fb:En->R T} {pos p p' pos' :Pos}
noncomputable def yH:T->R T
 | .bl b=> .ok (.int (b2 b))
 | .int i=> .ok (.int i)
 | _=> .bad
theorem z13 (v:V) (t:T) (B H:Hp) (Q:VK) (r:Rep B v t) (sB:zS B H) (q:Po Y rC B H (yH t) Q):
  (∃ i,[v]=[V.int i]/\Q (.int i) H)\/∃ k,[v]=[V.bl k]/\Q (.int (if k then 1 else 0)) H:=by
 cases r with
 | int i=>exact .inl ⟨i,rfl,po0 sB q rfl (.int i)⟩
 | bl k=>exact .inr ⟨k,rfl,po0 sB q rfl (by cases k <;> exact .int _)⟩
 | _=>exact q.elim
theorem qZ (gl:Gl X "int") (mg:X.mg "int"=none) (ha:Snd X Y a fa) (hs:St1 X a:=by exact st1 rfl):Snd X Y (.Call (.Name "int" p) [a] [] pos) (ap1 yH fa):=
 XQ vy z13 gl mg (PyProof.Rows.Boot.«int») ha hs
theorem Vg:JG X (.type "range") (fun xs H Q=>∃ i j,xs=[.int i, .int j]/\∀ r,H r=none->Q (.ref r) (upd H r (.rng i j))):=by
 intro pins s σ H xs us Q I r h
 obtain ⟨i,j,rfl,q⟩:=h
 obtain ⟨u,v,rfl,ru,rv⟩:=vw r
 obtain ⟨t,rfl⟩:=ru
 obtain ⟨t',rfl⟩:=rv
 exact call_range_2 ⟨.ref s.heap.objs.size,_,I.laid (t' :=s.toks+1) (fun b o e=>Heap.get?_push_of_some _ e) (Nat.le_refl _) (show jb X.prog X.w _ _ _ (.rng i j) from ⟨_,_,_,Heap.get?_push_size _ rfl⟩),rfl,q _ (I.hok.fresh (Nat.le_refl _))⟩
noncomputable def xz (lo:Int) (n:Nat):List V:=(List.range n).map fun (i:Nat)=>V.int (lo+(i:Int))
theorem y3 (hh:X.A.handled=none):JG X (.type "list") (fun xs H Q=>∃ r lo hi,xs=[.ref r]/\H r=some (.rng lo hi)/\(-1000000 < lo/\lo < 1000000/\ -1000000 < hi/\hi < 1000000)/\∀ l,H l=none->Q (.ref l) (upd H l (.lst (xz lo (hi - lo).toNat)))):=by
 intro pins s σ H xs us Q I rv h
 obtain ⟨r,lo,hi,rfl,e,⟨c1,c2,c3,c4⟩,q⟩:=h
 obtain ⟨u,rfl,ru⟩:=Wa rv
 obtain rfl:u=Value.ref r:=ru
 obtain ⟨t,v,v',eo⟩:=(show jb X.prog X.w H s.heap r (.rng lo hi) from I.hok r _ e)
 have hn:Builtin.Range.rangeSize lo hi 1=((hi - lo).toNat:Int):=by rw [rangeSize_one]; split <;> omega
 refine call_list_range (n:=(hi - lo).toNat) hh eo (small_one (by omega) (by omega) (by omega) (by omega)) hn (by omega) fun h' tk acc c kp eo' hacc=> ?_
 have hv:ZM (xz lo (hi - lo).toNat) acc.toList:=by
  have key:∀ (n:Nat) (lo:Int) (vs:List Value),vs.length=n->(∀ (j:Nat) (v:Value),vs[j]? =some v->∃ t,v=Value.int (lo+(j:Int)) t)->ZM (xz lo n) vs:=by
   intro n
   induction n with
   | zero=>
    intro lo vs hl _
    rw [List.eq_nil_of_length_eq_zero hl]
    exact .nil
   | succ n ih=>
    intro lo vs hl hv
    cases vs with
    | nil=>cases hl
    | cons v vs=>
     have e:xz lo (n+1)=V.int (lo+0) :: xz (lo+1) n:=by
      unfold xz
      rw [List.range_succ_eq_map,List.map_cons,List.map_map]
      refine congrArg _ (List.map_congr_left fun j _=> ?_)
      show V.int (lo+((j+1:Nat):Int))=V.int (lo+1+(j:Int))
      congr 1; omega
     rw [e]
     refine .cons (hv 0 v rfl) (ih (lo+1) vs (by simpa using hl) fun j x hx=> ?_)
     obtain ⟨t,z⟩:=hv (j+1) x (by simpa using hx)
     exact ⟨t,by rw [z]; congr 1; omega⟩
  refine key _ lo acc.toList (by simpa using hacc.1) fun j v hj=> ?_
  obtain ⟨t,z⟩:=hacc.2 j v (by simpa using hj)
  exact ⟨t,by rw [z]; congr 1; omega⟩
 have hz:(xz lo (hi - lo).toNat).length<=sizeLine:=by
  rw [sizeLine_eq]; unfold xz; rw [List.length_map,List.length_range]; omega
 exact ⟨.ref s.heap.objs.size,_,I.laid (t' :=tk) kp (Nat.le_refl _) (show jb X.prog X.w _ h' _ (.lst _) from ⟨hz,acc.toList,c,hv,by simpa using eo'⟩),rfl,q _ (I.hok.fresh (Nat.le_refl _))⟩
noncomputable def z0g (fi:En->R (List T)):En->R T:=fun ρ=>(fi ρ).bind fun ts=> .ok (.lst ts)
theorem Vh {B:Hp} (lo:Int) (n:Nat):Z4 B (xz lo n) (rng lo n):=by
 unfold xz rng
 induction List.range n with
 | nil=>exact .nil
 | cons i is ih=>exact .cons (.int _) ih
theorem Kn (hh:X.A.handled=none) (gl:Gl X "list") (mg:X.mg "list"=none) (gl' :Gl X "range") (mg' :X.mg "range"=none) (ha:Snd X Y a fa) (hb:Snd X Y b fb)
  (hs:starEach [a,b] X.env=[(false,eval a X.env),(false,eval b X.env)]:=by exact st2 rfl rfl) (hs2:St1 X b:=by exact st1 rfl):Snd X Y (.Call (.Name "list" p) [.Call (.Name "range" p') [a,b] [] pos'] [] pos) (z0g (Ur fa fb)):= .mk fun ρ=>
 PE.imp (uD (y3 hh) gl mg PyProof.Rows.Boot.«list» (zY (uD Vg gl' mg' boot_range (zY (ha ρ) (zY (hb ρ) j7 hs2) (by rw [hs,hs2])) (by decide) (by decide) (by rw [hs,hs2]) (by rw [hs2]; rfl)) j7 (st1 rfl)) (by decide) (by decide) (st1 rfl) rfl) fun σ H Q ⟨B,I,q⟩=>by
  have q:Po Y rC B H ((fa ρ).bind fun t=>(fb ρ).bind fun t' =>(match t,t' with | .int i, .int j=>if -1000000 < i/\i < 1000000/\ -1000000 < j/\j < 1000000 then R.ok (rng i (j - i).toNat) else .bad | _,_=> .bad).bind fun ts=> .ok (.lst ts)) Q:=by
   revert q
   unfold z0g Ur
   cases fa ρ with
   | ok t=>cases fb ρ <;> exact fun q=>q
   | ex c=>exact fun q=>q
   | bad=>exact fun q=>q
  refine step I q fun t v H1 _ s1 r1 I1 q1=>step I1 q1 fun t' v' H2 _ s2 r2 I2 q2=> ?_
  cases r1 with
  | int i=>
   cases r2 with
   | int j=>
    by_cases c: -1000000 < i/\i < 1000000/\ -1000000 < j/\j < 1000000
    ·dsimp only at q2
     rw [if_pos c] at q2
     refine ⟨i,j,rfl,fun r hr=>⟨r,i,j,rfl,Zu,c,fun l hl=> ?_⟩⟩
     have hlr:l ≠ r:=fun z=>by rw [z,Zu] at hl; cases hl
     have hl2:H2 l=none:=by rw [zJ hlr] at hl; exact hl
     refine q2 _ _ (zS.new hr _ |>.trans (zS.new hl _)) (.lst ?_ (Vh _ _))
     rw [ZI hl2,Zu]
    ·dsimp only at q2
     rw [if_neg c] at q2
     exact q2.elim
   | _=>exact q2.elim
  | _=>cases r2 <;> exact q2.elim
noncomputable def mvS (i j:Nat):En->RS:=fun ρ=>match ρ[j]? with
 | some (.ow ts)=> .nx ((ρ.set j (.vl (.lst ts))).set i (.vl (.lst ts)))
 | _=> .bad
theorem SI.give {Y:Fx} {B:Hp} {ρ:En} {σ:Sg} {H:Hp} (I:SI Y B ρ σ H) {j:Nat} {ts:List T} (hj:ρ[j]? =some (.ow ts)):∃ (a:Addr) (B' :Hp),σ[j]? =some (some (V.ref a))/\zS B B' /\Rep B' (.ref a) (.lst ts)/\SI Y B' (ρ.set j (.vl (.lst ts))) σ H:=by
 obtain ⟨a,xs,e,b0,h0,hh,rr,d⟩:=I.ow j ts hj
 have s1:zS B (upd B a (.lst xs)):=zS.new b0 _
 have rp:Rep (upd B a (.lst xs)) (.ref a) (.lst ts):= .lst Zu (rr.mono s1)
 refine ⟨a,_,e,s1,rp,⟨I.s0,I.sH,fun b o q=> ?_,fun b o q=> ?_,by rw [List.length_set]; exact I.len,fun k t q=> ?_,fun k us q=> ?_,fun k c q=> ?_⟩⟩
 ·by_cases hb:b=a
  ·subst hb; rw [Zu] at q; cases q; exact hh
  ·rw [zJ hb] at q; exact I.sB b o q
 ·rw [zJ fun z=>by rw [z,h0] at q; cases q]; exact I.old b o q
 ·rcases Zc q with ⟨rfl,z⟩ | ⟨_,z⟩
  ·cases z; exact ⟨_,e,rp⟩
  ·obtain ⟨v,e1,r⟩:=I.vl k t z; exact ⟨v,e1,r.mono s1⟩
 ·rcases Zc q with ⟨rfl,z⟩ | ⟨hk,z⟩
  ·cases z
  ·obtain ⟨a',xs',e',b0',h0',hh',rr',d'⟩:=I.ow k us z
   have hne:a' ≠ a:=fun w=>by subst w; exact d k us hk z e'
   refine ⟨a',xs',e',by rw [zJ hne]; exact b0',h0',hh',rr'.mono s1,fun m ws hm hw=> ?_⟩
   rcases Zc hw with ⟨rfl,w⟩ | ⟨_,w⟩
   ·cases w
   ·exact d' m ws hm w
 ·rcases Zc q with ⟨rfl,z⟩ | ⟨_,z⟩
  ·cases z
  ·obtain ⟨a',e',r⟩:=I.xc k c z; exact ⟨a',e',s1 _ _ r⟩
theorem s_mv {i j:Nat} {x y:Str} {yp:Pos} (hv:PE X (.Name y yp) (vi j)) (hN:X.N.Nodup) (hi:X.N[i]? =some x) (hx:L2.Loc X.env.scope x) (hs:swapsWith (.Name y yp) (some (.Name x p')) pos.line X.env=pure false:=by rfl)
  (hf:X.fn x=true\/X.env.scope.names.lookup x=some .local:=by first | exact .inl rfl | exact .inr rfl | assumption):yY X Y (.Assign [.Name x p'] (.Name y yp) pos) (mvS i j):= .mk fun ρ=>
 PS.imp (qL hN hi hx hv hs hf) fun D σ H ⟨B,I,q⟩=>by
  unfold mvS at q
  split at q
  ·rename_i ts e
   obtain ⟨a,B',e1,s1,r,J⟩:=I.give e
   exact ⟨_,e1,q _ _ B' s1 (J.setV i r)⟩
  ·exact q.elim
end
end PV
namespace PV
open PySem PySem.Spec PyProof.Rows L2
noncomputable def eqs (y:T):List T->Option (List Bool)
 | []=>some []
 | t :: ts=>match eqF 30 t y with
  | none=>none
  | some b=>match eqs y ts with
   | none=>none
   | some bs=>some (b :: bs)
noncomputable def z14 (y:T) (ts:List T):R T:=match eqs y ts with
 | some bs=> .ok (.int (bs.count true))
 | none=> .bad
noncomputable def z15 (y:T) (ts:List T):R T:=match eqs y ts with
 | some bs=>if true∈bs then .ok (.int (bs.idxOf true)) else .bad
 | none=> .bad
noncomputable def z0h (g:T->List T->R T) (fa fb:En->R T):En->R T:=fun ρ=>(fa ρ).bind fun t=>match t with
 | .lst ts=>(fb ρ).bind fun u=>g u ts
 | _=> .bad
theorem Vi {H:Hp} {y:T} {e:Value->Bool} (he:∀ (v:V) (t:T) (u:Value) (b:Bool),jc v u->Rep H v t->eqF 30 t y=some b->e u=b):∀ {xs:List V} {ts:List T} {its:List Value} {bs:List Bool},
  ZM xs its->Z4 H xs ts->eqs y ts=some bs->its.map e=bs/\∀ u∈its,∃ v t k,jc v u/\Rep H v t/\eqF 30 t y=some k
 | _,_,_,_, .nil, .nil,h=>by
  cases h
  exact ⟨rfl,fun u hu=>by simp at hu⟩
 | _,_,_,_, .cons rv vs, .cons r rs,h=>by
  rename_i v u vals us t ts
  unfold eqs at h
  cases q:eqF 30 t y with
  | none=>rw [q] at h; cases h
  | some k=>
   rw [q] at h
   cases q' :eqs y ts with
   | none=>rw [q'] at h; cases h
   | some k' =>
    rw [q'] at h
    cases h
    obtain ⟨h1,h2⟩:=Vi he vs rs q'
    refine ⟨by rw [List.map_cons,h1,he v t u k rv r q],fun w hw=> ?_⟩
    rcases List.mem_cons.mp hw with z | hw
    ·exact ⟨v,t,k,z ▸ rv,r,q⟩
    ·exact h2 w hw
section
variable {X:Cx} {Y:Fx} {a b:Expr} {fa fb:En->R T} {pos p p' pos' :Pos}
theorem Vj {e:Value->Bool}:∀ its:List Value,List.countP e its=(its.map e).count true
 | []=>rfl
 | u :: us=>by
  rw [List.countP_cons,List.map_cons,List.count_cons,Vj us]
  cases e u <;> rfl
theorem X2 (hu:X.A.units+64 < cLine):MtR X "list.count" (fun x xs H Q=>∃ l ys ts v t bs,x= .ref l/\xs=[v]/\H l=some (.lst ys)/\Z4 H ys ts/\Rep H v t/\eqs t ts=some bs/\Q (.int (bs.count true)) H):=by
 intro pins s σ H x xs v0 us Q I rx rv h
 obtain ⟨l,ys,ts,v,t,bs,rfl,rfl,hl,r,rt,e,q⟩:=h
 obtain rfl:v0=Value.ref l:=rx
 obtain ⟨u,rfl,ru⟩:=Wa rv
 obtain ⟨hz,its,n,ri,eo⟩:=(show jb X.prog X.w H s.heap l (.lst ys) from I.hok l _ hl)
 obtain ⟨f,hf⟩:=YW (H:=H) fun z=>eqF 30 z t
 obtain ⟨h2,h3⟩:=Vi hf ri r e
 refine call_meets PySem.F.slot_list_count ⟨_,eo,rfl⟩ PySem.F.entry_list_count (PySem.F.args_list_count_2 _ _) (SeqAt.list_countAt l its.toArray n none #[] u f) ⟨eo,fun w hw=> ?_, ?_⟩
 ·obtain ⟨v',t',k,rv',rr,ee⟩:=h3 w (by simpa using hw)
  rw [hf v' t' w k rv' rr ee]
  exact (vP I 30 X.A.in1 (by rw [Wq]; omega) t' t k v' v w u ee rr rt rv' ru).1
 ·rw [show its.toArray.toList=its from rfl,Vj,h2]
  exact ⟨.int _,H,I.tok _,⟨_,rfl⟩,q⟩
theorem X3 (hu:X.A.units+64 < cLine):MtR X "list.index" (fun x xs H Q=>∃ l ys ts v t bs,x= .ref l/\xs=[v]/\H l=some (.lst ys)/\Z4 H ys ts/\Rep H v t/\eqs t ts=some bs/\true∈bs/\Q (.int (bs.idxOf true)) H):=by
 intro pins s σ H x xs v0 us Q I rx rv h
 obtain ⟨l,ys,ts,v,t,bs,rfl,rfl,hl,r,rt,e,hm,q⟩:=h
 obtain rfl:v0=Value.ref l:=rx
 obtain ⟨u,rfl,ru⟩:=Wa rv
 obtain ⟨hz,its,n,ri,eo⟩:=(show jb X.prog X.w H s.heap l (.lst ys) from I.hok l _ hl)
 obtain ⟨f,hf⟩:=YW (H:=H) fun z=>eqF 30 z t
 obtain ⟨h2,h3⟩:=Vi hf ri r e
 have hj:bs.idxOf true < bs.length:=List.idxOf_lt_length_iff.mpr hm
 have hlen:bs.length=its.length:=by rw [← h2,List.length_map]
 have hri:=ri.length
 rw [sizeLine_eq] at hz
 have hat:∀ m (hm:m < its.length),f its[m]=bs[m]'(by rw [hlen]; exact hm):=fun m hm=>by
  have:(its.map f)[m]'(by rw [List.length_map]; exact hm)=bs[m]'(by rw [hlen]; exact hm):=by simp only [h2]
  rw [← this,List.getElem_map]
 refine call_meets PySem.F.slot_list_index ⟨_,eo,rfl⟩ PySem.F.entry_list_index (PySem.F.args_list_index_2 _ _) (SeqAt.list_indexAt l its.toArray n none #[] u f (bs.idxOf true) (by rw [List.size_toArray,← hlen]; exact hj) (by omega) ?_ ?_) ⟨eo,fun w hw=> ?_, ?_⟩
 ·rw [List.getElem_toArray,hat]
  exact List.getElem_idxOf hj
 ·intro m hm hlt
  rw [List.getElem_toArray,hat m (by simpa using hm)]
  have:=List.not_of_lt_findIdx (p:=(· == true)) (xs:=bs) (i:=m) hlt
  simpa using this
 ·obtain ⟨v',t',k,rv',rr,ee⟩:=h3 w (by simpa using hw)
  rw [hf v' t' w k rv' rr ee]
  exact (vP I 30 X.A.in1 (by rw [Wq]; omega) t' t k v' v w u ee rr rt rv' ru).1
 ·exact ⟨.int _,H,I.tok _,⟨_,rfl⟩,q⟩
theorem Ko {pa:Pos} (hu:X.A.units+64 < cLine) (ha:WF X Y a fa) (hb:WF X Y b fb) (hb1:attributeBase a "count" X.env (eval a X.env)=eval a X.env:=by rfl) (hs:St1 X b:=by exact st1 rfl) (hz:(pa.endLine == p.line)=true:=by rfl):
  Snd X Y (.Call (.Attribute a "count" pa) [b] [] p) (z0h z14 fa fb):= .mk fun ρ=>by
 have e1:(((((backTo p (starEach [b] X.env)).all fun x=> !x.fst) && (backToKw p (keywordEach [] X.env)).all fun x=>x.fst.isSome) && decide (([b].length+([]:List Keyword).length+if ([]:List Keyword).isEmpty=true then 0 else 1) < 30))=true):=by rw [hs]; rfl
 refine PE.imp (vH PySem.F.plainAttrs_list PySem.F.slot_list_count PySem.F.type_list_count (X2 hu) (ha ρ) (zY (hb ρ) j7 hs) hb1 e1 hz hs rfl) fun σ H Q ⟨B,I,q⟩=>step I q fun t v H1 _ s1 r1 I1 q1=> ?_
 cases t with
 | lst ts=>
  cases r1 with
  | @lst l xs _ h r=>
   refine ⟨.inl ⟨rfl,_,SqL.of h⟩,step I1 q1 fun u v' H2 _ s2 r2 I2 q2=> ?_⟩
   unfold z14 at q2
   split at q2
   ·rename_i bs e
    exact ⟨l,xs,ts,v',u,bs,rfl,rfl,s2 _ _ h,r.mono s2,r2,e,Jo I2 q2 (.int _)⟩
   ·exact q2.elim
 | _=>exact q1.elim
theorem Kp {pa:Pos} (hu:X.A.units+64 < cLine) (ha:WF X Y a fa) (hb:WF X Y b fb) (hb1:attributeBase a "index" X.env (eval a X.env)=eval a X.env:=by rfl) (hs:St1 X b:=by exact st1 rfl) (hz:(pa.endLine == p.line)=true:=by rfl):
  Snd X Y (.Call (.Attribute a "index" pa) [b] [] p) (z0h z15 fa fb):= .mk fun ρ=>by
 have e1:(((((backTo p (starEach [b] X.env)).all fun x=> !x.fst) && (backToKw p (keywordEach [] X.env)).all fun x=>x.fst.isSome) && decide (([b].length+([]:List Keyword).length+if ([]:List Keyword).isEmpty=true then 0 else 1) < 30))=true):=by rw [hs]; rfl
 refine PE.imp (vH PySem.F.plainAttrs_list PySem.F.slot_list_index PySem.F.type_list_index (X3 hu) (ha ρ) (zY (hb ρ) j7 hs) hb1 e1 hz hs rfl) fun σ H Q ⟨B,I,q⟩=>step I q fun t v H1 _ s1 r1 I1 q1=> ?_
 cases t with
 | lst ts=>
  cases r1 with
  | @lst l xs _ h r=>
   refine ⟨.inl ⟨rfl,_,SqL.of h⟩,step I1 q1 fun u v' H2 _ s2 r2 I2 q2=> ?_⟩
   unfold z15 at q2
   split at q2
   ·rename_i bs e
    split at q2
    ·rename_i hm
     exact ⟨l,xs,ts,v',u,bs,rfl,rfl,s2 _ _ h,r.mono s2,r2,e,hm,Jo I2 q2 (.int _)⟩
    ·exact q2.elim
   ·exact q2.elim
 | _=>exact q1.elim
end
end PV
namespace PV
open PySem PySem.Spec PyProof.Rows L2
noncomputable def wm:List T->Option (List Int)
 | []=>some []
 | .int i :: r=>match wm r with | some l=>some (i :: l) | none=>none
 | _ :: _=>none
noncomputable def z0i:T->R T
 | .lst ts=>match wm ts with | some l=> .ok (.int l.sum) | none=> .bad
 | _=> .bad
theorem qd:∀ {H:Hp} {xs:List V} {ts:List T} {its:List Value} {is:List Int},Z4 H xs ts->ZM xs its->wm ts=some is->∃ ps:List (Int×Tok),its=ps.map (fun p=>Value.int p.1 p.2)/\ps.map (·.1)=is
 | _,_,_,_,is, .nil, .nil,h=>by
  have h' :some []=some is:=h
  cases h'
  exact ⟨[],rfl,rfl⟩
 | H,_,_,_,is, .cons (v:=x) (t:=t) r rs, .cons (b:=u) rv vs,h=>by
  cases r with
  | int i=>
   unfold wm at h
   split at h
   ·rename_i l e
    cases h
    obtain ⟨ps,h1,h2⟩:=qd rs vs e
    obtain ⟨tk,rfl⟩:=rv
    exact ⟨(i,tk) :: ps,by rw [h1]; rfl,by rw [List.map_cons,h2]⟩
   ·cases h
  | _=>cases h
section
variable {X:Cx} {Y:Fx} {a b:Expr} {fa fb:En->R T} {pos p p' pos' :Pos}
theorem Vk (hh:X.A.handled=none):JG X (.builtin "sum") (fun vs H Q=>∃ l xs ts is,vs=[.ref l]/\H l=some (.lst xs)/\Z4 H xs ts/\wm ts=some is/\Q (.int is.sum) H):=by
 intro pins s σ H vs us Q I rv h
 obtain ⟨l,xs,ts,is,rfl,hl,r,hk,q⟩:=h
 obtain ⟨u,rfl,ru⟩:=Wa rv
 obtain rfl:u=Value.ref l:=ru
 obtain ⟨its,rv,p,_⟩:=Zm I (.inl hl) r
 obtain ⟨ps,h1,h2⟩:=qd r rv hk
 have e:its.toArray=intItems ps.toArray:=by rw [h1]; simp [intItems]
 rw [e] at p
 refine sum_intListG hh p fun h' tk t' kp=> ?_
 have e2:preSum (numAt ps.toArray) ps.toArray.size=is.sum:=by
  rw [preSum_eq,List.take_of_length_le (by simp),← h2]
 rw [e2]
 exact ⟨.int is.sum,H,I.kept (t' :=tk) kp,⟨t',rfl⟩,q⟩
theorem z16 (hh:X.A.handled=none) (gl:Gl X "sum") (mg:X.mg "sum"=none) (ha:WF X Y a fa) (hs:St1 X a:=by exact st1 rfl):Snd X Y (.Call (.Name "sum" p) [a] [] pos) (ap1 z0i fa):=
 yX (Vk hh) (fun v t B H Q r sB q=>by
  cases r with
  | @lst l xs ts h r=>
   have q:Po Y rC B H (match wm ts with | some k=> .ok (.int k.sum) | none=> .bad) Q:=q
   split at q
   ·rename_i k e
    exact ⟨l,xs,ts,k,rfl,h,r,e,po0 sB q rfl (.int _)⟩
   ·exact q.elim
  | _=>exact q.elim) gl mg boot_sum ha hs
end
section
variable {X:Cx} {Y:Fx} {a b:Expr} {fa fb:En->R T} {pos p p' pos' :Pos}
end
section
variable {X:Cx} {Y:Fx} {tg iter elt:Expr} {ifs:List Expr} {scope:Scope} {pos pos' :Pos} {N' :List Str} {k:Nat} {js:List Nat} {fi:En->R (List T)} {tG:TG} {g:T->En->R En} {ft:En->R Bool} {fe:En->R T}
end
section
variable {P:Program} {w:World} {K:PySem.W.Frag} {mg:Str->Option Value} {base:Heap}
end
end PV
namespace PySem.RV
open PySem PySem.Spec PyProof.Rows PySem.Builtin.SmallTypes
section
variable {prog:Program} {w:World} {A:Around} {E:Value->Shared->Prop} {s:Shared} {it l:Addr} {xs:Array Value}
end
end PySem.RV
namespace PySem.RV
open PySem PySem.Spec PyProof.Rows
section
variable {prog:Program} {w:World} {A:Around} {E:Value->Shared->Prop} {s:Shared} {I:Addr} {fp wr:List Addr} {G:Array GenState->Array GenState->Prop} {n:Nat} {P:Nat->Value->Prop} {St:Nat->Shared->Prop}
end
end PySem.RV
namespace PV
open PySem PySem.Spec PyProof.Rows L2
section
variable {X:Cx} {Y:Fx} {a b tg:Expr} {fa fb:En->R T} {pos p p' pos' :Pos}
end
end PV
namespace PV
open PySem PySem.Spec PyProof.Rows L2
noncomputable def Us:List T->Option Bool
 | []=>some false
 | .bl k :: r=>match Us r with | some j=>some (k || j) | none=>none
 | _ :: _=>none
noncomputable def z17:T->R T
 | .lst ts=>match Us ts with | some k=> .ok (.bl k) | none=> .bad
 | _=> .bad
theorem Vl:∀ {H:Hp} {xs:List V} {ts:List T} {its:List Value} {k:Bool},Z4 H xs ts->ZM xs its->Us ts=some k->∃ tr:Nat->Bool,(∀ i v,its[i]? =some v->v=Value.bool (tr i))/\(List.range its.length).any tr=k
 | _,_,_,_,k, .nil, .nil,h=>by
  have h' :some false=some k:=h
  cases h'
  exact ⟨fun _=>true,fun i v e=>by simp at e,rfl⟩
 | H,_,_,_,k, .cons (v:=x) (t:=t) r rs, .cons (b:=u) rv vs,h=>by
  cases r with
  | bl b=>
   unfold Us at h
   split at h
   ·rename_i j e
    cases h
    obtain ⟨tr,h1,h2⟩:=Vl rs vs e
    obtain rfl:u=Value.bool b:=rv
    refine ⟨fun i=>match i with | 0=>b | i+1=>tr i,fun i v e=> ?_, ?_⟩
    ·cases i with
     | zero=>simp at e; exact e.symm
     | succ i=>exact h1 i v (by simpa using e)
    ·rw [List.length_cons,List.range_succ_eq_map,List.any_cons,List.any_map,← h2]
     rfl
   ·cases h
  | _=>cases h
section
variable {X:Cx} {Y:Fx} {a b:Expr} {fa fb:En->R T} {pos p p' pos' pt:Pos} {elts:List Expr} {kk:Nat}
theorem Vm (hh:X.A.handled=none):JG X (.builtin "any") (fun vs H Q=>∃ l xs ts k,vs=[.ref l]/\H l=some (.lst xs)/\Z4 H xs ts/\Us ts=some k/\Q (.bl k) H):=by
 intro pins s σ H vs us Q I rv h
 obtain ⟨l,xs,ts,k,rfl,hl,r,hk,q⟩:=h
 obtain ⟨u,rfl,ru⟩:=Wa rv
 obtain rfl:u=Value.ref l:=ru
 obtain ⟨its,rv,p,_⟩:=Zm I (.inl hl) r
 obtain ⟨tr,h1,h2⟩:=Vl r rv hk
 refine call_any_walk (wpAny_pyIter_list p ?_)
 have hlt:l < s.heap.objs.size:=I.hok.lt hl
 have old:∀ b o,s.heap.get? b=some o->(s.heap.push { cls:= .type "list_iterator",data:= .fields #[.ref l, .int 0 0] }).get? b=some o:=fun b o e=>Heap.get?_push_of_some _ e
 refine ⟨s.heap.objs.size,_,_,_,_,_,tr,rfl,Walks.list (A:=X.A.in1) hh s.heap.objs.size l (Nat.ne_of_lt hlt) its.toArray, ?_, ?_,fun h' tk hk' => ?_⟩
 ·refine ⟨?_,p.at fun o e=>old _ o e⟩
  exact ⟨_,Heap.get?_push_size _ rfl,rfl,rfl⟩
 ·intro i v s' Q' E' hi hq
  rw [h1 i v (by simpa using hi)]
  exact wpAny_truthy_bool hq
 ·rw [List.size_toArray,h2]
  refine ⟨.bl k,H,I.kept (t' :=tk) (fun b o e=>hk' b o ?_ (old b o e)),rfl,q⟩
  simp
  exact Nat.ne_of_lt (Heap.lt_size e)
theorem z18 (hh:X.A.handled=none) (gl:Gl X "any") (mg:X.mg "any"=none) (ha:WF X Y a fa) (hs:St1 X a:=by exact st1 rfl):Snd X Y (.Call (.Name "any" p) [a] [] pos) (ap1 z17 fa):=
 yX (Vm hh) (fun v t B H Q r sB q=>by
  cases r with
  | @lst l xs ts h r=>
   have q:Po Y rC B H (match Us ts with | some k=> .ok (.bl k) | none=> .bad) Q:=q
   split at q
   ·rename_i k e
    exact ⟨l,xs,ts,k,rfl,h,r,e,po0 sB q rfl (.bl k)⟩
   ·exact q.elim
  | _=>exact q.elim) gl mg PyProof.Rows.Boot.«any» ha hs
end
noncomputable def qe (x:Int):List Int->List Int
 | []=>[x]
 | y :: ys=>if x<=y then x :: y :: ys else y :: qe x ys
noncomputable def YK:List Int->List Int
 | []=>[]
 | x :: xs=>qe x (YK xs)
noncomputable def X4:T->R T
 | .lst ts=>match wm ts with | some l=>if ts.length < 64 then .ok (.lst ((YK l).map T.int)) else .bad | none=> .bad
 | _=> .bad
theorem uN (x:Int):∀ ys:List Int,(qe x ys).Perm (x :: ys)
 | []=> .refl _
 | y :: ys=>by
  unfold qe
  split
  ·exact .refl _
  ·exact ((uN x ys).cons y).trans (.swap x y ys)
theorem Y4:∀ xs:List Int,(YK xs).Perm xs
 | []=> .refl _
 | x :: xs=>(uN x (YK xs)).trans ((Y4 xs).cons x)
theorem uO (x:Int):∀ ys:List Int,ys.Pairwise (·<=·)->(qe x ys).Pairwise (·<=·)
 | [],_=>by unfold qe; simp
 | y :: ys,h=>by
  unfold qe
  rw [List.pairwise_cons] at h
  split
  ·rename_i hx
   refine List.pairwise_cons.mpr ⟨fun z hz=> ?_,List.pairwise_cons.mpr h⟩
   rcases List.mem_cons.mp hz with rfl | hz
   ·exact hx
   ·exact Int.le_trans hx (h.1 z hz)
  ·rename_i hx
   refine List.pairwise_cons.mpr ⟨fun z hz=> ?_,uO x ys h.2⟩
   rcases List.mem_cons.mp ((uN x ys).mem_iff.mp hz) with rfl | hz
   ·omega
   ·exact h.1 z hz
theorem uP:∀ xs:List Int,(YK xs).Pairwise (·<=·)
 | []=> .nil
 | x :: xs=>uO x _ (uP xs)
theorem Y5:∀ (xs ys:List Int),xs.Perm ys->xs.Pairwise (·<=·)->ys.Pairwise (·<=·)->xs=ys
 | [],ys,p,_,_=>(List.nil_perm.mp p).symm
 | x :: xs,[],p,_,_=>by cases List.perm_nil.mp p
 | x :: xs,y :: ys,p,h1,h2=>by
  rw [List.pairwise_cons] at h1 h2
  have e:x=y:=by
   have a1:x<=y:=by
    rcases List.mem_cons.mp (p.mem_iff.mpr (List.mem_cons_self (a:=y) (l:=ys))) with z | z
    ·omega
    ·exact h1.1 y z
   have a2:y<=x:=by
    rcases List.mem_cons.mp (p.mem_iff.mp (List.mem_cons_self (a:=x) (l:=xs))) with z | z
    ·omega
    ·exact h2.1 x z
   omega
  subst e
  rw [Y5 xs ys (List.Perm.cons_inv p) h1.2 h2.2]
theorem Wp:∀ {its:List Value} {ns:List Int},IntsAre its ns->ZM (ns.map V.int) its:=by
 intro its ns h
 induction h with
 | nil=>exact .nil
 | cons n t _ ih=>exact .cons ⟨_,rfl⟩ ih
theorem Q0:∀ (ps:List (Int×Tok)),IntsAre (ps.map fun p=>Value.int p.1 p.2) (ps.map (·.1))
 | []=> .nil
 | p :: ps=> .cons _ _ (Q0 ps)
theorem Y6 {H:Hp}:∀ ns:List Int,Z4 H (ns.map V.int) (ns.map T.int)
 | []=> .nil
 | n :: ns=> .cons (.int n) (Y6 ns)
section
variable {X:Cx} {Y:Fx} {a b:Expr} {fa fb:En->R T} {pos p p' pos' pt:Pos} {elts:List Expr} {kk:Nat}
theorem QL:JG X (.builtin "sorted") (fun vs H Q=>∃ l xs ts is,vs=[.ref l]/\H l=some (.lst xs)/\Z4 H xs ts/\wm ts=some is/\ts.length < 64/\∀ r,H r=none->Q (.ref r) (upd H r (.lst ((YK is).map V.int)))):=by
 intro pins s σ H vs us Q I rv h
 obtain ⟨l,xs,ts,is,rfl,hl,r,hk,h64,q⟩:=h
 obtain ⟨u,rfl,ru⟩:=Wa rv
 obtain rfl:u=Value.ref l:=ru
 obtain ⟨its,rv,p,hlen,_⟩:=Zm I (.inl hl) r
 obtain ⟨ps,h1,h2⟩:=qd r rv hk
 refine sorted_ints p (h1 ▸ Q0 ps) (by omega) fun out ns' a1 a2 a3=> ?_
 have e:ns' =YK is:=Y5 _ _ (a2.trans (by rw [h2]; exact (Y4 is).symm)) a3 (uP is)
 obtain ⟨n,he⟩:=sortedAll_at s.heap its out
 have hle:s.heap.objs.size<=s.heap.objs.size+1:=Nat.le_succ _
 refine ⟨.ref (s.heap.objs.size+1),upd H (s.heap.objs.size+1) (.lst (ns'.map V.int)),I.laid (t' :=s.toks) (fun b u e=>sortedAll_old e) hle ?_,rfl,by have:=q _ (I.hok.fresh hle); rw [← e] at this; exact this⟩
 have hl2:ns'.length=ts.length:=by
  have h3:=a2.length_eq
  rw [List.length_map] at h3
  have h4:its.length=ps.length:=by rw [h1,List.length_map]
  omega
 exact ⟨by rw [List.length_map,sizeLine_eq]; show ns'.length<=16777216; omega,out.toList,n,Wp a1,he⟩
theorem Gs (gl:Gl X "sorted") (mg:X.mg "sorted"=none) (ha:WF X Y a fa) (hs:St1 X a:=by exact st1 rfl):Snd X Y (.Call (.Name "sorted" p) [a] [] pos) (ap1 X4 fa):=
 yX QL (fun v t B H Q r sB q=>by
  cases r with
  | @lst l xs ts h r=>
   have q:Po Y rC B H (match wm ts with | some l=>if ts.length < 64 then .ok (.lst ((YK l).map T.int)) else .bad | none=> .bad) Q:=q
   split at q
   ·rename_i is e
    split at q
    ·rename_i h64
     refine ⟨l,xs,ts,is,rfl,h,r,e,h64,fun z hz=> ?_⟩
     exact q _ _ (zS.new hz _) (.lst (wz hz _) (Y6 _))
    ·exact q.elim
   ·exact q.elim
  | _=>exact q.elim) gl mg PyProof.Rows.Boot.«sorted» ha hs
end
end PV
namespace PySem.RV
open PySem PySem.Spec PyProof.Rows PySem.Builtin.SmallTypes
theorem draws_tup {prog:Program} {w:World} {A:Around} (hh:A.handled=none) (it l:Addr) (hne:l ≠ it) (items:Array Value):Draws prog w A it [it,l] items.size (fun i v=>items[i]? =some v) (fun i h=>h.IsTupleIter it l i/\h.IsTuple l items) where
 live:=fun i h st=>(ZG.nx_tup hne items).there st it (.head _)
 frame:=fun i h h' st hk=>(ZG.nx_tup hne items).keep st hk
 item:=fun i s Q E hi st hQ=>ZG.tup_item st.1 st.2 (x:=items[i]) (by simp [hi]) fun h' a b=>hQ _ h' s.toks (by simp [hi]) ⟨a,st.2.extBut b.extBut hne⟩ b
 done:=fun s Q E st hE=>ZG.tup_stop hh st.1 st.2 (by simp) hE
noncomputable abbrev eOb (i:Addr):Obj:={ cls:= .type "enumerate",data:= .fields #[.none, .bool false, .ref i,rawInt 0, .none, .none] }
theorem Vn (l:Addr) (items:Array Value) (n:Nat) (dct:Option Addr) (sl:Array (Option Value)):
  Meets (Builtin.«enumerate.__new__» ⟨[.type "enumerate", .ref l],[]⟩) (fun _ R s=>s.heap.get? l=some { cls:= .type "tuple",dict:=dct,data:= .seq items n,slots:=sl }/\
   R (.ok (.ret (.ref (s.heap.push (ZG.oT l)).objs.size))) { s with heap:=(s.heap.push (ZG.oT l)).push (eOb s.heap.objs.size) }):=
 .of_wp fun prog w A R s h=>by
  obtain ⟨hp,g,d,tk,os⟩:=s
  obtain ⟨hl,h⟩:=h
  have hsub:=sub_enumerate
  have hL:Heap.IsTuple (Shared.heap ⟨hp,g,d,tk,os⟩) l items:=⟨_,hl,rfl,n,rfl⟩
  wp_walk using PySem.AutoSeq1.wpAny_loadPart' hl
  refine wpAny_stack_any fun st=>wpAny_pure ?_
  split
  ·rename_i c _ _ _ _ _
   cases (c == Value.type "enumerate") <;> (wp_walk using PySem.AutoSeq1.wpAny_loadPart' hl,wpAny_pyIter_tuple hL; exact ⟨_,rfl,h⟩)
  ·wp_walk using PySem.AutoSeq1.wpAny_loadPart' hl,wpAny_pyIter_tuple hL
   exact ⟨_,rfl,h⟩
theorem enum_callT {prog:Program} {w:World} {A:Around} {E:Value->Shared->Prop} {s:Shared} {l:Addr} {items:Array Value} {Q:Value->Shared->Prop} (hL:s.heap.IsTuple l items)
  (h:∀ h',IsEnum h' (s.heap.objs.size+1) s.heap.objs.size 0 .none->h'.IsTupleIter s.heap.objs.size l 0->(∀ b o,s.heap.get? b=some o->h'.get? b=some o)->Q (.ref (s.heap.objs.size+1)) { s with heap:=h' }):
  wpAny (model prog w) A (call (.type "enumerate") [.ref l]) Q E s:=by
 obtain ⟨⟨c,dct,dt,sl⟩,hl,hc,n,hd⟩:=hL
 obtain rfl:c= .type "tuple":=hc
 obtain rfl:dt= .seq items n:=hd
 refine callType_new F.called_enumerate (by decide) (F.typeCall_enumerate_1 _) (F.newCall_enumerate_1 _) (fun obj=>F.args_object_init_2 obj _) F.entry_enumerate_new (Vn l items n dct sl) ⟨hl, ?_⟩
 have hz:(s.heap.push (ZG.oT l)).objs.size=s.heap.objs.size+1:=Heap.size_push ..
 have e1:((s.heap.push (ZG.oT l)).push (eOb s.heap.objs.size)).get? (s.heap.push (ZG.oT l)).objs.size=some _:=Heap.get?_push_size _ rfl
 rw [hz] at e1
 refine (show _/\_ from ?_)
 rw [hz]
 exact ⟨⟨_,e1,rfl⟩,h _ e1 ⟨_,Heap.get?_push_of_some _ (Heap.get?_push_size _ rfl),rfl,rfl⟩ fun b o x=>Heap.get?_push_of_some _ (Heap.get?_push_of_some _ x)⟩
end PySem.RV
namespace PV
open PySem PySem.Spec PyProof.Rows L2
noncomputable def z19 (K:PySem.W.Frag) (l:Addr) (n:Nat):It:=
 ⟨fun i H=>∃ xs x,SqT K H l xs/\xs.length=n/\xs[i]? =some x,fun i H v H' =>∃ p x,H p=none/\v= .ref p/\(∀ xs,SqT K H l xs->xs[i]? =some x)/\H' =upd H p (.tup [.int i,x]),fun i H=>∃ xs,SqT K H l xs/\xs.length=n/\n<=i⟩
theorem QM {P:Program} {w:World} {K:PySem.W.Frag} {elts:List Expr} {kk:Nat} {pt:Pos} (e it l:Addr) (n:Nat) (hei:e ≠ it) (hle:l ≠ e) (hli:l ≠ it):
  xy P w K (.Tuple elts kk pt) (z19 K l n) [e,it] e (fun i h=>i<=n/\(∃ old,IsEnum h e it i old)/\h.IsTupleIter it l i) where
 mem:=by simp
 obj:=fun i h st b hb=>by
  obtain ⟨_,⟨old,he⟩,o,e1,c,d⟩:=st
  rcases List.mem_cons.mp hb with rfl | hb
  ·exact ⟨_,he,fun v z=>nomatch z⟩
  ·have z:b=it:=by simpa using hb
   subst z
   exact ⟨o,e1,fun v z=>by rw [d] at z; cases z⟩
 keep:=fun i h h' st k=>by
  obtain ⟨hn,⟨old,he⟩,o,e1,r⟩:=st
  exact ⟨hn,⟨old,k e (by simp) _ he⟩,o,k it (by simp) o e1,r⟩
 item:=by
  intro X hP hw hK hc i pins s σ H E I hf st hg
  subst hP hw hK
  obtain ⟨xs,x,hq,hxn,hx⟩:=hg
  obtain ⟨its,rv,p,hz⟩:=I.tuple hq
  obtain ⟨u,hu,ru⟩:=rv.get hx
  obtain ⟨hin,⟨old,he⟩,hit⟩:=st
  have hi:i < its.toArray.size:=by
   have:=(List.getElem?_eq_some_iff.mp hu).1
   simpa using this
  have D:=RV.draws_tup (prog:=X.prog) (w:=X.w) (A:=X.A.in1) (I.ok.hd hc) it l hli its.toArray
  have hef:e ∉ [it,l]:=fun z=>by
   rcases List.mem_cons.mp z with z | z
   ·exact hei z
   ·exact hle (List.mem_singleton.mp z).symm
  have WE:=WalksT.enumerateD D e hei hef (.head _)
  refine WE.item i s _ _ hi ⟨⟨old,he⟩,hit,p⟩ fun T vals h' tk hP hT hTup hM hk=> ?_
  obtain ⟨t,y,hy,rfl⟩:=hP
  have hyu:y=u:=by
   have:its[i]? =some y:=by simpa using hy
   rw [hu] at this; exact (Option.some.inj this).symm
  subst hyu
  refine ⟨.ref T,rfl, ?_⟩
  refine WE.go elts kk pt i T _ _ _ hM fun h2 hst2 hk2=> ?_
  have hTn:H T=none:=I.hok.fresh hT
  have hTne:∀ b∈[e,it],b ≠ T:=fun b hb z=>by
   obtain ⟨_,_,h3,h4⟩:=hM
   rcases List.mem_cons.mp hb with rfl | hb
   ·exact h3 z.symm
   ·have:b=it:=by simpa using hb
    subst this; exact h4 z.symm
  have vf:IsTup h2 T #[.int i t,y]:=by
   obtain ⟨o,eo,r⟩:=hTup
   exact ⟨o,hk2 T o (fun hb=>hTne T hb rfl) eo,r⟩
  refine ⟨.ref T,upd H T (.tup [.int i,x]),Inv.laidT (s:=s) (h' :=h2) (ch:=[e,it]) (tk:=tk) I hf (fun b o hb e=>hk2 b o hb (hk b o hb e)) (fun b o hb _=> ?_) hT ⟨by rw [sizeLine_eq]; show 2<=16777216; decide,[.int i t,y], .cons ⟨t,rfl⟩ (.cons ru .nil),vf⟩,rfl,⟨T,x,hTn,rfl,fun ys hy=>by rw [I.tuple_inj hy hq]; exact hx,rfl⟩,⟨by have:=(List.getElem?_eq_some_iff.mp hx).1; omega,hst2.1,hst2.2.1⟩,fun b hb=> ?_⟩
  ·obtain ⟨⟨old2,he2⟩,⟨o2,eo2,_⟩,_⟩:=hst2
   rcases List.mem_cons.mp hb with rfl | hb
   ·exact ⟨_,he2⟩
   ·have:b=it:=by simpa using hb
    subst this; exact ⟨o2,eo2⟩
  ·rw [zJ (hTne b hb)]; exact (hf b hb).1
 done:=by
  intro X hP hw hK hc i pins s σ H E I hf st hg
  subst hP hw hK
  obtain ⟨xs,hq,hxn,hx⟩:=hg
  obtain ⟨its,rv,p,hz⟩:=I.tuple hq
  obtain ⟨hin,⟨old,he⟩,hit⟩:=st
  have hl:=rv.length
  have D:=RV.draws_tup (prog:=X.prog) (w:=X.w) (A:=X.A.in1) (I.ok.hd hc) it l hli its.toArray
  have hn:its.toArray.size=i:=by simp; omega
  refine wpAny_pyNext_enum_endD D he (by rw [hn]; exact ⟨hit,p⟩) fun h' hk=>⟨rfl, ?_⟩
  obtain ⟨f0,f1,f2,f3,f4,f5⟩:=hf it (by simp)
  exact I.turned (t' :=s.toks) (fun b o hb e=>hk b o hb e) f0 f1 f3 f4 f5
 self:=fun _ _ _ _ _ st h=>let ⟨_,⟨_,he⟩,_⟩:=st; wpAny_pyIter_enum he h
theorem X5 {K:PySem.W.Frag} {B1 H1:Hp} {a:Addr} {xs:List V} {ts:List T} (h:B1 a=some (.tup xs)) (r:Z4 B1 xs ts):rI B1 H1 (z19 K a xs.length) (wB ts):=fun B2 H2 s1 s2=>by
 have h2:=s2 _ _ (s1 _ _ h)
 rw [u8]
 refine ⟨fun i hi=> ?_,fun i t x H3 e y=> ?_,fun i hi=>⟨xs,SqT.of h2,rfl,by rw [r.length]; exact hi⟩⟩
 ·obtain ⟨v,e,_⟩:=r.get (List.getElem?_eq_getElem hi)
  exact ⟨xs,v,SqT.of h2,rfl,e⟩
 ·obtain ⟨p,v,hp,rfl,y,rfl⟩:=y
  obtain ⟨t',et,rfl⟩:=Y1 e
  obtain ⟨v',e1,r1⟩:=r.get et
  have:=y xs (SqT.of h2)
  rw [e1] at this; cases this
  refine ⟨zS.new hp _, .tup (wz hp _) (.cons (.int _) (.cons ?_ .nil))⟩
  exact (r1.mono s1).mono (Zl.ge s2 (zS.new hp _))
noncomputable def Q1 (fa:En->R T):En->R (List T):=fun ρ=>(fa ρ).bind fun t=>match t with
 | .tup xs=> .ok (wB xs)
 | _=> .bad
section
variable {X:Cx} {Y:Fx} {a:Expr} {fa:En->R T} {pos p pt:Pos} {elts:List Expr} {kk:Nat}
theorem X6 {ta:TA} (hg:Gl X "enumerate") (hm:X.mg "enumerate"=none) (ha:PA X [a] ta) (hs:St1 X a:=by exact st1 rfl):
  PI X (.Tuple elts kk pt) (.Call (.Name "enumerate" p) [a] [] pos) (fun σ H R=>ta σ H fun vs H1=>∃ l xs,vs=[.ref l]/\H1 l=some (.tup xs)/\R (z19 X.K l xs.length) H1):=by
 intro pins s σ H R I h
 refine Call_ (u6 I hg hm PyProof.Rows.Boot.«enumerate» (PyProof.Rows.callWith_type1 (thn (ha pos pins s σ H _ I h) fun us s1 ⟨vs,H1,I1,r1,q1⟩=> ?_) hs rfl))
 obtain ⟨l,xs,e,hl,q⟩:=q1
 subst e
 obtain ⟨u,rfl,ru⟩:=Wa r1
 obtain rfl:u=Value.ref l:=ru
 obtain ⟨its,rv,pl,hz⟩:=I1.tuple (SqT.of hl)
 have hlt:l < s1.heap.objs.size:=I1.hok.lt hl
 refine RV.enum_callT (show s1.heap.IsTuple l its.toArray from pl) fun h' he hit hk=>wpAny_pyIter_enum he ?_
 have f:∀ b∈[s1.heap.objs.size+1,s1.heap.objs.size],YI X pins H1 b:=fun b hb=>by
  rcases List.mem_cons.mp hb with rfl | hb
  ·exact I1.fpOk (Nat.le_succ _) (I1.hok.fresh (Nat.le_succ _))
  ·have z:b=s1.heap.objs.size:=by simpa using hb
   subst z
   exact I1.fpOk (Nat.le_refl _) (I1.hok.fresh (Nat.le_refl _))
 exact ⟨s1.heap.objs.size+1,[s1.heap.objs.size+1,s1.heap.objs.size],_,_,H1,rfl,I1.kept (t' :=s1.toks) hk,QM _ _ l xs.length (Nat.succ_ne_self _) (Nat.ne_of_lt (Nat.lt_succ_of_lt hlt)) (Nat.ne_of_lt hlt),⟨Nat.zero_le _,⟨_,he⟩,hit⟩,f,q⟩
theorem Kq (hg:Gl X "enumerate") (hm:X.mg "enumerate"=none) (ha:Snd X Y a fa) (hs:St1 X a:=by exact st1 rfl):V9 X Y (.Tuple elts kk pt) (.Call (.Name "enumerate" p) [a] [] pos) (Q1 fa):= .mk fun ρ=>
 PI.imp (X6 hg hm (zY (ha ρ) j7 hs) hs) fun σ H R ⟨B,I,q⟩=>step I q fun t v H1 _ s1 r1 I1 q1=>by
  cases r1 with
  | @tup l xs ts h r=>exact ⟨l,xs,rfl,I1.sB _ _ h,Jo I1 (show Po Y rI _ H1 (.ok (wB ts)) R from q1) (X5 h r)⟩
  | _=>exact q1.elim
end
end PV
namespace PySem.RW37
open PySem PySem.Spec PyProof.Rows L2
section
variable {X:Cx} {pos:Pos}
end
end PySem.RW37
namespace PV
open PySem PySem.Spec PyProof.Rows L2 PySem.RW37
section
variable {X:Cx} {Y:Fx} {pos:Pos} {a b c:Expr}
end
end PV
namespace G
open PySem PySem.Spec PyProof.Rows L2 PV
noncomputable def okX (c:Nat):Bool:=decide (c < 6)
noncomputable def WJ (c:Nat):Bool:=c == 0
noncomputable def Wc (c:Nat):Bool:=c == 1
noncomputable def WK (c:Nat):Bool:=c == 2
noncomputable def Wd (c:Nat):Bool:=c == 3
noncomputable def uQ (c:Nat):Bool:=c == 4
noncomputable def WL (c:Nat):Bool:=c == 5
noncomputable def JK (_:Nat):Bool:=true
noncomputable def uR:En->RS:=
  zE (ifS (zH ltC (vB 1) (ap1 jD (vB 0))) (zV (ze ixT (vE 0) (vE 1))) (nxS))
  (zE (ifS (zH eqC (vB 0) (J6 (zd))) (zV (cE (.int 0))) (nxS))
  (zV (ze zx (ze ZD (ze ixT (vE 0) (ze wx (vE 1) (ap1 jD (vB 0)))) (cE (.int 31))) (vE 1))))
noncomputable def Je:List T->R T:=fun ts=>zu (uR  (en0 2 ts))
noncomputable def uS (c__law_cell:List T->R T):En->RS:=
  zE (Z0 3 (ze wx (ze ZD (ze zx (zb 2 c__law_cell (z0 (vE 0) (z0 (vE 1) (zd)))) (ze ZD (cE (.int 6151)) (ze zx (vE 1) (cE (.int 1))))) (cE (.int 40692))) (cE (.int 2147483399))))
  (zV (ze wx (ze wx (ze zx (ze ZD (vE 3) (vE 3)) (ze QD (vE 3) (cE (.int 31)))) (cE (.int 2147483629))) (vE 2)))
noncomputable def zk:List T->R T:=fun ts=>zu (uS (Je) (en0 4 ts))
noncomputable def wc (c__law_pick:List T->R T) (c__law_rule:List T->R T):En->RS:=
  zE (Z0 3 (zb 3 c__law_pick (z0 (vE 0) (z0 (vE 1) (z0 (cE (.int 9)) (zd))))))
  (zE (ifS (qS (zH gtC (vB 2) (cE (.int 1))) (zH gtC (vB 3) (cE (.int 5)))) (zE (Z0 4 (zb 3 c__law_rule (z0 (vE 0) (z0 (ze zx (ze ZD (cE (.int 2)) (vE 1)) (cE (.int 11))) (z0 (ze WC (vE 2) (cE (.int 1))) (zd))))))
  (zE (ifS (zH eqC (vB 3) (cE (.int 6))) (zV (zG (z0 (cE (.str "no")) (z0 (vE 4) (zd))))) (nxS))
  (zV (zG (z0 (ze ixT (J6 (z0 (cE (.str "all")) (z0 (cE (.str "some")) (zd)))) (ze WC (vE 3) (cE (.int 7)))) (z0 (vE 4) (z0 (zb 3 c__law_rule (z0 (vE 0) (z0 (ze zx (ze ZD (cE (.int 2)) (vE 1)) (cE (.int 24))) (z0 (ze WC (vE 2) (cE (.int 1))) (zd))))) (zd)))))))) (nxS))
  (zE (Z0 5 (ze WC (zb 3 c__law_pick (z0 (vE 0) (z0 (ze zx (vE 1) (cE (.int 1))) (z0 (cE (.int 9)) (zd))))) (cE (.int 4))))
  (zE (ifS (zH ltC (ze wx (vE 3) (cE (.int 6))) (cE (.int 2))) (zV (zG (z0 (cE (.str "sum")) (z0 (vE 5) (z0 (ze WC (ze zx (vE 5) (zb 3 c__law_pick (z0 (vE 0) (z0 (ze zx (vE 1) (cE (.int 2))) (z0 (cE (.int 5)) (zd)))))) (cE (.int 1))) (zd)))))) (nxS))
  (zE (ifS (zH eqC (ze wx (vE 3) (cE (.int 6))) (cE (.int 2))) (zV (zG (z0 (cE (.str "size")) (z0 (zb 3 c__law_pick (z0 (vE 0) (z0 (ze zx (vE 1) (cE (.int 1))) (z0 (cE (.int 3)) (zd))))) (z0 (zb 3 c__law_pick (z0 (vE 0) (z0 (ze zx (vE 1) (cE (.int 2))) (z0 (cE (.int 4)) (zd))))) (zd)))))) (nxS))
  (zE (ifS (zH eqC (ze wx (vE 3) (cE (.int 6))) (cE (.int 3))) (zV (zG (z0 (cE (.str "word")) (z0 (ze ixT (J6 (z0 (cE (.str "a")) (z0 (cE (.str "b")) (z0 (cE (.str "ab")) (z0 (cE (.str "zz")) (zd)))))) (zb 3 c__law_pick (z0 (vE 0) (z0 (ze zx (vE 1) (cE (.int 1))) (z0 (cE (.int 4)) (zd)))))) (zd))))) (nxS))
  (zV (ifE (zH eqC (ze wx (vE 3) (cE (.int 6))) (cE (.int 4))) (zG (z0 (cE (.str "rising")) (zd))) (zG (z0 (cE (.str "unlike")) (zd))))))))))
noncomputable def ZK:Nat->Nat->List T->R T
 | 0,_=>fun _=> .bad
 | n+1,_=>fun ts=>zu (wc (zk) (ZK n 0) (en0 6 ts))
noncomputable abbrev wd (n:Nat):List T->R T:=ZK n 0
noncomputable def jw (c__law_pick:List T->R T):En->RS:=
  zE (Z0 2 (cE (.str "abcdefghijklmnopqrstuvwxyz")))
  (zE (ifS (zH gtC (zb 3 c__law_pick (z0 (vE 0) (z0 (vE 1) (z0 (cE (.int 6)) (zd))))) (cE (.int 0))) (zV (ze ixT (J6 (z0 (cE (.str "a")) (z0 (cE (.str "b")) (z0 (cE (.str "ab")) (z0 (cE (.str "cab")) (zd)))))) (zb 3 c__law_pick (z0 (vE 0) (z0 (ze zx (vE 1) (cE (.int 1))) (z0 (cE (.int 4)) (zd))))))) (nxS))
  (zV (ap1 (Ge "") (Zk (jM (ze zx (cE (.int 1)) (zb 3 c__law_pick (z0 (vE 0) (z0 (ze zx (vE 1) (cE (.int 1))) (z0 (cE (.int 3)) (zd))))))) (zD 0) (ZP) (ze ixT (vE 3) (zb 3 c__law_pick (z0 (vE 1) (z0 (ze zx (ze zx (vE 2) (cE (.int 2))) (vE 0)) (z0 (cE (.int 26)) (zd)))))) 1 [0,1,2]))))
noncomputable def ZE:List T->R T:=fun ts=>zu (jw (zk) (en0 3 ts))
noncomputable def ZV (c__law_pick:List T->R T) (c__law_word_of:List T->R T):En->RS:=
  zE (ifS (zH gtC (zb 3 c__law_pick (z0 (vE 0) (z0 (vE 1) (z0 (cE (.int 3)) (zd))))) (cE (.int 0))) (zE (Z0 2 (ze WC (zb 3 c__law_pick (z0 (vE 0) (z0 (ze zx (vE 1) (cE (.int 1))) (z0 (cE (.int 7)) (zd))))) (cE (.int 3))))
  (zE (ifS (zH eqC (zb 3 c__law_pick (z0 (vE 0) (z0 (ze zx (vE 1) (cE (.int 3))) (z0 (cE (.int 8)) (zd))))) (cE (.int 0))) (Z0 2 (ze ixT (J6 (z0 (yV (cE (.int 20))) (z0 (cE (.int 17)) (z0 (cE (.int 20)) (zd))))) (zb 3 c__law_pick (z0 (vE 0) (z0 (ze zx (vE 1) (cE (.int 4))) (z0 (cE (.int 3)) (zd))))))) (nxS))
  (zV (zG (z0 (cE (.str "whole")) (z0 (vE 2) (z0 (ze V4 (cE (.int 20)) (ze zx (vE 2) (zb 3 c__law_pick (z0 (vE 0) (z0 (ze zx (vE 1) (cE (.int 2))) (z0 (cE (.int 4)) (zd))))))) (zd)))))))) (nxS))
  (zE (YY 3 (zd))
  (zE (JY (jM (ze zx (cE (.int 1)) (zb 3 c__law_pick (z0 (vE 0) (z0 (ze zx (vE 1) (cE (.int 1))) (z0 (cE (.int 4)) (zd))))))) (zD 4) (zE (Z0 5 (zb 2 c__law_word_of (z0 (vE 0) (z0 (ze zx (ze zx (vE 1) (cE (.int 5))) (ze ZD (cE (.int 5)) (vE 4))) (zd)))))
  (ifS (zH qR (vB 5) (vB 3)) (z0f 3 (vE 5)) (nxS))))
  (zV (zG (z0 (cE (.str "pick")) (z0 (ap1 z0e (Zk (K2 (vE 3)) (jF 0 1) (ZP) (zG (z0 (vE 1) (z0 (ze zx (cE (.int 1)) (zb 3 c__law_pick (z0 (vE 2) (z0 (ze zx (ze zx (vE 3) (cE (.int 30))) (vE 0)) (z0 (cE (.int 20)) (zd)))))) (zd)))) 2 [0,1])) (zd)))))))
noncomputable def ZA:List T->R T:=fun ts=>zu (ZV (zk) (ZE) (en0 6 ts))
noncomputable def we (c__law_pick:List T->R T) (c__law_leaf_kind:List T->R T) (c__law_kind:List T->R T):En->RS:=
  zE (Z0 3 (zb 3 c__law_pick (z0 (vE 0) (z0 (vE 1) (z0 (cE (.int 5)) (zd))))))
  (zE (ifS (orT (zH eqC (vB 2) (cE (.int 1))) (zH ltC (vB 3) (cE (.int 2)))) (zV (zb 2 c__law_leaf_kind (z0 (vE 0) (z0 (ze zx (vE 1) (cE (.int 1))) (zd))))) (nxS))
  (zE (ifS (zH ltC (vB 3) (cE (.int 4))) (zE (Z0 4 (Zk (jM (ze zx (cE (.int 1)) (zb 3 c__law_pick (z0 (vE 0) (z0 (ze zx (vE 1) (cE (.int 1))) (z0 (cE (.int 3)) (zd))))))) (zD 0) (ZP) (zb 3 c__law_kind (z0 (vE 1) (z0 (ze zx (ze zx (ze ZD (cE (.int 3)) (vE 2)) (cE (.int 40))) (ze ZD (cE (.int 50)) (vE 0))) (z0 (ze WC (vE 3) (cE (.int 1))) (zd))))) 1 [0,1,2]))
  (zV (zG (z0 (cE (.str "row")) (z0 (ap1 z0e (vE 4)) (zd)))))) (nxS))
  (zE (Z0 5 (zb 3 c__law_pick (z0 (vE 0) (z0 (ze zx (vE 1) (cE (.int 1))) (z0 (cE (.int 3)) (zd))))))
  (zV (zG (z0 (cE (.str "many")) (z0 (zb 3 c__law_kind (z0 (vE 0) (z0 (ze zx (ze ZD (cE (.int 3)) (vE 1)) (cE (.int 40))) (z0 (ze WC (vE 2) (cE (.int 1))) (zd))))) (z0 (vE 5) (z0 (ze V4 (cE (.int 3)) (ze zx (vE 5) (zb 3 c__law_pick (z0 (vE 0) (z0 (ze zx (vE 1) (cE (.int 2))) (z0 (cE (.int 3)) (zd))))))) (zd))))))))))
noncomputable def Zv:Nat->Nat->List T->R T
 | 0,_=>fun _=> .bad
 | n+1,_=>fun ts=>zu (we (zk) (ZA) (Zv n 0) (en0 6 ts))
noncomputable abbrev Zw (n:Nat):List T->R T:=Zv n 0
noncomputable def jx:En->RS:=
  zE (Z0 1 (J6 (z0 (zG (zd)) (zd))))
  (zE (JY (jS (vE 0)) (zD 2) (zE (YY 3 (zd))
  (zE (JY (jS (vE 1)) (zD 4) (YZ 3 (Zk (jS (vE 2)) (zD 0) (ZP) (ze zx (vE 1) (zG (z0 (vE 0) (zd)))) 1 [4])))
  (mvS 1 3))))
  (zV (vE 1)))
noncomputable def zh:List T->R T:=fun ts=>zu (jx  (en0 5 ts))
noncomputable def zC (c__law_all:List T->R T) (c__law_rows_of:List T->R T):En->RS:=
  zE (ifS (zH eqC (ze ixT (vE 0) (cE (.int 0))) (cE (.str "whole"))) (zV (z0g (Ur (ze ixT (vE 0) (cE (.int 1))) (ze zx (ze ixT (vE 0) (cE (.int 2))) (cE (.int 1)))))) (nxS))
  (zE (ifS (zH eqC (ze ixT (vE 0) (cE (.int 0))) (cE (.str "pick"))) (zV (Zk (jS (ze ixT (vE 0) (cE (.int 1)))) (jF 0 1) (ZP) (vE 0) 2 [])) (nxS))
  (zE (ifS (zH eqC (ze ixT (vE 0) (cE (.int 0))) (cE (.str "row"))) (zV (zb 1 c__law_rows_of (z0 (Zk (jS (ze ixT (vE 0) (cE (.int 1)))) (zD 0) (ZP) (zb 1 c__law_all (z0 (vE 0) (zd))) 1 []) (zd)))) (nxS))
  (zE (YY 1 (zd))
  (zE (JY (Ur (ze ixT (vE 0) (cE (.int 2))) (ze zx (ze ixT (vE 0) (cE (.int 3))) (cE (.int 1)))) (zD 2) (YZ 1 (zb 1 c__law_rows_of (z0 (ze ZD (J6 (z0 (zb 1 c__law_all (z0 (ze ixT (vE 0) (cE (.int 1))) (zd))) (zd))) (vE 2)) (zd)))))
  (zV (vE 1))))))
noncomputable def J7:Nat->Nat->List T->R T
 | 0,_=>fun _=> .bad
 | n+1,_=>fun ts=>zu (zC (J7 n 0) (zh) (en0 3 ts))
noncomputable abbrev zL (n:Nat):List T->R T:=J7 n 0
noncomputable def zO (c__law_all:List T->R T) (c__law_size:List T->R T):En->RS:=
  zE (ifS (zH inC (ze ixT (vE 0) (cE (.int 0))) (zG (z0 (cE (.str "whole")) (z0 (cE (.str "pick")) (zd))))) (zV (ap1 jD (zb 1 c__law_all (z0 (vE 0) (zd))))) (nxS))
  (zE (Z0 1 (ifE (zH eqC (ze ixT (vE 0) (cE (.int 0))) (cE (.str "row"))) (Zk (jS (ze ixT (vE 0) (cE (.int 1)))) (zD 0) (ZP) (zb 1 c__law_size (z0 (vE 0) (zd))) 1 []) (J6 (zd))))
  (zE (Z0 2 (cE (.int 1)))
  (zE (JY (jS (vE 1)) (zD 3) (Z0 2 (ze ZD (vE 2) (vE 3))))
  (zE (ifS (zH eqC (ze ixT (vE 0) (cE (.int 0))) (cE (.str "many"))) (zE (Z0 4 (zb 1 c__law_size (z0 (ze ixT (vE 0) (cE (.int 1))) (zd))))
  (zE (Z0 2 (ze zx (ap1 yH (jR eqC (ze ixT (vE 0) (cE (.int 2))) (cE (.int 0)))) (ze ZD (vE 4) (ap1 yH (chE leC leC (ze ixT (vE 0) (cE (.int 2))) (cE (.int 1)) (ze ixT (vE 0) (cE (.int 3))))))))
  (zE (Z0 2 (ze zx (vE 2) (ze ZD (ze ZD (vE 4) (vE 4)) (ap1 yH (chE leC leC (ze ixT (vE 0) (cE (.int 2))) (cE (.int 2)) (ze ixT (vE 0) (cE (.int 3))))))))
  (Z0 2 (ze zx (vE 2) (ze ZD (ze ZD (ze ZD (vE 4) (vE 4)) (vE 4)) (ap1 yH (jR eqC (ze ixT (vE 0) (cE (.int 3))) (cE (.int 3)))))))))) (nxS))
  (zV (vE 2))))))
noncomputable def ZX:Nat->Nat->List T->R T
 | 0,_=>fun _=> .bad
 | n+1,_=>fun ts=>zu (zO (zL 8) (ZX n 0) (en0 5 ts))
noncomputable abbrev ZY (n:Nat):List T->R T:=ZX n 0
noncomputable def Js (c__law_kind:List T->R T) (c__law_size:List T->R T):En->RS:=
  zE (Z0 3 (zb 3 c__law_kind (z0 (vE 0) (z0 (vE 1) (z0 (cE (.int 3)) (zd))))))
  (zE (JY (jM (cE (.int 3))) (zD 4) (zE (ifS (zH leC (zb 1 c__law_size (z0 (vE 3) (zd))) (vB 2)) (zV (vE 3)) (nxS))
  (Z0 3 (zb 3 c__law_kind (z0 (vE 0) (z0 (ze zx (ze zx (vE 1) (cE (.int 500))) (ze ZD (cE (.int 700)) (vE 4))) (z0 (cE (.int 2)) (zd))))))))
  (zV (ifE (zH leC (zb 1 c__law_size (z0 (vE 3) (zd))) (vB 2)) (vE 3) (zG (z0 (cE (.str "whole")) (z0 (yV (cE (.int 1))) (z0 (cE (.int 2)) (zd))))))))
noncomputable def j8:List T->R T:=fun ts=>zu (Js (Zw 8) (ZY 8) (en0 5 ts))
noncomputable def UF:En->RS:=
  zV (u7 (ap1 (Jc "int") (vB 0)) (vY (ap1 (Jc "bool") (vB 0))))
noncomputable def jp:List T->R T:=fun ts=>zu (UF  (en0 1 ts))
noncomputable def wS (c_is_whole:List T->R T):En->RS:=
  zV (u7 (zb 1 c_is_whole (z0 (vE 0) (zd))) (chE leC leC (yV (cE (.int 50))) (vB 0) (cE (.int 50))))
noncomputable def J8:List T->R T:=fun ts=>zu (wS (jp) (en0 1 ts))
noncomputable def Y7:En->RS:=
  zE (ifS (orT (JV (jk (ap1 (Jc "str") (vB 0)))) (JV (chT leC leC (cE (.int 1)) (ap1 jD (vB 0)) (cE (.int 3))))) (zV (cE (.bl false))) (nxS))
  (zV (ap1 gj (Zk (jS (vE 0)) (zD 0) (ZP) (chE leC leC (cE (.str "a")) (vB 0) (cE (.str "z"))) 1 [])))
noncomputable def Jf:List T->R T:=fun ts=>zu (Y7  (en0 1 ts))
noncomputable def zM (c_is_word:List T->R T) (c_is_rule_within:List T->R T) (c_is_bound:List T->R T):En->RS:=
  zE (ifS (orT (zH eqC (vB 1) (cE (.int 0))) (orT (JV (jk (ap1 (Jc "tuple") (vB 0)))) (zH eqC (ap1 jD (vB 0)) (cE (.int 0))))) (zV (cE (.bl false))) (nxS))
  (zE (ifS (orT (zH eqC (ze ixT (vE 0) (cE (.int 0))) (cE (.str "sum"))) (zH eqC (ze ixT (vE 0) (cE (.int 0))) (cE (.str "size")))) (zV (u7 (jR eqC (ap1 jD (vB 0)) (cE (.int 3))) (u7 (zb 1 c_is_bound (z0 (ze ixT (vE 0) (cE (.int 1))) (zd))) (zb 1 c_is_bound (z0 (ze ixT (vE 0) (cE (.int 2))) (zd)))))) (nxS))
  (zE (ifS (zH eqC (ze ixT (vE 0) (cE (.int 0))) (cE (.str "word"))) (zV (u7 (jR eqC (ap1 jD (vB 0)) (cE (.int 2))) (zb 1 c_is_word (z0 (ze ixT (vE 0) (cE (.int 1))) (zd))))) (nxS))
  (zE (ifS (orT (zH eqC (ze ixT (vE 0) (cE (.int 0))) (cE (.str "rising"))) (zH eqC (ze ixT (vE 0) (cE (.int 0))) (cE (.str "unlike")))) (zV (jR eqC (ap1 jD (vB 0)) (cE (.int 1)))) (nxS))
  (zE (ifS (zH eqC (ze ixT (vE 0) (cE (.int 0))) (cE (.str "no"))) (zV (u7 (jR eqC (ap1 jD (vB 0)) (cE (.int 2))) (zb 2 c_is_rule_within (z0 (ze ixT (vE 0) (cE (.int 1))) (z0 (ze WC (vE 1) (cE (.int 1))) (zd)))))) (nxS))
  (zE (ifS (orT (zH eqC (ze ixT (vE 0) (cE (.int 0))) (cE (.str "all"))) (zH eqC (ze ixT (vE 0) (cE (.int 0))) (cE (.str "some")))) (zV (u7 (jR eqC (ap1 jD (vB 0)) (cE (.int 3))) (u7 (zb 2 c_is_rule_within (z0 (ze ixT (vE 0) (cE (.int 1))) (z0 (ze WC (vE 1) (cE (.int 1))) (zd)))) (zb 2 c_is_rule_within (z0 (ze ixT (vE 0) (cE (.int 2))) (z0 (ze WC (vE 1) (cE (.int 1))) (zd))))))) (nxS))
  (zV (cE (.bl false))))))))
noncomputable def zy:Nat->Nat->List T->R T
 | 0,_=>fun _=> .bad
 | n+1,_=>fun ts=>zu (zM (Jf) (zy n 0) (J8) (en0 2 ts))
noncomputable abbrev jN (n:Nat):List T->R T:=zy n 0
noncomputable def Wt (c_is_rule_within:List T->R T):En->RS:=
  zV (zb 2 c_is_rule_within (z0 (vE 0) (z0 (cE (.int 3)) (zd))))
noncomputable def Za:List T->R T:=fun ts=>zu (Wt (jN 8) (en0 1 ts))
noncomputable def jy:En->RS:=
  zV (u7 (ap1 (Jc "str") (vB 0)) (u7 (chE leC leC (cE (.int 1)) (ap1 jD (vB 0)) (cE (.int 3))) (jR eqC (Zk (jS (vE 0)) (zD 0) (JV (chT leC leC (cE (.str "a")) (vB 0) (cE (.str "z")))) (vE 0) 1 []) (J6 (zd)))))
noncomputable def Zj:List T->R T:=fun ts=>zu (jy  (en0 1 ts))
noncomputable def u9:En->RS:=
  zV (u7 (ap1 (Jc "int") (vB 0)) (u7 (vY (ap1 (Jc "bool") (vB 0))) (chE leC leC (vB 1) (vB 0) (vB 2))))
noncomputable def Zr:List T->R T:=fun ts=>zu (u9  (en0 3 ts))
noncomputable def Z7 (c__law_whole:List T->R T) (c__law_is_word:List T->R T) (c__law_is_rule:List T->R T):En->RS:=
  zE (ifS (orT (JV (jk (ap1 (Jc "tuple") (vB 0)))) (orT (zH eqC (vB 0) (zG (zd))) (orT (JV (jk (ap1 (Jc "str") (ze ixT (vE 0) (cE (.int 0)))))) (zH ltC (vB 1) (cE (.int 1)))))) (zV (cE (.bl false))) (nxS))
  (zE (Gg 2 3 (z0 (ze ixT (vE 0) (cE (.int 0))) (z0 (slE (vE 0) (ZJ (cE (.int 1))) (noO)) (zd))))
  (zE (ifS (zH inC (vB 2) (zG (z0 (cE (.str "rising")) (z0 (cE (.str "unlike")) (zd))))) (zV (jR eqC (vB 3) (zG (zd)))) (nxS))
  (zE (ifS (zH inC (vB 2) (zG (z0 (cE (.str "sum")) (z0 (cE (.str "size")) (zd))))) (zV (u7 (jR eqC (ap1 jD (vB 3)) (cE (.int 2))) (jR eqC (Zk (jS (vE 3)) (zD 0) (JV (jk (zb 3 c__law_whole (z0 (vE 0) (z0 (yV (cE (.int 50))) (z0 (cE (.int 50)) (zd))))))) (vE 0) 1 []) (J6 (zd))))) (nxS))
  (zE (ifS (zH eqC (vB 2) (cE (.str "word"))) (zV (u7 (jR eqC (ap1 jD (vB 3)) (cE (.int 1))) (zb 1 c__law_is_word (z0 (ze ixT (vE 3) (cE (.int 0))) (zd))))) (nxS))
  (zE (ifS (zH qR (zG (z0 (vE 2) (z0 (ap1 jD (vB 3)) (zd)))) (zG (z0 (zG (z0 (cE (.str "no")) (z0 (cE (.int 1)) (zd)))) (z0 (zG (z0 (cE (.str "all")) (z0 (cE (.int 2)) (zd)))) (z0 (zG (z0 (cE (.str "some")) (z0 (cE (.int 2)) (zd)))) (zd)))))) (zV (cE (.bl false))) (nxS))
  (zV (jR eqC (Zk (jS (vE 3)) (zD 0) (JV (jk (zb 2 c__law_is_rule (z0 (vE 0) (z0 (ze WC (vE 1) (cE (.int 1))) (zd)))))) (vE 0) 1 [1]) (J6 (zd)))))))))
noncomputable def zA:Nat->Nat->List T->R T
 | 0,_=>fun _=> .bad
 | n+1,_=>fun ts=>zu (Z7 (Zr) (Zj) (zA n 0) (en0 4 ts))
noncomputable abbrev zF (n:Nat):List T->R T:=zA n 0
noncomputable def uT:En->RS:=
  zE (YY 1 (z0 (uM 0 okX uQ) (z0 (uM 0 okX WJ) (z0 (uM 0 okX WK) (z0 (uM 0 okX WL) (zd))))))
  (zE (YZ 1 (J6 (z0 (uM 0 okX Wc) (z0 (uM 0 okX Wd) (zd)))))
  (zE (ifS (orT (zH neC (z0h z14 (vB 1) (cE (.bl true))) (cE (.int 1))) (JV (jk (uM 0 okX JK)))) (zV (cE (.str "wrong"))) (nxS))
  (zV (ze ixT (J6 (z0 (cE (.str "ended")) (z0 (cE (.str "no kind")) (z0 (cE (.str "no rule")) (z0 (cE (.str "no text")) (z0 (cE (.str "no worth")) (z0 (cE (.str "too many")) (zd)))))))) (z0h z15 (vB 1) (cE (.bl true)))))))
noncomputable def jq:Nat->R T:=fun c=>zu (uT  (enC 2 c))
noncomputable def wf (c_is_rule:List T->R T):En->RS:=
  ifS (JV (jk (zb 1 c_is_rule (z0 (vE 0) (zd))))) (XX 2) (nxS)
noncomputable def jr:List T->R T:=fun ts=>zu (wf (Za) (en0 1 ts))
noncomputable def Jt:En->RS:=
  zV (vY (ap1 z17 (Zk (Q1 (vE 0)) (jF 0 1) (ZP) (jR inC (vB 1) (slE (vE 2) (noO) (ZJ (vE 0)))) 2 [0])))
noncomputable def Ju:List T->R T:=fun ts=>zu (Jt  (en0 1 ts))
noncomputable def Jv:En->RS:=
  zV (ap1 gj (Zk (z11 (vE 0) (slE (vE 0) (ZJ (cE (.int 1))) (noO))) (jF 0 1) (ZP) (jR leC (vB 0) (vB 1)) 2 []))
noncomputable def Jw:List T->R T:=fun ts=>zu (Jv  (en0 1 ts))
noncomputable def UG:En->RS:=
  zV (ifE (jk (ap1 (Jc "tuple") (vB 0))) (vE 0) (zG (z0 (vE 0) (zd))))
noncomputable def wT:List T->R T:=fun ts=>zu (UG  (en0 1 ts))
noncomputable def wg (c_leaves_of:List T->R T):En->RS:=
  zE (ifS (JV (jk (ap1 (Jc "tuple") (vB 0)))) (zV (J6 (z0 (vE 0) (zd)))) (nxS))
  (zE (YY 1 (zd))
  (zE (JY (jS (vE 0)) (zD 2) (YZ 1 (zb 1 c_leaves_of (z0 (vE 2) (zd)))))
  (zV (vE 1))))
noncomputable def ZZ:Nat->Nat->List T->R T
 | 0,_=>fun _=> .bad
 | n+1,_=>fun ts=>zu (wg (ZZ n 0) (en0 3 ts))
noncomputable abbrev j0 (n:Nat):List T->R T:=ZZ n 0
noncomputable def Jx (c_is_whole:List T->R T) (c_leaves_of:List T->R T):En->RS:=
  zV (Zk (jS (zb 1 c_leaves_of (z0 (vE 0) (zd)))) (zD 0) (jk (zb 1 c_is_whole (z0 (vE 0) (zd)))) (vE 0) 1 [])
noncomputable def Jy:List T->R T:=fun ts=>zu (Jx (jp) (j0 8) (en0 1 ts))
noncomputable def ZW (c_parts_of:List T->R T) (c_leaves_of:List T->R T) (c_numbers_in:List T->R T) (c_are_rising:List T->R T) (c_are_unlike:List T->R T):En->RS:=
  zE (ifS (zH eqC (ze ixT (vE 0) (cE (.int 0))) (cE (.str "sum"))) (zV (chE leC leC (ze ixT (vE 0) (cE (.int 1))) (ap1 z0i (zb 1 c_numbers_in (z0 (vE 1) (zd)))) (ze ixT (vE 0) (cE (.int 2))))) (nxS))
  (zE (ifS (zH eqC (ze ixT (vE 0) (cE (.int 0))) (cE (.str "size"))) (zV (chE leC leC (ze ixT (vE 0) (cE (.int 1))) (ap1 jD (zb 1 c_parts_of (z0 (vE 1) (zd)))) (ze ixT (vE 0) (cE (.int 2))))) (nxS))
  (zE (ifS (zH eqC (ze ixT (vE 0) (cE (.int 0))) (cE (.str "word"))) (zV (jR inC (ze ixT (vE 0) (cE (.int 1))) (zb 1 c_leaves_of (z0 (vE 1) (zd))))) (nxS))
  (zE (ifS (zH eqC (ze ixT (vE 0) (cE (.int 0))) (cE (.str "rising"))) (zV (zb 1 c_are_rising (z0 (zb 1 c_numbers_in (z0 (vE 1) (zd))) (zd)))) (nxS))
  (zV (zb 1 c_are_unlike (z0 (zb 1 c_parts_of (z0 (vE 1) (zd))) (zd)))))))
noncomputable def ZB:List T->R T:=fun ts=>zu (ZW (wT) (j0 8) (Jy) (Jw) (Ju) (en0 2 ts))
noncomputable def Wu (c_is_kept:List T->R T) (c_is_single_kept:List T->R T):En->RS:=
  zE (ifS (zH eqC (ze ixT (vE 0) (cE (.int 0))) (cE (.str "no"))) (zV (vY (zb 2 c_is_kept (z0 (ze ixT (vE 0) (cE (.int 1))) (z0 (vE 1) (zd)))))) (nxS))
  (zE (ifS (zH eqC (ze ixT (vE 0) (cE (.int 0))) (cE (.str "all"))) (zV (u7 (zb 2 c_is_kept (z0 (ze ixT (vE 0) (cE (.int 1))) (z0 (vE 1) (zd)))) (zb 2 c_is_kept (z0 (ze ixT (vE 0) (cE (.int 2))) (z0 (vE 1) (zd)))))) (nxS))
  (zE (ifS (zH eqC (ze ixT (vE 0) (cE (.int 0))) (cE (.str "some"))) (zV (orE (zb 2 c_is_kept (z0 (ze ixT (vE 0) (cE (.int 1))) (z0 (vE 1) (zd)))) (zb 2 c_is_kept (z0 (ze ixT (vE 0) (cE (.int 2))) (z0 (vE 1) (zd)))))) (nxS))
  (zV (zb 2 c_is_single_kept (z0 (vE 0) (z0 (vE 1) (zd)))))))
noncomputable def ZS:Nat->Nat->List T->R T
 | 0,_=>fun _=> .bad
 | n+1,_=>fun ts=>zu (Wu (ZS n 0) (ZB) (en0 2 ts))
noncomputable abbrev Wv (n:Nat):List T->R T:=ZS n 0
noncomputable def WM (c_need_rule:List T->R T) (c_is_kept:List T->R T):En->RS:=
  zE (V8 (zb 1 c_need_rule (z0 (vE 0) (zd))))
  (zV (zb 2 c_is_kept (z0 (vE 0) (z0 (vE 1) (zd)))))
noncomputable def JL:List T->R T:=fun ts=>zu (WM (jr) (Wv 8) (en0 2 ts))
noncomputable def j9 (c__law_word:Nat->R T) (c_keeps:List T->R T):En->RS:=
  zE (Z0 2 (cE .non))
  (zE (Z0 3 (cE .non))
  (zE (K8 2 okX (Z0 3 (zb 2 c_keeps (z0 (vE 0) (z0 (vE 1) (zd))))))
  (zE (ifS (Gj 2) (zV (vE 3)) (nxS))
  (zV (Kc 2 c__law_word)))))
noncomputable def Z2:List T->R T:=fun ts=>zu (j9 (jq) (JL) (en0 5 ts))
noncomputable def Z5 (c__law_places:List T->R T):En->RS:=
  zE (YY 1 (z0 (zG (zd)) (zd)))
  (zE (ifS (jk (ap1 (Jc "tuple") (vB 0))) (JY (jM (ap1 jD (vB 0))) (zD 2) (YZ 1 (Zk (jS (zb 1 c__law_places (z0 (ze ixT (vE 0) (vE 2)) (zd)))) (zD 0) (ZP) (ze zx (zG (z0 (vE 1) (zd))) (vE 0)) 1 [2]))) (nxS))
  (zV (vE 1)))
noncomputable def jY:Nat->Nat->List T->R T
 | 0,_=>fun _=> .bad
 | n+1,_=>fun ts=>zu (Z5 (jY n 0) (en0 3 ts))
noncomputable abbrev jd (n:Nat):List T->R T:=jY n 0
noncomputable def Ww:En->RS:=
  zE (JY (jS (vE 1)) (zD 2) (Z0 0 (ze ixT (vE 0) (vE 2))))
  (zV (vE 0))
noncomputable def JZ:List T->R T:=fun ts=>zu (Ww  (en0 3 ts))
noncomputable def J9 (c__law_put:List T->R T):En->RS:=
  zE (ifS (zH eqC (vB 1) (zG (zd))) (zV (vE 2)) (nxS))
  (zE (Z0 3 (ze ixT (vE 1) (cE (.int 0))))
  (zV (ze zx (ze zx (slE (vE 0) (noO) (ZJ (vE 3))) (zG (z0 (zb 3 c__law_put (z0 (ze ixT (vE 0) (vE 3)) (z0 (slE (vE 1) (ZJ (cE (.int 1))) (noO)) (z0 (vE 2) (zd))))) (zd)))) (slE (vE 0) (ZJ (ze zx (vE 3) (cE (.int 1)))) (noO)))))
noncomputable def w4:Nat->Nat->List T->R T
 | 0,_=>fun _=> .bad
 | n+1,_=>fun ts=>zu (J9 (w4 n 0) (en0 4 ts))
noncomputable abbrev zw (n:Nat):List T->R T:=w4 n 0
noncomputable def Zx (c__law_pick:List T->R T) (c__law_places:List T->R T) (c__law_at:List T->R T) (c__law_put:List T->R T):En->RS:=
  zE (Z0 3 (zb 1 c__law_places (z0 (vE 2) (zd))))
  (zE (Z0 4 (ze ixT (vE 3) (zb 3 c__law_pick (z0 (vE 0) (z0 (vE 1) (z0 (ap1 jD (vB 3)) (zd)))))))
  (zE (Z0 5 (zb 2 c__law_at (z0 (vE 2) (z0 (vE 4) (zd)))))
  (zE (Z0 6 (J6 (z0 (cE (.int 0)) (z0 (cE (.int 1)) (z0 (yV (cE (.int 21))) (z0 (cE (.int 21)) (z0 (cE (.int 3)) (z0 (cE (.int 4)) (z0 (cE (.bl true)) (z0 (cE .non) (z0 (cE (.str "a")) (z0 (cE (.str "abcd")) (z0 (cE (.str "A")) (z0 (cE (.str "")) (z0 (cE (.str "many")) (z0 (cE (.str "row")) (z0 (zG (zd)) (z0 (zG (z0 (vE 5) (zd))) (z0 (J6 (z0 (vE 5) (zd))) (z0 (zG (z0 (cE (.str "whole")) (z0 (cE (.int 1)) (z0 (cE (.int 0)) (zd))))) (zd)))))))))))))))))))))
  (zE (Z0 7 (zb 3 c__law_pick (z0 (vE 0) (z0 (ze zx (vE 1) (cE (.int 1))) (z0 (ze zx (ap1 jD (vB 6)) (cE (.int 5))) (zd))))))
  (zE (ifS (zH ltC (vB 7) (ap1 jD (vB 6))) (zV (zb 3 c__law_put (z0 (vE 2) (z0 (vE 4) (z0 (ze ixT (vE 6) (vE 7)) (zd)))))) (nxS))
  (zE (ifS (qS (jk (ap1 (Jc "tuple") (vB 5))) (zH neC (vB 5) (zG (zd)))) (zE (Z0 8 (zb 3 c__law_pick (z0 (vE 0) (z0 (ze zx (vE 1) (cE (.int 2))) (z0 (ap1 jD (vB 5)) (zd))))))
  (zV (zb 3 c__law_put (z0 (vE 2) (z0 (vE 4) (z0 (ze ixT (J6 (z0 (ze zx (slE (vE 5) (noO) (ZJ (vE 8))) (slE (vE 5) (ZJ (ze zx (vE 8) (cE (.int 1)))) (noO))) (z0 (ze zx (ze zx (slE (vE 5) (noO) (ZJ (vE 8))) (slE (vE 5) (ZJ (vE 8)) (ZJ (ze zx (vE 8) (cE (.int 1)))))) (slE (vE 5) (ZJ (vE 8)) (noO))) (zd)))) (ze wx (vE 7) (cE (.int 2)))) (zd))))))) (nxS))
  (zE (ifS (jk (ap1 (Jc "int") (vB 5))) (zV (zb 3 c__law_put (z0 (vE 2) (z0 (vE 4) (z0 (ze WC (ze zx (vE 5) (cE (.int 1))) (ze ZD (cE (.int 2)) (ze wx (vE 7) (cE (.int 2))))) (zd)))))) (nxS))
  (zV (zb 3 c__law_put (z0 (vE 2) (z0 (vE 4) (z0 (zG (z0 (cE (.str "row")) (z0 (zG (z0 (vE 5) (z0 (vE 5) (zd)))) (zd)))) (zd)))))))))))))
noncomputable def zP:List T->R T:=fun ts=>zu (Zx (zk) (jd 40) (JZ) (zw 40) (en0 9 ts))
noncomputable def jZ (c__law_leaves:List T->R T):En->RS:=
  zE (ifS (JV (jk (ap1 (Jc "tuple") (vB 0)))) (zV (J6 (z0 (vE 0) (zd)))) (nxS))
  (zE (Z0 1 (J6 (zd)))
  (zE (JY (jS (vE 0)) (zD 2) (Z0 1 (ze zx (vE 1) (zb 1 c__law_leaves (z0 (vE 2) (zd))))))
  (zV (vE 1))))
noncomputable def Zy:Nat->Nat->List T->R T
 | 0,_=>fun _=> .bad
 | n+1,_=>fun ts=>zu (jZ (Zy n 0) (en0 3 ts))
noncomputable abbrev je (n:Nat):List T->R T:=Zy n 0
noncomputable def Jz (c__law_leaves:List T->R T) (c__law_keeps:List T->R T):En->RS:=
  zE (Z0 2 (Zk (jS (zb 1 c__law_leaves (z0 (vE 1) (zd)))) (zD 0) (jk (ap1 (Jc "int") (vB 0))) (vE 0) 1 []))
  (zE (Z0 3 (ifE (jk (ap1 (Jc "tuple") (vB 1))) (vE 1) (zG (z0 (vE 1) (zd)))))
  (zE (ifS (zH eqC (ze ixT (vE 0) (cE (.int 0))) (cE (.str "sum"))) (zE (Z0 4 (cE (.int 0)))
  (zE (JY (jS (vE 2)) (zD 5) (Z0 4 (ze zx (vE 4) (vE 5))))
  (zV (u7 (jR leC (ze ixT (vE 0) (cE (.int 1))) (vB 4)) (jR leC (vB 4) (ze ixT (vE 0) (cE (.int 2)))))))) (nxS))
  (zE (ifS (zH eqC (ze ixT (vE 0) (cE (.int 0))) (cE (.str "size"))) (zV (u7 (jR geC (ap1 jD (vB 3)) (ze ixT (vE 0) (cE (.int 1)))) (jR leC (ap1 jD (vB 3)) (ze ixT (vE 0) (cE (.int 2)))))) (nxS))
  (zE (ifS (zH eqC (ze ixT (vE 0) (cE (.int 0))) (cE (.str "word"))) (zV (jR neC (Zk (jS (zb 1 c__law_leaves (z0 (vE 1) (zd)))) (zD 0) (zH eqC (vB 0) (ze ixT (vE 1) (cE (.int 1)))) (vE 0) 1 [0]) (J6 (zd)))) (nxS))
  (zE (ifS (zH eqC (ze ixT (vE 0) (cE (.int 0))) (cE (.str "rising"))) (zV (jR eqC (vB 2) (ap1 X4 (vB 2)))) (nxS))
  (zE (ifS (zH eqC (ze ixT (vE 0) (cE (.int 0))) (cE (.str "unlike"))) (zV (jR eqC (Zk (jM (ap1 jD (vB 3))) (zD 0) (zH inC (ze ixT (vE 1) (vE 0)) (slE (vE 1) (noO) (ZJ (vE 0)))) (vE 0) 1 [3]) (J6 (zd)))) (nxS))
  (zE (ifS (zH eqC (ze ixT (vE 0) (cE (.int 0))) (cE (.str "no"))) (zV (vY (zb 2 c__law_keeps (z0 (ze ixT (vE 0) (cE (.int 1))) (z0 (vE 1) (zd)))))) (nxS))
  (zE (Z0 6 (Zk (jS (slE (vE 0) (ZJ (cE (.int 1))) (noO))) (zD 0) (ZP) (zb 2 c__law_keeps (z0 (vE 0) (z0 (vE 1) (zd)))) 1 [1]))
  (zV (ifE (zH eqC (ze ixT (vE 0) (cE (.int 0))) (cE (.str "all"))) (u7 (ze ixT (vE 6) (cE (.int 0))) (ze ixT (vE 6) (cE (.int 1)))) (orE (ze ixT (vE 6) (cE (.int 0))) (ze ixT (vE 6) (cE (.int 1))))))))))))))
noncomputable def zr:Nat->Nat->List T->R T
 | 0,_=>fun _=> .bad
 | n+1,_=>fun ts=>zu (Jz (je 8) (zr n 0) (en0 7 ts))
noncomputable abbrev jG (n:Nat):List T->R T:=zr n 0
noncomputable def X7 (c__law_all:List T->R T) (c__law_small:List T->R T) (c__law_spoilt_thing:List T->R T) (c__law_tried:List T->R T) (c_is_rule:List T->R T) (c__law_rule:List T->R T) (c__law_keeps:List T->R T) (c__law_is_rule:List T->R T):En->RS:=
  zE (Z0 1 (zb 3 c__law_rule (z0 (vE 0) (z0 (cE (.int 0)) (z0 (cE (.int 3)) (zd))))))
  (zE (ifS (orT (zH Uq (zb 1 c_is_rule (z0 (vE 1) (zd))) (cE (.bl true))) (zH Uq (zb 2 c__law_is_rule (z0 (vE 1) (z0 (cE (.int 3)) (zd)))) (cE (.bl true)))) (zV (cE (.bl false))) (nxS))
  (zE (Z0 2 (zG (z0 (cE (.str "no")) (z0 (zG (z0 (cE (.str "no")) (z0 (vE 1) (zd)))) (zd)))))
  (zE (ifS (zH neC (zb 1 c_is_rule (z0 (vE 2) (zd))) (zb 2 c__law_is_rule (z0 (vE 2) (z0 (cE (.int 3)) (zd))))) (zV (cE (.bl false))) (nxS))
  (zE (Z0 3 (zb 3 c__law_small (z0 (vE 0) (z0 (cE (.int 1000)) (z0 (cE (.int 40)) (zd))))))
  (zE (Z0 4 (zb 1 c__law_all (z0 (vE 3) (zd))))
  (zE (JY (jS (vE 4)) (zD 5) (zE (Z0 6 (zb 2 c__law_tried (z0 (vE 1) (z0 (vE 5) (zd)))))
  (ifS (orT (zH neC (vB 6) (zb 2 c__law_keeps (z0 (vE 1) (z0 (vE 5) (zd))))) (JV (jk (ap1 (Jc "bool") (vB 6))))) (zV (cE (.bl false))) (nxS))))
  (zE (JY (jM (cE (.int 5))) (zD 7) (zE (Z0 8 (zb 3 c__law_spoilt_thing (z0 (vE 0) (z0 (ze zx (cE (.int 6000)) (ze ZD (cE (.int 20)) (vE 7))) (z0 (vE 1) (zd))))))
  (zE (ifS (orT (zH neC (zb 1 c_is_rule (z0 (vE 8) (zd))) (zb 2 c__law_is_rule (z0 (vE 8) (z0 (cE (.int 3)) (zd))))) (JV (jk (ap1 (Jc "bool") (zb 1 c_is_rule (z0 (vE 8) (zd))))))) (zV (cE (.bl false))) (nxS))
  (ifS (qS (JV (jk (zb 2 c__law_is_rule (z0 (vE 8) (z0 (cE (.int 3)) (zd)))))) (zH neC (zb 2 c__law_tried (z0 (vE 8) (z0 (ze ixT (vE 4) (cE (.int 0))) (zd)))) (cE (.str "no rule")))) (zV (cE (.bl false))) (nxS)))))
  (zE (YY 9 (z0 (zG (z0 (cE (.str "sum")) (z0 (yV (cE (.int 50))) (z0 (cE (.int 50)) (zd))))) (z0 (zG (z0 (cE (.str "sum")) (z0 (yV (cE (.int 51))) (z0 (cE (.int 0)) (zd))))) (z0 (zG (z0 (cE (.str "size")) (z0 (cE (.int 0)) (z0 (cE (.int 51)) (zd))))) (z0 (zG (z0 (cE (.str "word")) (z0 (cE (.str "zzz")) (zd)))) (z0 (zG (z0 (cE (.str "word")) (z0 (cE (.str "zzzz")) (zd)))) (z0 (zG (z0 (cE (.str "rising")) (z0 (cE (.int 1)) (zd)))) (zd))))))))
  (zE (JY (jS (zG (z0 (cE (.str "all")) (z0 (cE (.str "some")) (zd))))) (zD 10) (zE (Z0 11 (zG (z0 (vE 10) (z0 (zG (z0 (cE (.str "rising")) (zd))) (z0 (zG (z0 (vE 10) (z0 (zG (z0 (cE (.str "unlike")) (zd))) (z0 (zG (z0 (cE (.str "sum")) (z0 (cE (.int 50)) (z0 (cE (.int 50)) (zd))))) (zd))))) (zd))))))
  (YZ 9 (J6 (z0 (vE 11) (z0 (zG (z0 (vE 10) (z0 (vE 11) (z0 (zG (z0 (cE (.str "rising")) (zd))) (zd))))) (z0 (zG (z0 (vE 10) (z0 (zG (z0 (cE (.str "rising")) (zd))) (z0 (vE 11) (zd))))) (z0 (zG (z0 (cE (.str "no")) (z0 (vE 11) (zd)))) (z0 (zG (z0 (vE 10) (z0 (vE 11) (zd)))) (zd))))))))))
  (zV (jR eqC (Zk (jS (vE 9)) (zD 0) (ZP) (zb 1 c_is_rule (z0 (vE 0) (zd))) 1 []) (Zk (jS (vE 9)) (zD 0) (ZP) (zb 2 c__law_is_rule (z0 (vE 0) (z0 (cE (.int 3)) (zd)))) 1 []))))))))))))
noncomputable def y6:List T->R T:=fun ts=>zu (X7 (zL 8) (j8) (zP) (Z2) (Za) (wd 8) (jG 8) (zF 12) (en0 12 ts))
end G
namespace G
open PySem L2 PV
noncomputable abbrev scr (ns:List Int):T:= .fz (ns.map T.int)
theorem Kr (ns:List Int) (k:Int) (h0:0<=k):∃ c,Je [scr ns, .int k]= .ok (.int c):=by
 have e1:Je [scr ns, .int k]=zu (if decide (k < ((ns.map T.int).length:Int))=true then (atT (ns.map T.int) k).s (fun t=> .rt t) else
   match (eqC (scr ns) (.lst [])).s (fun b=>if b=true then RS.rt (.int 0) else .nx [.vl (scr ns), .vl (.int k)]) with
   | .nx ρ' =>zV (ze zx (ze ZD (ze ixT (vE 0) (ze wx (vE 1) (ap1 jD (vB 0)))) (cE (.int 31))) (vE 1)) ρ'
   | r=>r):=by
  show zu (match (if decide (k < ((ns.map T.int).length:Int))=true then (atT (ns.map T.int) k).s (fun t=>RS.rt t) else .nx [.vl (scr ns), .vl (.int k)]) with
   | .nx ρ' =>_
   | r=>r)=_
  cases decide (k < ((ns.map T.int).length:Int)) with
  | true=>
   rw [if_pos rfl,if_pos rfl]
   unfold atT
   cases atI (ns.map T.int) k <;> rfl
  | false=>rfl
 rw [e1,List.length_map]
 by_cases hk:k < (ns.length:Int)
 ·obtain ⟨v,hv⟩:∃ v,ns[k.toNat]? =some v:=⟨ns[k.toNat]'(by omega),List.getElem?_eq_getElem (by omega)⟩
  have ea:atI (ns.map T.int) k=some (.int v):=by
   have:k=((k.toNat:Nat):Int):=by omega
   rw [this]
   exact JH (by rw [List.getElem?_map,hv]; rfl)
  rw [decide_eq_true hk,if_pos rfl]
  exact ⟨v,by unfold atT; rw [ea]; rfl⟩
 ·rw [decide_eq_false hk,if_neg Bool.false_ne_true]
  cases ns with
  | nil=>exact ⟨0,rfl⟩
  | cons x xs=>
   have hm0:=Int.emod_nonneg k (show (((x :: xs).length:Nat):Int) ≠ 0 by simp only [List.length_cons]; omega)
   have hm1:=Int.emod_lt_of_pos k (show (0:Int) < (((x :: xs).length:Nat):Int) by simp only [List.length_cons]; omega)
   obtain ⟨v,hv⟩:∃ v,(x :: xs)[(k % (((x :: xs).length:Nat):Int)).toNat]? =some v:=⟨_,List.getElem?_eq_getElem (by omega)⟩
   have ea:atI ((x :: xs).map T.int) (k % (((x :: xs).length:Nat):Int))=some (.int v):=by
    have e:k % (((x :: xs).length:Nat):Int)=(((k % (((x :: xs).length:Nat):Int)).toNat:Nat):Int):=by omega
    rw [e]
    exact JH (by rw [List.getElem?_map,hv]; rfl)
   have cm:yE v 31:= .inr ⟨by decide,by decide⟩
   have hp:(0:Int) < (((x :: xs).map T.int).length:Int):=by simp only [List.length_map,List.length_cons]; omega
   refine ⟨v*31+k, ?_⟩
   show zu (((((if 0 < (((x :: xs).map T.int).length:Int) then R.ok (T.int (k % (((x :: xs).map T.int).length:Int))) else .bad).bind fun y=>ixT (scr (x :: xs)) y).bind fun a=>ZD a (.int 31)).bind fun a=>zx a (.int k)).s fun t=> .rt t)=_
   rw [if_pos hp]
   show zu ((((atT ((x :: xs).map T.int) (k % (((x :: xs).map T.int).length:Int))).bind fun a=>ZD a (.int 31)).bind fun a=>zx a (.int k)).s fun t=> .rt t)=_
   rw [List.length_map]
   unfold atT
   rw [ea]
   show zu ((((if yE v 31 then R.ok (T.int (v*31)) else .bad)).bind fun a=>zx a (.int k)).s fun t=> .rt t)=_
   rw [if_pos cm]
   rfl
theorem Z6 (ns:List Int) (k m:Int) (h0:0<=k) (hm:0 < m):∃ p,zk [scr ns, .int k, .int m]= .ok (.int p)/\0<=p/\p < m:=by
 obtain ⟨c,hc⟩:=Kr ns k h0
 have cm1:yE 6151 (k+1):= .inl ⟨by decide,by decide⟩
 have cm2:yE (c+6151*(k+1)) 40692:= .inr ⟨by decide,by decide⟩
 generalize hd:(c+6151*(k+1))*40692 % 2147483399=d
 have hd0:0<=d:=by rw [← hd]; exact Int.emod_nonneg _ (by decide)
 have hd1:d < 2147483399:=by rw [← hd]; exact Int.emod_lt_of_pos _ (by decide)
 have cm3:yE d d:= .inl ⟨by omega,by omega⟩
 refine ⟨(d*d+d / 31) % 2147483629 % m, ?_,Int.emod_nonneg _ (by omega),Int.emod_lt_of_pos _ hm⟩
 have e1:zk [scr ns, .int k, .int m]=zu (match ((((((Je [scr ns, .int k]).bind fun x=>(ZD (.int 6151) (.int (k+1))).bind fun y=>zx x y).bind fun x=>ZD x (.int 40692)).bind fun x=>wx x (.int 2147483399))).s fun t=>RS.nx [.vl (scr ns), .vl (.int k), .vl (.int m), .vl t]) with
   | .nx ρ' =>zV (ze wx (ze wx (ze zx (ze ZD (vE 3) (vE 3)) (ze QD (vE 3) (cE (.int 31)))) (cE (.int 2147483629))) (vE 2)) ρ'
   | r=>r):=rfl
 rw [e1,hc]
 show zu (match (((((if yE 6151 (k+1) then R.ok (T.int (6151*(k+1))) else .bad).bind fun y=>zx (.int c) y).bind fun x=>ZD x (.int 40692)).bind fun x=>wx x (.int 2147483399)).s fun t=>RS.nx [.vl (scr ns), .vl (.int k), .vl (.int m), .vl t]) with
   | .nx ρ' =>_
   | r=>r)=_
 rw [if_pos cm1]
 show zu (match ((((if yE (c+6151*(k+1)) 40692 then R.ok (T.int ((c+6151*(k+1))*40692)) else .bad)).bind fun x=>wx x (.int 2147483399)).s fun t=>RS.nx [.vl (scr ns), .vl (.int k), .vl (.int m), .vl t]) with
   | .nx ρ' =>_
   | r=>r)=_
 rw [if_pos cm2]
 show zu (zV (ze wx (ze wx (ze zx (ze ZD (vE 3) (vE 3)) (ze QD (vE 3) (cE (.int 31)))) (cE (.int 2147483629))) (vE 2)) [.vl (scr ns), .vl (.int k), .vl (.int m), .vl (.int ((c+6151*(k+1))*40692 % 2147483399))])=_
 rw [hd]
 show zu (((((if yE d d then R.ok (T.int (d*d)) else .bad).bind fun x=>zx x (.int (d / 31))).bind fun x=>wx x (.int 2147483629)).bind fun x=>wx x (.int m)).s fun t=>RS.rt t)=_
 rw [if_pos cm3]
 show zu ((if 0 < m then R.ok (T.int ((d*d+d / 31) % 2147483629 % m)) else .bad).s fun t=>RS.rt t)=_
 rw [if_pos hm]
 rfl
end G
namespace G
open PySem L2 PV
theorem Vo {ft:En->R Bool} {fe:En->R T}:∀ (ts:List T) (ρ:En) (x:Sl),Z9 (zD 0) ft fe ts (ρ.set 0 x)=Z9 (zD 0) ft fe ts ρ
 | [],_,_=>rfl
 | t :: ts,ρ,x=>by
  unfold Z9 zD
  rw [List.set_set]
theorem JA {ft:En->R Bool} {fe:En->R T} {p:T->Bool} {h:T->T}:∀ (ts:List T) (ρ:En),(∀ t∈ts,ft (ρ.set 0 (.vl t))= .ok (p t)/\(p t=true->fe (ρ.set 0 (.vl t))= .ok (h t)))->Z9 (zD 0) ft fe ts ρ= .ok ((ts.filter p).map h)
 | [],_,_=>rfl
 | t :: ts,ρ,H=>by
  obtain ⟨h1,h2⟩:=H t List.mem_cons_self
  have ih:=JA ts ρ fun u hu=>H u (List.mem_cons_of_mem _ hu)
  have e:Z9 (zD 0) ft fe (t :: ts) ρ=(ft (ρ.set 0 (.vl t))).bind fun k=>if k=true then (fe (ρ.set 0 (.vl t))).bind fun v=>(Z9 (zD 0) ft fe ts (ρ.set 0 (.vl t))).bind fun vs=> .ok (v :: vs) else Z9 (zD 0) ft fe ts (ρ.set 0 (.vl t)):=rfl
  rw [e,h1,Vo,ih]
  show (if p t=true then _ else _)=_
  cases hp:p t with
  | true=>rw [if_pos rfl,h2 hp,List.filter_cons_of_pos hp]; rfl
  | false=>rw [if_neg Bool.false_ne_true,List.filter_cons_of_neg (by rw [hp]; exact Bool.false_ne_true)]
theorem Vp {fe:En->R T} {h:T->T} (ts:List T) (ρ:En) (H:∀ t∈ts,fe (ρ.set 0 (.vl t))= .ok (h t)):Z9 (zD 0) ZP fe ts ρ= .ok (ts.map h):=by
 have:=JA (ft:=ZP) (fe:=fe) (p:=fun _=>true) (h:=h) ts ρ fun t ht=>⟨rfl,fun _=>H t ht⟩
 rw [this,List.filter_eq_self.mpr (fun _ _=>rfl)]
theorem Jg {fe:En->R T} {h:T->T} {k:Nat} {js:List Nat} {ρ:En} (ts:List T) (hl:ts.length<=bnd) (H:∀ t∈ts,fe ((yG k js ρ).set 0 (.vl t))= .ok (h t)):Z3 (zD 0) ZP fe k js ρ ts= .ok (ts.map h):=by
 unfold Z3
 rw [if_pos hl,Vp ts _ H]
 rfl
theorem Q2 (p:T->Bool):∀ ts:List T,qU (ts.map fun t=>T.bl (p t))=some (ts.all p)
 | []=>rfl
 | t :: ts=>by
  show (match qU (ts.map fun t=>T.bl (p t)) with | some j=>some (p t && j) | none=>none)=_
  rw [Q2 p ts]; rfl
noncomputable def isW:T->Bool
 | .int _=>true
 | _=>false
theorem Q3 (t:T):jp [t]= .ok (.bl (isW t)):=by cases t <;> rfl
noncomputable def Q4 (lo hi:Int):T->T->Bool
 | .int i, .int j=>decide (lo<=i) && decide (i<=j) && decide (j<=hi)
 | _,_=>false
noncomputable def Zs (c:Nat):Bool:=decide (97<=c) && decide (c<=122)
noncomputable def JB:T->Bool
 | .str x=>decide (1<=x.length) && decide (x.length<=3) && x.cps.toList.all Zs
 | _=>false
theorem Q5 (a b:Nat):decide ([a] < [b])=decide (a < b):=by
 by_cases h:a < b
 ·rw [decide_eq_true h]; exact decide_eq_true (List.Lex.rel h)
 ·rw [decide_eq_false h]
  refine decide_eq_false fun z=> ?_
  cases z with
  | rel h' =>exact h h'
  | cons h' =>cases h'
theorem Ks (c:Nat) (ρ:En):chE leC leC (cE (.str "a")) (vB 0) (cE (.str "z")) ((Sl.vl (.str ⟨#[c]⟩)) :: ρ)= .ok (.bl (Zs c)):=by
 have e1:leC (.str "a") (.str ⟨#[c]⟩)= .ok (decide (97<=c)):=by
  show R.ok (!decide ([c] < [97]))=_
  rw [Q5]
  by_cases h:c < 97
  ·rw [decide_eq_true h,decide_eq_false (by omega)]; rfl
  ·rw [decide_eq_false h,decide_eq_true (by omega)]; rfl
 have e2:leC (.str ⟨#[c]⟩) (.str "z")= .ok (decide (c<=122)):=by
  show R.ok (!decide ([122] < [c]))=_
  rw [Q5]
  by_cases h:122 < c
  ·rw [decide_eq_true h,decide_eq_false (by omega)]; rfl
  ·rw [decide_eq_false h,decide_eq_true (by omega)]; rfl
 show (leC (.str "a") (.str ⟨#[c]⟩)).bind (fun k=>if k=true then (leC (.str ⟨#[c]⟩) (.str "z")).bind fun k' =>R.ok (T.bl k') else R.ok (T.bl false))=_
 rw [e1,e2]
 unfold Zs
 show (if decide (97<=c)=true then R.ok (T.bl (decide (c<=122))) else .ok (.bl false))=_
 cases decide (97<=c) <;> rfl
noncomputable def X8:T->Prop
 | .str x=>x.length<=bnd
 | _=>True
theorem Kt (t:T) (ht:X8 t):Jf [t]= .ok (.bl (JB t)):=by
 cases t with
 | str x=>
  have hx:x.length<=bnd:=ht
  have e0:jD (.str x)= .ok (.int x.length):=if_pos hx
  have ec:Z3 (zD 0) ZP (chE leC leC (cE (.str "a")) (vB 0) (cE (.str "z"))) 1 [] [.vl (.str x)] (Jd x)= .ok (x.cps.toList.map fun c=>T.bl (Zs c)):=by
   have hs:(Jd x).length<=bnd:=by unfold Jd; rw [List.length_map,Array.length_toList]; exact hx
   have:=Jg (fe:=chE leC leC (cE (.str "a")) (vB 0) (cE (.str "z"))) (h:=fun t=>match t with | .str y=>T.bl (Zs (y.cps.toList.headD 0)) | t=>t) (k:=1) (js:=[]) (ρ:=[.vl (.str x)]) (Jd x) hs fun t ht=>by
    unfold Jd at ht
    obtain ⟨c,_,rfl⟩:=List.mem_map.mp ht
    exact Ks c []
   rw [this]
   unfold Jd
   rw [List.map_map]
   rfl
  have ea:qU (x.cps.toList.map fun c=>T.bl (Zs c))=some (x.cps.toList.all Zs):=by
   have:=Q2 (fun t=>match t with | .str y=>Zs (y.cps.toList.headD 0) | _=>true) (Jd x)
   unfold Jd at this
   rw [List.map_map,List.all_map] at this
   exact this
  have e1:Jf [.str x]=zu (match ((((jD (.str x)).bind fun y=>(leC (.int 1) y).bind fun k=>if k=true then leC y (.int 3) else .ok false).bind fun b=> .ok (!b)).s fun k=>if k=true then RS.rt (.bl false) else .nx [.vl (.str x)]) with
    | .nx ρ' =>zV (ap1 gj (Zk (jS (vE 0)) (zD 0) (ZP) (chE leC leC (cE (.str "a")) (vB 0) (cE (.str "z"))) 1 [])) ρ'
    | r=>r):=rfl
  rw [e1,e0]
  have c1:decide ((1:Int)<=(x.length:Int))=decide (1<=x.length):=by
   by_cases h:1<=x.length
   ·rw [decide_eq_true h]; exact decide_eq_true (by omega)
   ·rw [decide_eq_false h]; exact decide_eq_false (by omega)
  have c2:decide ((x.length:Int)<=(3:Int))=decide (x.length<=3):=by
   by_cases h:x.length<=3
   ·rw [decide_eq_true h]; exact decide_eq_true (by omega)
   ·rw [decide_eq_false h]; exact decide_eq_false (by omega)
  show zu (match ((((if decide ((1:Int)<=(x.length:Int))=true then R.ok (decide ((x.length:Int)<=(3:Int))) else .ok false)).bind fun b=> .ok (!b)).s fun k=>if k=true then RS.rt (.bl false) else .nx [.vl (.str x)]) with
    | .nx ρ' =>_
    | r=>r)=_
  rw [c1,c2]
  show _=R.ok (T.bl (decide (1<=x.length) && decide (x.length<=3) && x.cps.toList.all Zs))
  cases decide (1<=x.length) with
  | false=>rfl
  | true=>
   cases decide (x.length<=3) with
   | false=>rfl
   | true=>
    show zu ((((Z3 (zD 0) ZP (chE leC leC (cE (.str "a")) (vB 0) (cE (.str "z"))) 1 [] [.vl (.str x)] (Jd x)).bind fun vs=> .ok (.lst vs)).bind gj).s fun t=> .rt t)=_
    rw [ec]
    show zu ((match qU (x.cps.toList.map fun c=>T.bl (Zs c)) with | some k=>R.ok (T.bl k) | none=> .bad).s fun t=> .rt t)=_
    rw [ea]
    rfl
 | _=>rfl
end G
namespace G
open PySem L2 PV
theorem bOk {α β:Type} (a:α) (f:α->R β):(R.ok a).bind f=f a:=rfl
theorem jL {α:Type} (a:α) (f:α->RS):(R.ok a).s f=f a:=rfl
theorem W4 (r:R T):zu (r.s fun t=> .rt t)=r:=by cases r <;> rfl
theorem jf (f:En->R T) (ρ:En):zV f ρ=(f (frz ρ)).s fun t=> .rt t:=rfl
theorem ZF {g:List T->R T} {f:En->R T} {ρ:En}:zb 1 g (z0 f zd) ρ=(f ρ).bind fun x=>g [x]:=by
 unfold zb z0 zd
 cases f ρ <;> rfl
theorem jt {g:List T->R T} {f f' :En->R T} {ρ:En}:zb 2 g (z0 f (z0 f' zd)) ρ=(f ρ).bind fun x=>(f' ρ).bind fun y=>g [x,y]:=by
 unfold zb z0 zd
 cases f ρ with
 | ok a=>cases f' ρ <;> rfl
 | ex c=>rfl
 | bad=>rfl
theorem jg {g:List T->R T} {f f' f'' :En->R T} {ρ:En}:zb 3 g (z0 f (z0 f' (z0 f'' zd))) ρ=(f ρ).bind fun x=>(f' ρ).bind fun y=>(f'' ρ).bind fun z=>g [x,y,z]:=by
 unfold zb z0 zd
 cases f ρ with
 | ok a=>
  cases f' ρ with
  | ok b=>cases f'' ρ <;> rfl
  | ex c=>rfl
  | bad=>rfl
 | ex c=>rfl
 | bad=>rfl
noncomputable def z0j (r k:R T):R T:=r.bind fun x=>match x with
 | .bl true=>k
 | .bl false=> .ok (.bl false)
 | _=> .bad
theorem Y8 (f g:En->R T) (ρ:En):u7 f g ρ=z0j (f ρ) (g ρ):=rfl
theorem y7 (a:Bool) (k:R T):z0j (.ok (.bl a)) k=if a=true then k else .ok (.bl false):=by cases a <;> rfl
theorem v0 {t:T} {ρ:En}:vE 0 (.vl t :: ρ)= .ok t:=rfl
theorem v1 {t:T} {a:Sl} {ρ:En}:vE 1 (a :: .vl t :: ρ)= .ok t:=rfl
theorem w0 {t:T} {ρ:En}:vB 0 (.vl t :: ρ)= .ok t:=rfl
theorem w1 {t:T} {a:Sl} {ρ:En}:vB 1 (a :: .vl t :: ρ)= .ok t:=rfl
theorem Zb {t:T} {ρ:En}:cE t ρ= .ok t:=rfl
theorem zo {g:T->T->R T} {f f' :En->R T} {ρ:En}:ze g f f' ρ=(f ρ).bind fun x=>(f' ρ).bind fun y=>g x y:=rfl
theorem We {t:T} {ρ:En}:frz (.vl t :: ρ)= .vl t :: frz ρ:=rfl
theorem Ut {ρ:En}:frz (.un :: ρ)= .un :: frz ρ:=rfl
theorem uU:frz []=[]:=rfl
theorem Ku {g g' :T->T->R Bool} {fa fb fc:En->R T} {ρ:En}:chE g g' fa fb fc ρ=(fa ρ).bind fun x=>(fb ρ).bind fun y=>(g x y).bind fun k=>if k=true then (fc ρ).bind fun z=>(g' y z).bind fun k' => .ok (.bl k') else .ok (.bl false):=rfl
theorem jH {g:T->R T} {f:En->R T} {ρ:En}:ap1 g f ρ=(f ρ).bind g:=rfl
theorem QN {i j:Int}:leC (.int i) (.int j)= .ok (decide (i<=j)):=rfl
theorem ZQ {g:T->T->R Bool} {f f' :En->R T} {ρ:En}:jR g f f' ρ=(f ρ).bind fun x=>(f' ρ).bind fun y=>(g x y).bind fun b=> .ok (.bl b):=rfl
theorem qf {xs:List T}:jD (.tup xs)= .ok (.int xs.length):=rfl
theorem Gu {xs:List T}:jD (.lst xs)= .ok (.int xs.length):=rfl
mutual
noncomputable def sOk:T->Prop
 | .str x=>x.length<=bnd
 | .tup xs=>W5 xs
 | .lst xs=>W5 xs
 | .fz xs=>W5 xs
 | _=>True
noncomputable def W5:List T->Prop
 | []=>True
 | t :: ts=>sOk t/\W5 ts
end
theorem uw:∀ {ts:List T} {t:T},W5 ts->t∈ts->sOk t
 | u :: ts,t,h,hm=>by
  have h' :sOk u/\W5 ts:=by simpa only [W5] using h
  rcases List.mem_cons.mp hm with rfl | hm
  ·exact h'.1
  ·exact uw h'.2 hm
theorem sOk.str {t:T} (h:sOk t):X8 t:=by
 cases t with
 | str x=>
  have h' :x.length<=bnd:=by simpa only [sOk] using h
  exact h'
 | _=>trivial
theorem uV {xs:List T} (h:sOk (.tup xs)):W5 xs:=by simpa only [sOk] using h
noncomputable def Wx:T->Bool
 | .tup [w, .int i]=>JB w && decide (1<=i) && decide (i<=20)
 | _=>false
end G
namespace G
open PySem L2 PV
theorem zR (f g:En->RS) (ρ:En):zE f g ρ=match f ρ with | .nx ρ' =>g ρ' | r=>r:=rfl
theorem J0 (g:En->R Bool) (f1 f2:En->RS) (ρ:En):ifS g f1 f2 ρ=(g ρ).s fun k=>if k=true then f1 ρ else f2 ρ:=rfl
theorem Kv (f g:En->R Bool) (ρ:En):orT f g ρ=(f ρ).bind fun x=>if x=true then .ok true else g ρ:=rfl
theorem wn (f:En->R Bool) (ρ:En):JV f ρ=(f ρ).bind fun x=> .ok (!x):=rfl
theorem JC (f:En->R T) (ρ:En):jk f ρ=(f ρ).bind tru:=rfl
theorem W6 (k:Bool):tru (.bl k)= .ok k:=rfl
theorem JD (i:Nat) (f:En->R T) (ρ:En):Z0 i f ρ=(f ρ).s fun t=> .nx (ρ.set i (.vl t)):=rfl
theorem zZ {g:T->T->R Bool} {f f' :En->R T} {ρ:En}:zH g f f' ρ=(f ρ).bind fun x=>(f' ρ).bind fun y=>g x y:=rfl
theorem Zn {fi:En->R (List T)} {g:T->En->R En} {ft:En->R Bool} {fe:En->R T} {k:Nat} {js:List Nat} {ρ:En}:Zk fi g ft fe k js ρ=(fi ρ).bind fun ts=>(Z3 g ft fe k js ρ ts).bind fun vs=> .ok (.lst vs):=rfl
theorem jT {f:En->R T} {ρ:En}:jS f ρ=(f ρ).bind Y0:=rfl
noncomputable def Y9:T->Str
 | .tup (.str w :: _)=>w
 | _=>⟨#[]⟩
noncomputable def XZ:T->Bool
 | .tup cs=>decide (1<=cs.length) && decide (cs.length<=4) && cs.all Wx && decide ((dd [] (cs.map Y9)).length=cs.length)
 | _=>false
end G
namespace G
open PySem L2 PV
noncomputable def isS (w:Str):T->Bool
 | .str s=>s == w
 | _=>false
theorem eqS (h:T) (w:Str):eqC h (.str w)= .ok (isS w h):=by cases h <;> rfl
theorem eqI (i j:Int):eqC (.int i) (.int j)= .ok (i == j):=rfl
theorem at0 {h:T} {r:List T}:ixT (.tup (h :: r)) (.int 0)= .ok h:=by
 show atT (h :: r) 0=_
 unfold atT
 rw [show atI (h :: r) 0=some h from JH (j:=0) rfl]
theorem at1 {h a:T} {r:List T}:ixT (.tup (h :: a :: r)) (.int 1)= .ok a:=by
 show atT (h :: a :: r) 1=_
 unfold atT
 rw [show atI (h :: a :: r) 1=some a from JH (j:=1) rfl]
theorem at2 {h a b:T} {r:List T}:ixT (.tup (h :: a :: b :: r)) (.int 2)= .ok b:=by
 show atT (h :: a :: b :: r) 2=_
 unfold atT
 rw [show atI (h :: a :: b :: r) 2=some b from JH (j:=2) rfl]
theorem at3 {h a b c:T} {r:List T}:ixT (.tup (h :: a :: b :: c :: r)) (.int 3)= .ok c:=by
 show atT (h :: a :: b :: c :: r) 3=_
 unfold atT
 rw [show atI (h :: a :: b :: c :: r) 3=some c from JH (j:=3) rfl]
noncomputable def Vq (k:T->Bool):T->Bool
 | .tup ks=>decide (1<=ks.length) && decide (ks.length<=3) && ks.all k
 | _=>false
noncomputable def k6:List T->Bool
 | [a,b]=>Q4 (-20) 20 a b
 | _=>false
noncomputable def Gv:List T->Bool
 | [c]=>XZ c
 | _=>false
noncomputable def kRow (k:T->Bool):List T->Bool
 | [c]=>Vq k c
 | _=>false
noncomputable def Gw (k:T->Bool):List T->Bool
 | [c,a,b]=>Q4 0 3 a b && k c
 | _=>false
noncomputable def Kw (k:T->Bool):T->Bool
 | .tup (h :: r)=>if isS "whole" h=true then k6 r else if isS "pick" h=true then Gv r else if isS "row" h=true then kRow k r else if isS "many" h=true then Gw k r else false
 | _=>false
noncomputable def isK:Nat->T->Bool
 | 0,_=>false
 | d+1,t=>Kw (isK d) t
theorem Wy {i j:Int}:WC (.int i) (.int j)= .ok (.int (i - j)):=rfl
end G
namespace G
open PySem L2 PV
noncomputable def inR (lo hi:Int):T->Bool
 | .int i=>decide (lo<=i) && decide (i<=hi)
 | _=>false
theorem Ya (t:T) (lo hi:Int):Zr [t, .int lo, .int hi]= .ok (.bl (inR lo hi t)):=by
 cases t with
 | int i=>
  show zu ((if decide (lo<=i)=true then R.ok (T.bl (decide (i<=hi))) else .ok (.bl false)).s fun t=> .rt t)=R.ok (T.bl (decide (lo<=i) && decide (i<=hi)))
  cases decide (lo<=i) <;> rfl
 | _=>rfl
theorem Vr (xs:List T):eqC (.lst xs) (.lst [])= .ok xs.isEmpty:=by cases xs <;> rfl
theorem X9 (c:Nat) (ρ:En):JV (chT leC leC (cE (.str "a")) (vB 0) (cE (.str "z"))) ((Sl.vl (.str ⟨#[c]⟩)) :: ρ)= .ok (!Zs c):=by
 have e1:leC (.str "a") (.str ⟨#[c]⟩)= .ok (decide (97<=c)):=by
  show R.ok (!decide ([c] < [97]))=_
  rw [Q5]
  by_cases h:c < 97
  ·rw [decide_eq_true h,decide_eq_false (by omega)]; rfl
  ·rw [decide_eq_false h,decide_eq_true (by omega)]; rfl
 have e2:leC (.str ⟨#[c]⟩) (.str "z")= .ok (decide (c<=122)):=by
  show R.ok (!decide ([122] < [c]))=_
  rw [Q5]
  by_cases h:122 < c
  ·rw [decide_eq_true h,decide_eq_false (by omega)]; rfl
  ·rw [decide_eq_false h,decide_eq_true (by omega)]; rfl
 show ((leC (.str "a") (.str ⟨#[c]⟩)).bind (fun k=>if k=true then leC (.str ⟨#[c]⟩) (.str "z") else R.ok false)).bind (fun x=>R.ok (!x))=_
 rw [e1,e2]
 unfold Zs
 show (if decide (97<=c)=true then R.ok (decide (c<=122)) else R.ok false).bind (fun x=>R.ok (!x))=_
 cases decide (97<=c) <;> rfl
theorem wC {α:Type} (p:α->Bool):∀ xs:List α,(xs.filter fun x=> !p x).isEmpty=xs.all p
 | []=>rfl
 | x :: xs=>by
  have ih:=wC p xs
  rw [List.all_cons]
  cases hp:p x with
  | true=>rw [List.filter_cons_of_neg (by simp [hp]),ih]; rfl
  | false=>rw [List.filter_cons_of_pos (by simp [hp])]; rfl
noncomputable def Kx:T->Bool
 | .str y=> !Zs (y.cps.toList.headD 0)
 | _=>false
theorem qg (t:T) (ht:X8 t):Zj [t]= .ok (.bl (JB t)):=by
 cases t with
 | str x=>
  have hx:x.length<=bnd:=ht
  have e0:jD (.str x)= .ok (.int x.length):=if_pos hx
  have hs:(Jd x).length<=bnd:=by unfold Jd; rw [List.length_map,Array.length_toList]; exact hx
  have ec:Z3 (zD 0) (JV (chT leC leC (cE (.str "a")) (vB 0) (cE (.str "z")))) (vE 0) 1 [] [.vl (.str x)] (Jd x)= .ok (((Jd x).filter Kx).map id):=by
   unfold Z3
   rw [if_pos hs]
   have:=JA (ft:=JV (chT leC leC (cE (.str "a")) (vB 0) (cE (.str "z")))) (fe:=vE 0) (p:=Kx) (h:=id) (Jd x) (yG 1 [] [.vl (.str x)]) fun t ht=>by
    unfold Jd at ht
    obtain ⟨c,_,rfl⟩:=List.mem_map.mp ht
    exact ⟨X9 c [],fun _=>rfl⟩
   rw [this]
   rfl
  have em:(((Jd x).filter Kx).map id).isEmpty=x.cps.toList.all Zs:=by
   rw [List.map_id]
   unfold Jd
   rw [List.filter_map,List.isEmpty_map]
   exact wC Zs x.cps.toList
  have e:Zj [.str x]=zu (jy [.vl (.str x)]):=rfl
  rw [e,jy]
  simp only [jf,W4,We,uU,Y8,jH,w0,v0,bOk,Ku,Zb,e0,QN,ZQ,Zn,jT,Y0,ec]
  have c1:decide ((1:Int)<=(x.length:Int))=decide (1<=x.length):=by
   by_cases h:1<=x.length
   ·rw [decide_eq_true h]; exact decide_eq_true (by omega)
   ·rw [decide_eq_false h]; exact decide_eq_false (by omega)
  have c2:decide ((x.length:Int)<=(3:Int))=decide (x.length<=3):=by
   by_cases h:x.length<=3
   ·rw [decide_eq_true h]; exact decide_eq_true (by omega)
   ·rw [decide_eq_false h]; exact decide_eq_false (by omega)
  rw [c1,c2]
  have el:J6 zd [Sl.vl (T.str x)]= .ok (.lst []):=rfl
  rw [el]
  simp only [bOk,Vr,em]
  show z0j (R.ok (T.bl true)) (z0j (if decide (1<=x.length)=true then R.ok (T.bl (decide (x.length<=3))) else R.ok (T.bl false)) (R.ok (T.bl (x.cps.toList.all Zs))))=R.ok (T.bl (decide (1<=x.length) && decide (x.length<=3) && x.cps.toList.all Zs))
  cases decide (1<=x.length) <;> cases decide (x.length<=3) <;> rfl
 | _=>rfl
theorem Yb:∀ (ws acc:List Str),(dd acc ws).length<=acc.length+ws.length
 | [],acc=>Nat.le_refl _
 | w :: ws,acc=>by
  unfold dd
  have:=Yb ws (if w∈acc then acc else acc++[w])
  by_cases h:w∈acc
  ·rw [if_pos h] at this ⊢; simp only [List.length_cons]; omega
  ·rw [if_neg h] at this ⊢; rw [List.length_append,List.length_singleton] at this; simp only [List.length_cons]; omega
theorem qh:∀ (ws acc:List Str),((dd acc ws).length=acc.length+ws.length)↔∀ (k:Nat) (w:Str),ws[k]? =some w->w ∉ acc++ws.take k
 | [],acc=>by simp [dd]
 | w :: ws,acc=>by
  unfold dd
  by_cases h:w∈acc
  ·rw [if_pos h]
   have:=Yb ws acc
   constructor
   ·intro e; simp only [List.length_cons] at e; omega
   ·intro H; exact absurd (List.mem_append_left _ h) (H 0 w rfl)
  ·rw [if_neg h]
   have ih:=qh ws (acc++[w])
   rw [List.length_append,List.length_singleton] at ih
   rw [show acc.length+(w :: ws).length=acc.length+1+ws.length by simp only [List.length_cons]; omega,ih]
   constructor
   ·intro H k v e
    cases k with
    | zero=>simp at e; subst e; simpa using h
    | succ k=>
     have:=H k v (by simpa using e)
     simpa [List.append_assoc] using this
   ·intro H k v e
    have:=H (k+1) v (by simpa using e)
    simpa [List.append_assoc] using this
end G
namespace G
open PySem L2 PV
theorem cut1 {h:T} {r:List T}:slT (.tup (h :: r)) (some 1) none= .ok (.tup r):=by
 show R.ok (T.tup (cut (h :: r) (some 1) none))=_
 have:cut (h :: r) (some 1) none=r:=by
  unfold cut
  rw [show HT.sIx (h :: r).length 0 (some (1:Int))=1 from by rw [show (1:Int)=((1:Nat):Int) from rfl,HT.sIx_nat]; simp only [List.length_cons]; omega,HT.sIx_none]
  simp
 rw [this]
theorem ltI (i j:Int):ltC (.int i) (.int j)= .ok (decide (i < j)):=rfl
theorem v2 {t:T} {a b:Sl} {ρ:En}:vE 2 (a :: b :: .vl t :: ρ)= .ok t:=rfl
theorem v3 {t:T} {a b c:Sl} {ρ:En}:vE 3 (a :: b :: c :: .vl t :: ρ)= .ok t:=rfl
theorem w2 {t:T} {a b:Sl} {ρ:En}:vB 2 (a :: b :: .vl t :: ρ)= .ok t:=rfl
theorem w3 {t:T} {a b c:Sl} {ρ:En}:vB 3 (a :: b :: c :: .vl t :: ρ)= .ok t:=rfl
theorem w5 {t:T} {a b c d e:Sl} {ρ:En}:vB 5 (a :: b :: c :: d :: e :: .vl t :: ρ)= .ok t:=rfl
theorem v4 {t:T} {a b c d:Sl} {ρ:En}:vE 4 (a :: b :: c :: d :: .vl t :: ρ)= .ok t:=rfl
theorem Vs (f g:En->R Bool) (ρ:En):qS f g ρ=(f ρ).bind fun x=>if x=true then g ρ else .ok false:=rfl
theorem Vt (t:T):Jc "tuple" t= .ok (.bl (match t with | .tup _=>true | _=>false)):=by cases t <;> rfl
end G
namespace G
open PySem L2 PV
theorem y8 (w:Str):∀ ws:List Str,UW (fun y=>eqF 30 y (.str w)) (ws.map T.str)=some (decide (w∈ws))
 | []=>rfl
 | x :: ws=>by
  have ih:=y8 w ws
  show (match UW (fun y=>eqF 30 y (.str w)) (ws.map T.str) with | none=>none | some c=>some ((x == w) || c))=_
  rw [ih]
  show some ((x == w) || decide (w∈ws))=_
  congr 1
  by_cases h:x=w
  ·subst h; simp
  ·have h' :¬ w=x:=fun z=>h z.symm
   simp [h,h']
end G
namespace G
open PySem L2 PV
end G
namespace G
open PySem L2 PV
theorem Gx {i j:Nat} {f f' :En->R T} {ρ:En}:Gg i j (z0 f (z0 f' zd)) ρ=(f ρ).s fun x=>(f' ρ).s fun y=> .nx ((ρ.set i (.vl x)).set j (.vl y)):=by
 unfold Gg z0 zd
 cases f ρ with
 | ok a=>cases f' ρ <;> rfl
 | ex c=>rfl
 | bad=>rfl
theorem y9 {f:En->R T} {l h:En->R (Option Int)} {ρ:En}:slE f l h ρ=(f ρ).bind fun t=>(l ρ).bind fun lo=>(h ρ).bind fun hi=>slT t lo hi:=rfl
theorem k7 {i:Int} {ρ:En}:ZJ (cE (.int i)) ρ= .ok (some i):=rfl
theorem k8 {ρ:En}:noO ρ= .ok none:=rfl
end G
namespace G
open PySem L2 PV
theorem gtI (i j:Int):gtC (.int i) (.int j)= .ok (decide (i > j)):=rfl
theorem Zo (i j:Int):zx (.int i) (.int j)= .ok (.int (i+j)):=rfl
theorem Gy (p:Int) (h0:0<=p) (h1:p < 26):ixT (.str "abcdefghijklmnopqrstuvwxyz") (.int p)= .ok (.str ⟨#[97+p.toNat]⟩):=by
 have h:p=0\/p=1\/p=2\/p=3\/p=4\/p=5\/p=6\/p=7\/p=8\/p=9\/p=10\/p=11\/p=12\/p=13\/p=14\/p=15\/p=16\/p=17\/p=18\/p=19\/p=20\/p=21\/p=22\/p=23\/p=24\/p=25:=by omega
 rcases h with rfl|rfl|rfl|rfl|rfl|rfl|rfl|rfl|rfl|rfl|rfl|rfl|rfl|rfl|rfl|rfl|rfl|rfl|rfl|rfl|rfl|rfl|rfl|rfl|rfl|rfl <;> rfl
noncomputable abbrev z0k:En->R T:=ze ixT (vE 3) (zb 3 zk (z0 (vE 1) (z0 (ze zx (ze zx (vE 2) (cE (.int 2))) (vE 0)) (z0 (cE (.int 26)) (zd)))))
theorem Gz (ns:List Int) (k:Int) (h0:0<=k) (j:Nat):∃ c:Nat,(97<=c/\c<=122)/\z0k [.vl (.int (j:Int)), .vl (scr ns), .vl (.int k), .vl (.str "abcdefghijklmnopqrstuvwxyz")]= .ok (.str ⟨#[c]⟩):=by
 obtain ⟨p,e,p0,p1⟩:=Z6 ns (k+2+j) 26 (by omega) (by omega)
 refine ⟨97+p.toNat,⟨by omega,by omega⟩, ?_⟩
 simp only [z0k,zo,v3,bOk,jg,v1,v2,v0,Zb,Zo,e]
 exact Gy p p0 p1
theorem QO (ns:List Int) (k:Int) (h0:0<=k):∃ w:Str,ZE [scr ns, .int k]= .ok (.str w)/\JB (.str w)=true:=by
 have e:ZE [scr ns, .int k]=zu (jw zk [.vl (scr ns), .vl (.int k), .un]):=rfl
 obtain ⟨p,e0,p0,p1⟩:=Z6 ns k 6 h0 (by omega)
 have hset:∀ t,([Sl.vl (scr ns),Sl.vl (.int k), .un]:En).set 2 (.vl t)=[Sl.vl (scr ns),Sl.vl (.int k), .vl t]:=fun _=>rfl
 rw [e,jw]
 simp only [zR,J0,JD,Zb,jL,hset,zZ,jg,v0,v1,bOk,e0,gtI]
 cases hp:decide (p > 0) with
 | true=>
  obtain ⟨q,e1,q0,q1⟩:=Z6 ns (k+1) 4 (by omega) (by omega)
  simp only [if_true,jf,We,uU,zo,jg,v0,v1,Zb,bOk,Zo,e1]
  have hq:q=0\/q=1\/q=2\/q=3:=by omega
  rcases hq with rfl | rfl | rfl | rfl
  ·exact ⟨"a",rfl,by decide⟩
  ·exact ⟨"b",rfl,by decide⟩
  ·exact ⟨"ab",rfl,by decide⟩
  ·exact ⟨"cab",rfl,by decide⟩
 | false=>
  obtain ⟨q,e1,q0,q1⟩:=Z6 ns (k+1) 3 (by omega) (by omega)
  simp only [Bool.false_eq_true,if_false,nxS,jf,W4,We,uU,jH,Zn]
  obtain ⟨g,hg⟩:=Classical.skolem.mp (Gz ns k h0)
  have ei:jM (ze zx (cE (.int 1)) (zb 3 zk (z0 (vE 0) (z0 (ze zx (vE 1) (cE (.int 1))) (z0 (cE (.int 3)) (zd)))))) [Sl.vl (scr ns),Sl.vl (.int k), .vl (.str "abcdefghijklmnopqrstuvwxyz")]= .ok (rng 0 (1+q).toNat):=by
   unfold jM
   simp only [zo,jg,v0,v1,Zb,bOk,Zo,e1]
   rw [if_pos ⟨by omega,by omega⟩]
  have ec:∀ n:Nat,n<=3->Z3 (zD 0) ZP z0k 1 [0,1,2] [Sl.vl (scr ns),Sl.vl (.int k), .vl (.str "abcdefghijklmnopqrstuvwxyz")] (rng 0 n)= .ok ((rng 0 n).map fun t=>match t with | .int j=> .str ⟨#[g j.toNat]⟩ | t=>t):=fun n hn=>
   Jg (rng 0 n) (by unfold rng; rw [List.length_map,List.length_range]; exact Nat.le_trans hn (by decide)) fun t ht=>by
    unfold rng at ht
    obtain ⟨j,_,rfl⟩:=List.mem_map.mp ht
    show z0k [.vl (.int (0+(j:Int))), .vl (scr ns), .vl (.int k), .vl (.str "abcdefghijklmnopqrstuvwxyz")]= .ok (.str ⟨#[g (0+(j:Int)).toNat]⟩)
    rw [Int.zero_add,Int.toNat_natCast]
    exact (hg j).2
  rw [ei,bOk,ec _ (by omega),bOk,bOk]
  have hw:∀ j,Zs (g j)=true:=fun j=>by
   obtain ⟨a,b⟩:=(hg j).1
   unfold Zs
   rw [decide_eq_true a,decide_eq_true b]; rfl
  have hq:q=0\/q=1\/q=2:=by omega
  rcases hq with rfl | rfl | rfl
  ·refine ⟨⟨#[g 0]⟩,rfl, ?_⟩
   show (Zs (g 0) && true)=true
   rw [hw 0]; rfl
  ·refine ⟨⟨#[g 0,g 1]⟩,rfl, ?_⟩
   show (Zs (g 0) && (Zs (g 1) && true))=true
   rw [hw 0,hw 1]; rfl
  ·refine ⟨⟨#[g 0,g 1,g 2]⟩,rfl, ?_⟩
   show (Zs (g 0) && (Zs (g 1) && (Zs (g 2) && true)))=true
   rw [hw 0,hw 1,hw 2]; rfl
end G
namespace G
open PySem L2 PV
theorem z1a (j:Int):ZD (.int 5) (.int j)= .ok (.int (5*j)):=by
 show (if yE 5 j then R.ok (T.int (5*j)) else .bad)=_
 rw [if_pos (.inl ⟨by decide,by decide⟩)]
theorem vf {f g:En->R T} {ρ:En} {x y:T} (hf:f ρ= .ok x) (hg:g ρ= .ok y):zG (z0 f (z0 g zd)) ρ= .ok (.tup [x,y]):=by
 unfold zG z0 zd
 rw [hf,hg]; rfl
theorem GA {f g h:En->R T} {ρ:En} {x y z:T} (hf:f ρ= .ok x) (hg:g ρ= .ok y) (hh:h ρ= .ok z):zG (z0 f (z0 g (z0 h zd))) ρ= .ok (.tup [x,y,z]):=by
 unfold zG z0 zd
 rw [hf,hg,hh]; rfl
theorem tup4 {f g h i:En->R T} {ρ:En} {x y z w:T} (hf:f ρ= .ok x) (hg:g ρ= .ok y) (hh:h ρ= .ok z) (hi:i ρ= .ok w):zG (z0 f (z0 g (z0 h (z0 i zd)))) ρ= .ok (.tup [x,y,z,w]):=by
 unfold zG z0 zd
 rw [hf,hg,hh,hi]; rfl
noncomputable def Dst (ws:List Str):Prop:=∀ (k:Nat) (w:Str),ws[k]? =some w->w ∉ ws.take k
theorem Dst.add {ws:List Str} (h:Dst ws) {w:Str} (hw:w ∉ ws):Dst (ws++[w]):=fun k x hx=>by
 by_cases hk:k < ws.length
 ·rw [List.getElem?_append_left hk] at hx
  rw [List.take_append_of_le_length (by omega)]
  exact h k x hx
 ·rw [List.getElem?_append_right (by omega)] at hx
  have hk' :k=ws.length:=by
   rcases Nat.lt_or_ge (k - ws.length) 1 with z | z
   ·omega
   ·rw [List.getElem?_eq_none (by simpa using z)] at hx; cases hx
  subst hk'
  rw [Nat.sub_self] at hx
  cases hx
  rw [List.take_left']
  ·exact hw
  ·rfl
noncomputable abbrev Yc:En->RS:=zE (Z0 5 (zb 2 ZE (z0 (vE 0) (z0 (ze zx (ze zx (vE 1) (cE (.int 5))) (ze ZD (cE (.int 5)) (vE 4))) (zd)))))
  (ifS (zH qR (vB 5) (vB 3)) (z0f 3 (vE 5)) (nxS))
theorem uW (ns:List Int) (k:Int) (h0:0<=k):∀ (js:List Nat) (ws:List Str) (x4 x5:Sl),js.length+ws.length<=4->Dst ws->(∀ w∈ws,JB (.str w)=true)->
  ∃ ws' y4 y5,jW (zD 4) Yc (js.map fun (j:Nat)=>T.int (0+(j:Int))) [.vl (scr ns), .vl (.int k), .un, .ow (ws.map T.str),x4,x5]= .nx [.vl (scr ns), .vl (.int k), .un, .ow (ws'.map T.str),y4,y5]/\ws'.length<=4/\Dst ws' /\(∀ w∈ws',JB (.str w)=true)/\(0 < js.length+ws.length->0 < ws'.length)
 | [],ws,x4,x5,hl,hd,hw=>⟨ws,x4,x5,rfl,by simpa using hl,hd,hw,fun h=>by simpa using h⟩
 | j :: js,ws,x4,x5,hl,hd,hw=>by
  obtain ⟨w,ew,hw'⟩:=QO ns (k+5+5*(0+(j:Int))) (by omega)
  have hl' :js.length+ws.length+1<=4:=by simpa [List.length_cons,Nat.add_right_comm] using hl
  have e:jW (zD 4) Yc ((j :: js).map fun (j:Nat)=>T.int (0+(j:Int))) [.vl (scr ns), .vl (.int k), .un, .ow (ws.map T.str),x4,x5]=match Yc [.vl (scr ns), .vl (.int k), .un, .ow (ws.map T.str), .vl (.int (0+(j:Int))),x5] with
   | .nx ρ2=>jW (zD 4) Yc (js.map fun (j:Nat)=>T.int (0+(j:Int))) ρ2
   | .ct ρ2=>jW (zD 4) Yc (js.map fun (j:Nat)=>T.int (0+(j:Int))) ρ2
   | .bk ρ2=> .nx ρ2
   | r=>r:=rfl
  have eb:Yc [.vl (scr ns), .vl (.int k), .un, .ow (ws.map T.str), .vl (.int (0+(j:Int))),x5]= .nx [.vl (scr ns), .vl (.int k), .un, .ow ((if w∈ws then ws else ws++[w]).map T.str), .vl (.int (0+(j:Int))), .vl (.str w)]:=by
   have w3o:∀ (a b c:Sl) (ts:List T) (ρ:En),vB 3 (a :: b :: c :: .ow ts :: ρ)= .ok (.lst ts):=fun _ _ _ _ _=>rfl
   have hset:∀ t,([.vl (scr ns), .vl (.int k), .un, .ow (ws.map T.str), .vl (.int (0+(j:Int))),x5]:En).set 5 (.vl t)=[.vl (scr ns), .vl (.int k), .un, .ow (ws.map T.str), .vl (.int (0+(j:Int))), .vl t]:=fun _=>rfl
   have en:qR (.str w) (.lst (ws.map T.str))= .ok (!decide (w∈ws)):=by
    show ((match UW (fun y=>eqF 30 y (.str w)) (ws.map T.str) with | some b=>R.ok b | none=> .bad)).bind (fun b=>R.ok (!b))=_
    rw [y8]; rfl
   simp only [Yc,zR,JD,jt,v0,v1,v4,zo,Zb,bOk,Zo,z1a,ew,jL,hset,J0,zZ,w5,w3o,en]
   by_cases hm:w∈ws
   ·rw [decide_eq_true hm,if_pos hm]; rfl
   ·rw [decide_eq_false hm,if_neg hm]
    have hb:(ws.map T.str).length < bnd:=by rw [List.length_map]; exact Nat.lt_of_le_of_lt (show ws.length<=4 by omega) (by decide)
    show (if (ws.map T.str).length < bnd then RS.nx _ else .bad)=_
    rw [if_pos hb,List.map_append]
    rfl
  rw [e,eb]
  by_cases hm:w∈ws
  ·rw [if_pos hm]
   obtain ⟨ws',y4,y5,r1,r2,r3,r4,r5⟩:=uW ns k h0 js ws (.vl (.int (0+(j:Int)))) (.vl (.str w)) (by omega) hd hw
   exact ⟨ws',y4,y5,r1,r2,r3,r4,fun _=>r5 (by have:=List.length_pos_of_mem hm; omega)⟩
  ·rw [if_neg hm]
   obtain ⟨ws',y4,y5,r1,r2,r3,r4,r5⟩:=uW ns k h0 js (ws++[w]) (.vl (.int (0+(j:Int)))) (.vl (.str w)) (by simp only [List.length_append,List.length_cons,List.length_nil]; omega) (hd.add hm) (fun x hx=>by
    rcases List.mem_append.mp hx with z | z
    ·exact hw x z
    ·rw [List.mem_singleton.mp z]; exact hw')
   exact ⟨ws',y4,y5,r1,r2,r3,r4,fun _=>r5 (by simp only [List.length_append,List.length_cons,List.length_nil]; omega)⟩
noncomputable abbrev GB:En->R T:=zG (z0 (vE 1) (z0 (ze zx (cE (.int 1)) (zb 3 zk (z0 (vE 2) (z0 (ze zx (ze zx (vE 3) (cE (.int 30))) (vE 0)) (z0 (cE (.int 20)) (zd)))))) (zd)))
theorem Q6 (ns:List Int) (k:Int) (h0:0<=k):∀ (ws:List Str) (i:Nat) (x0 x1:Sl),(∀ w∈ws,JB (.str w)=true)->∃ cs:List T,Z9 (jF 0 1) ZP GB (((ws.map T.str).zipIdx i).map fun p=>T.tup [.int (p.2:Nat),p.1]) [x0,x1, .vl (scr ns), .vl (.int k)]= .ok cs/\cs.all Wx=true/\cs.map Y9=ws
 | [],i,x0,x1,_=>⟨[],rfl,rfl,rfl⟩
 | w :: ws,i,x0,x1,hw=>by
  obtain ⟨p,e,p0,p1⟩:=Z6 ns (k+30+i) 20 (by omega) (by omega)
  obtain ⟨cs,r1,r2,r3⟩:=Q6 ns k h0 ws (i+1) (.vl (.int (i:Int))) (.vl (.str w)) fun x hx=>hw x (List.mem_cons_of_mem _ hx)
  have ec:GB [.vl (.int (i:Int)), .vl (.str w), .vl (scr ns), .vl (.int k)]= .ok (.tup [.str w, .int (1+p)]):=by
   have ea:zb 3 zk (z0 (vE 2) (z0 (ze zx (ze zx (vE 3) (cE (.int 30))) (vE 0)) (z0 (cE (.int 20)) (zd)))) [.vl (.int (i:Int)), .vl (.str w), .vl (scr ns), .vl (.int k)]= .ok (.int p):=by
    simp only [jg,v2,v3,v0,zo,Zb,bOk,Zo,e]
   have eb:ze zx (cE (.int 1)) (zb 3 zk (z0 (vE 2) (z0 (ze zx (ze zx (vE 3) (cE (.int 30))) (vE 0)) (z0 (cE (.int 20)) (zd))))) [.vl (.int (i:Int)), .vl (.str w), .vl (scr ns), .vl (.int k)]= .ok (.int (1+p)):=by
    rw [zo,ea]; rfl
   exact vf v1 eb
  refine ⟨.tup [.str w, .int (1+p)] :: cs, ?_, ?_, ?_⟩
  ·show ((GB [.vl (.int (i:Int)), .vl (.str w), .vl (scr ns), .vl (.int k)]).bind fun v=>(Z9 (jF 0 1) ZP GB (((ws.map T.str).zipIdx (i+1)).map fun p=>T.tup [.int (p.2:Nat),p.1]) [.vl (.int (i:Int)), .vl (.str w), .vl (scr ns), .vl (.int k)]).bind fun vs=>R.ok (v :: vs))=_
   rw [ec,r1]; rfl
  ·rw [List.all_cons,r2,Bool.and_true]
   show (JB (.str w) && decide (1<=1+p) && decide (1+p<=20))=true
   rw [hw w List.mem_cons_self,decide_eq_true (by omega),decide_eq_true (by omega)]; rfl
  ·rw [List.map_cons,r3]; rfl
end G
namespace G
open PySem L2 PV
theorem k9 (i j:Int):V4 (.int i) (.int j)= .ok (.int (if j < i then j else i)):=rfl
theorem Ky (ns:List Int) (k:Int) (h0:0<=k):∃ t,ZA [scr ns, .int k]= .ok t/\∀ d,isK (d+1) t=true:=by
 have e:ZA [scr ns, .int k]=zu (ZV zk ZE [.vl (scr ns), .vl (.int k), .un, .un, .un, .un]):=rfl
 obtain ⟨p,e0,p0,p1⟩:=Z6 ns k 3 h0 (by omega)
 rw [e,ZV,zR]
 simp only [J0,zZ,jg,v0,v1,Zb,bOk,e0,gtI,jL]
 cases hp:decide (p > 0) with
 | true=>
  obtain ⟨q,e1,q0,q1⟩:=Z6 ns (k+1) 7 (by omega) (by omega)
  obtain ⟨q3,e3,_,_⟩:=Z6 ns (k+3) 8 (by omega) (by omega)
  obtain ⟨q4,e4,a4,b4⟩:=Z6 ns (k+4) 3 (by omega) (by omega)
  obtain ⟨q2,e2,a2,b2⟩:=Z6 ns (k+2) 4 (by omega) (by omega)
  have hset:∀ t x,([.vl (scr ns), .vl (.int k),x, .un, .un, .un]:En).set 2 (.vl t)=[.vl (scr ns), .vl (.int k), .vl t, .un, .un, .un]:=fun _ _=>rfl
  have fin:∀ low:Int, -20<=low->low<=20->∃ t,zu (zV (zG (z0 (cE (.str "whole")) (z0 (vE 2) (z0 (ze V4 (cE (.int 20)) (ze zx (vE 2) (zb 3 zk (z0 (vE 0) (z0 (ze zx (vE 1) (cE (.int 2))) (z0 (cE (.int 4)) (zd))))))) (zd))))) [.vl (scr ns), .vl (.int k), .vl (.int low), .un, .un, .un])= .ok t/\∀ d,isK (d+1) t=true:=by
   intro low hl1 hl2
   refine ⟨.tup [.str "whole", .int low, .int (if low+q2 < 20 then low+q2 else 20)], ?_,fun d=> ?_⟩
   ·rw [jf,W4]
    refine GA rfl rfl ?_
    simp only [We,Ut,uU,zo,v2,v0,v1,jg,Zb,bOk,Zo,e2,k9]
   ·show (decide (-20<=low) && decide (low<=_) && decide (_<=(20:Int)))=true
    rw [decide_eq_true hl1,decide_eq_true (by split <;> omega),decide_eq_true (by split <;> omega)]; rfl
  simp only [if_true,zR,JD,J0,zo,jg,v0,v1,Zb,bOk,Zo,e1,Wy,jL,hset,zZ,e3,eqI]
  cases hq:(q3 == 0) with
  | true=>
   have h3:q4=0\/q4=1\/q4=2:=by omega
   rcases h3 with rfl | rfl | rfl
   ·obtain ⟨t,r,s⟩:=fin (-20) (by omega) (by omega)
    refine ⟨t, ?_,s⟩
    rw [← r]
    simp only [if_true,e4,bOk]
    have hv:∀ ρ,(J6 (z0 (yV (cE (.int 20))) (z0 (cE (.int 17)) (z0 (cE (.int 20)) (zd)))) ρ)= .ok (.lst [.int (-20), .int 17, .int 20]):=fun _=>rfl
    simp only [hv,bOk]
    have hx:ixT (.lst [.int (-20), .int 17, .int 20]) (.int 0)= .ok (.int (-20)):=rfl
    simp only [hx,jL,hset,jf]
    generalize zG _ _=z
    cases z <;> rfl
   ·obtain ⟨t,r,s⟩:=fin (17) (by omega) (by omega)
    refine ⟨t, ?_,s⟩
    rw [← r]
    simp only [if_true,e4,bOk]
    have hv:∀ ρ,(J6 (z0 (yV (cE (.int 20))) (z0 (cE (.int 17)) (z0 (cE (.int 20)) (zd)))) ρ)= .ok (.lst [.int (-20), .int 17, .int 20]):=fun _=>rfl
    simp only [hv,bOk]
    have hx:ixT (.lst [.int (-20), .int 17, .int 20]) (.int 1)= .ok (.int (17)):=rfl
    simp only [hx,jL,hset,jf]
    generalize zG _ _=z
    cases z <;> rfl
   ·obtain ⟨t,r,s⟩:=fin (20) (by omega) (by omega)
    refine ⟨t, ?_,s⟩
    rw [← r]
    simp only [if_true,e4,bOk]
    have hv:∀ ρ,(J6 (z0 (yV (cE (.int 20))) (z0 (cE (.int 17)) (z0 (cE (.int 20)) (zd)))) ρ)= .ok (.lst [.int (-20), .int 17, .int 20]):=fun _=>rfl
    simp only [hv,bOk]
    have hx:ixT (.lst [.int (-20), .int 17, .int 20]) (.int 2)= .ok (.int (20)):=rfl
    simp only [hx,jL,hset,jf]
    generalize zG _ _=z
    cases z <;> rfl
  | false=>
   obtain ⟨t,r,s⟩:=fin (q - 3) (by omega) (by omega)
   refine ⟨t, ?_,s⟩
   rw [← r]
   simp only [Bool.false_eq_true,if_false,nxS,jf]
   generalize zG _ _=z
   cases z <;> rfl
 | false=>
  obtain ⟨q,e1,q0,q1⟩:=Z6 ns (k+1) 4 (by omega) (by omega)
  simp only [Bool.false_eq_true,if_false,nxS,zR]
  have ei:jM (ze zx (cE (.int 1)) (zb 3 zk (z0 (vE 0) (z0 (ze zx (vE 1) (cE (.int 1))) (z0 (cE (.int 4)) (zd)))))) [.vl (scr ns), .vl (.int k), .un, .ow [], .un, .un]= .ok (rng 0 (1+q).toNat):=by
   unfold jM
   simp only [zo,jg,v0,v1,Zb,bOk,Zo,e1]
   rw [if_pos ⟨by omega,by omega⟩]
  have el:YY 3 zd [.vl (scr ns), .vl (.int k), .un, .un, .un, .un]= .nx [.vl (scr ns), .vl (.int k), .un, .ow [], .un, .un]:=rfl
  rw [el]
  have hn:(List.range (1+q).toNat).length=(1+q).toNat:=List.length_range
  obtain ⟨ws,y4,y5,r1,r2,r3,r4,r5⟩:=uW ns k h0 (List.range (1+q).toNat) [] .un .un (by rw [hn,List.length_nil]; omega) (fun k w h=>by cases h) (fun w h=>by cases h)
  have hpos:0 < ws.length:=r5 (by rw [hn,List.length_nil]; omega)
  have ef:JY (jM (ze zx (cE (.int 1)) (zb 3 zk (z0 (vE 0) (z0 (ze zx (vE 1) (cE (.int 1))) (z0 (cE (.int 4)) (zd))))))) (zD 4) Yc [.vl (scr ns), .vl (.int k), .un, .ow [], .un, .un]= .nx [.vl (scr ns), .vl (.int k), .un, .ow (ws.map T.str),y4,y5]:=by
   unfold JY
   rw [ei,jL]
   exact r1
  obtain ⟨cs,s1,s2,s3⟩:=Q6 ns k h0 ws 0 .un .un r4
  have hcl:cs.length=ws.length:=by rw [← s3,List.length_map]
  refine ⟨.tup [.str "pick", .tup cs], ?_,fun d=> ?_⟩
  ·dsimp only
   rw [ef]
   dsimp only
   rw [jf,W4]
   refine vf rfl ?_
   rw [jH,Zn]
   have ee:K2 (vE 3) (frz [.vl (scr ns), .vl (.int k), .un, .ow (ws.map T.str),y4,y5])= .ok (wB (ws.map T.str)):=rfl
   rw [ee,bOk]
   unfold Z3
   rw [if_pos (by unfold wB; rw [List.length_map,List.length_zipIdx,List.length_map]; exact Nat.le_trans r2 (by decide))]
   have ec:Z9 (jF 0 1) ZP GB (wB (ws.map T.str)) (yG 2 [0,1] (frz [.vl (scr ns), .vl (.int k), .un, .ow (ws.map T.str),y4,y5]))= .ok cs:=s1
   rw [ec]
   rfl
  ·show (decide (1<=cs.length) && decide (cs.length<=4) && cs.all Wx && decide ((dd [] (cs.map Y9)).length=cs.length))=true
   have hd:(dd [] (cs.map Y9)).length=cs.length:=by
    rw [s3,hcl]
    have:=(qh ws []).mpr (fun k w h=>by simpa using r3 k w h)
    simpa using this
   rw [decide_eq_true (by omega),decide_eq_true (by omega),s2,decide_eq_true hd]; rfl
end G
namespace G
open PySem L2 PV
theorem qi (c:Int) (j:Int) (hc:yE c j):ZD (.int c) (.int j)= .ok (.int (c*j)):=by
 show (if yE c j then R.ok (T.int (c*j)) else .bad)=_
 rw [if_pos hc]
theorem GC (j:Int):ZD (.int 3) (.int j)= .ok (.int (3*j)):=qi _ _ (.inl ⟨by decide,by decide⟩)
theorem GD (j:Int):ZD (.int 50) (.int j)= .ok (.int (50*j)):=qi _ _ (.inl ⟨by decide,by decide⟩)
noncomputable abbrev z0l (c:List T->R T):En->R T:=zb 3 c (z0 (vE 1) (z0 (ze zx (ze zx (ze ZD (cE (.int 3)) (vE 2)) (cE (.int 40))) (ze ZD (cE (.int 50)) (vE 0))) (z0 (ze WC (vE 3) (cE (.int 1))) (zd))))
theorem qj (ns:List Int):∀ (d n:Nat),d<=n->1<=d->∀ k:Int,0<=k->∃ t,Zv n 0 [scr ns, .int k, .int (d:Int)]= .ok t/\isK d t=true
 | d+1,n+1,hn,_,k,h0=>by
  have e:Zv (n+1) 0 [scr ns, .int k, .int ((d+1:Nat):Int)]=zu (we zk ZA (Zv n 0) [.vl (scr ns), .vl (.int k), .vl (.int ((d+1:Nat):Int)), .un, .un, .un]):=rfl
  obtain ⟨p,e0,p0,p1⟩:=Z6 ns k 5 h0 (by omega)
  obtain ⟨l,el,hl⟩:=Ky ns (k+1) (by omega)
  have hset:([.vl (scr ns), .vl (.int k), .vl (.int ((d+1:Nat):Int)), .un, .un, .un]:En).set 3 (.vl (.int p))=[.vl (scr ns), .vl (.int k), .vl (.int ((d+1:Nat):Int)), .vl (.int p), .un, .un]:=rfl
  rw [e,we]
  simp only [zR,JD,J0,Kv,zZ,jg,jt,v0,v1,v2,Zb,bOk,e0,jL,hset,w2,w3,eqI,ltI,Zo,jf,We,Ut,uU,zo,el]
  have hd1:((((d+1:Nat):Int) == 1))=decide (d=0):=by
   by_cases h:d=0
   ·subst h; rfl
   ·rw [decide_eq_false h,beq_eq_false_iff_ne]; omega
  rw [hd1]
  by_cases hleaf:d=0\/p < 2
  ·refine ⟨l, ?_,hl d⟩
   rcases hleaf with h | h
   ·rw [decide_eq_true h]; rfl
   ·rw [decide_eq_true h]
    cases decide (d=0) <;> rfl
  ·have hd0:¬ d=0:=fun z=>hleaf (.inl z)
   have hp2:¬ p < 2:=fun z=>hleaf (.inr z)
   have hsub:((d+1:Nat):Int) - 1=(d:Int):=by omega
   rw [decide_eq_false hd0,decide_eq_false hp2]
   simp only [Bool.false_eq_true,if_false,jL,nxS,w3,v0,v1,v2,bOk,ltI,Zb]
   cases hp:decide (p < 4) with
   | true=>
    obtain ⟨q,e1,q0,q1⟩:=Z6 ns (k+1) 3 (by omega) (by omega)
    have hj:∀ j:Nat,∃ t,z0l (Zv n 0) [.vl (.int (0+(j:Int))), .vl (scr ns), .vl (.int k), .vl (.int ((d+1:Nat):Int))]= .ok t/\isK d t=true:=fun j=>by
     obtain ⟨t,r,s⟩:=qj ns d n (by omega) (by omega) (3*k+40+50*(0+(j:Int))) (by omega)
     refine ⟨t, ?_,s⟩
     simp only [z0l,jg,v0,v1,v2,v3,zo,Zb,bOk,GC,GD,Zo,Wy,hsub,r]
    obtain ⟨g,hg⟩:=Classical.skolem.mp hj
    have ei:jM (ze zx (cE (.int 1)) (zb 3 zk (z0 (vE 0) (z0 (ze zx (vE 1) (cE (.int 1))) (z0 (cE (.int 3)) (zd)))))) [.vl (scr ns), .vl (.int k), .vl (.int ((d+1:Nat):Int)), .vl (.int p), .un, .un]= .ok (rng 0 (1+q).toNat):=by
     unfold jM
     simp only [zo,jg,v0,v1,Zb,bOk,Zo,e1]
     rw [if_pos ⟨by omega,by omega⟩]
    have ec:Z3 (zD 0) ZP (z0l (Zv n 0)) 1 [0,1,2] [.vl (scr ns), .vl (.int k), .vl (.int ((d+1:Nat):Int)), .vl (.int p), .un, .un] (rng 0 (1+q).toNat)= .ok ((rng 0 (1+q).toNat).map fun t=>match t with | .int j=>g j.toNat | t=>t):=
     Jg (rng 0 (1+q).toNat) (by unfold rng; rw [List.length_map,List.length_range]; exact Nat.le_trans (show (1+q).toNat<=3 by omega) (by decide)) fun t ht=>by
      unfold rng at ht
      obtain ⟨j,_,rfl⟩:=List.mem_map.mp ht
      show z0l (Zv n 0) [.vl (.int (0+(j:Int))), .vl (scr ns), .vl (.int k), .vl (.int ((d+1:Nat):Int))]= .ok (g (0+(j:Int)).toNat)
      rw [(hg j).1,Int.zero_add,Int.toNat_natCast]
    generalize hcs:((rng 0 (1+q).toNat).map fun t=>match t with | .int j=>g j.toNat | t=>t)=cs at ec
    have hlen:cs.length=(1+q).toNat:=by rw [← hcs]; unfold rng; rw [List.length_map,List.length_map,List.length_range]
    have hall:∀ t∈cs,isK d t=true:=fun t ht=>by
     rw [← hcs] at ht
     obtain ⟨u,hu,rfl⟩:=List.mem_map.mp ht
     unfold rng at hu
     obtain ⟨j,_,rfl⟩:=List.mem_map.mp hu
     exact (hg _).2
    refine ⟨.tup [.str "row", .tup cs], ?_, ?_⟩
    ·have hs4:([.vl (scr ns), .vl (.int k), .vl (.int ((d+1:Nat):Int)), .vl (.int p), .un, .un]:En).set 4 (.vl (.lst cs))=[.vl (scr ns), .vl (.int k), .vl (.int ((d+1:Nat):Int)), .vl (.int p), .vl (.lst cs), .un]:=rfl
     simp only [if_true,Zn,ei,bOk,ec,jL,hs4,We,Ut,uU]
     rfl
    ·show (decide (1<=cs.length) && decide (cs.length<=3) && cs.all (isK d))=true
     rw [decide_eq_true (by omega),decide_eq_true (by omega),List.all_eq_true.mpr hall]; rfl
   | false=>
    obtain ⟨q,e1,q0,q1⟩:=Z6 ns (k+1) 3 (by omega) (by omega)
    obtain ⟨q2,e2,_,_⟩:=Z6 ns (k+2) 3 (by omega) (by omega)
    obtain ⟨t,r,s⟩:=qj ns d n (by omega) (by omega) (3*k+40) (by omega)
    refine ⟨.tup [.str "many",t, .int q, .int (if q+q2 < 3 then q+q2 else 3)], ?_, ?_⟩
    ·have hs5:([.vl (scr ns), .vl (.int k), .vl (.int ((d+1:Nat):Int)), .vl (.int p), .un, .un]:En).set 5 (.vl (.int q))=[.vl (scr ns), .vl (.int k), .vl (.int ((d+1:Nat):Int)), .vl (.int p), .un, .vl (.int q)]:=rfl
     simp only [Bool.false_eq_true,if_false,v0,v1,zo,Zb,bOk,Zo,e1,jL,hs5,We,Ut,uU,W4]
     refine tup4 rfl ?_ rfl ?_
     ·simp only [jg,v0,v1,v2,zo,Zb,bOk,GC,Zo,Wy,hsub,r]
     ·have v5:∀ {t:T} {a b c d e:Sl} {ρ:En},vE 5 (a :: b :: c :: d :: e :: .vl t :: ρ)= .ok t:=rfl
      simp only [jg,v0,v1,v5,zo,Zb,bOk,Zo,e2,k9]
    ·show (Q4 0 3 (.int q) (.int _) && isK d t)=true
     rw [s,Bool.and_true]
     show (decide (0<=q) && decide (q<=_) && decide (_<=(3:Int)))=true
     rw [decide_eq_true (by omega),decide_eq_true (by split <;> omega),decide_eq_true (by split <;> omega)]; rfl
end G
namespace G
open PySem L2 PV
mutual
noncomputable def dep:T->Nat
 | .tup xs=>wU xs+1
 | .lst xs=>wU xs+1
 | _=>1
noncomputable def wU:List T->Nat
 | []=>0
 | t :: ts=>max (dep t) (wU ts)
end
mutual
noncomputable def siz:T->Nat
 | .tup xs=>ww xs+1
 | .lst xs=>ww xs+1
 | _=>1
noncomputable def ww:List T->Nat
 | []=>0
 | t :: ts=>siz t+ww ts
end
theorem Q7 {w:Str} {t:T} (h:isS w t=true):t= .str w:=by
 cases t with
 | str s=>
  have:(s == w)=true:=h
  rw [eq_of_beq this]
 | _=>cases h
theorem Kz {lo hi:Int} {t:T} (h:inR lo hi t=true):∃ i,t= .int i:=by
 cases t with
 | int i=>exact ⟨i,rfl⟩
 | _=>cases h
theorem Q8 {lo hi:Int} {a b:T} (h:Q4 lo hi a b=true):∃ i j,a= .int i/\b= .int j:=by
 cases a with
 | int i=>
  cases b with
  | int j=>exact ⟨i,j,rfl,rfl⟩
  | _=>cases h
 | _=>cases h
structure Fit (D S:Nat) (t:T):Prop where
 so:sOk t
 dp:dep t<=D
 sz:siz t<=S
end G
namespace G
open PySem L2 PV
noncomputable def yI:T->List Nat->Option T
 | t,[]=>some t
 | .tup xs,i :: r=>match xs[i]? with | some x=>yI x r | none=>none
 | _,_ :: _=>none
noncomputable abbrev pth (p:List Nat):T:= .tup (p.map fun (i:Nat)=>T.int (i:Int))
noncomputable abbrev ka (c:List T->R T):En->RS:=YZ 1 (Zk (jS (zb 1 c (z0 (ze ixT (vE 0) (vE 2)) (zd)))) (zD 0) (ZP) (ze zx (zG (z0 (vE 1) (zd))) (vE 0)) 1 [2])
noncomputable def QP (xs:List T) (j:Nat):Nat:=match xs[j]? with | some x=>siz x | none=>0
theorem qk:∀ xs:List T,((List.range xs.length).map (QP xs)).sum=ww xs
 | []=>rfl
 | x :: xs=>by
  rw [List.length_cons,List.range_succ_eq_map,List.map_cons,List.sum_cons,List.map_map]
  show siz x+((List.range xs.length).map (QP xs)).sum=siz x+ww xs
  rw [qk xs]
theorem ya:∀ {xs:List T} {x:T},x∈xs->siz x<=ww xs
 | y :: ys,x,h=>by
  simp only [ww]
  rcases List.mem_cons.mp h with rfl | h
  ·omega
  ·have:=ya h; omega
theorem ql (t:T):1<=siz t:=by cases t <;> simp [siz]
theorem Q9:∀ {t u:T} (p:List Nat),yI t p=some u->p.length < siz t
 | t,_,[],_=>ql t
 | .tup xs,u,i :: r,h=>by
  have h:(match xs[i]? with | some x=>yI x r | none=>none)=some u:=h
  cases hx:xs[i]? with
  | none=>rw [hx] at h; cases h
  | some x=>
   rw [hx] at h
   have a:=Q9 r h
   have b:=ya (List.mem_of_getElem? hx)
   simp only [siz,List.length_cons]
   omega
 | .non,_,_ :: _,h=>by cases h
 | .bl _,_,_ :: _,h=>by cases h
 | .int _,_,_ :: _,h=>by cases h
 | .str _,_,_ :: _,h=>by cases h
 | .lst _,_,_ :: _,h=>by cases h
 | .fz _,_,_ :: _,h=>by cases h
theorem z1b {f:En->R T} {ρ:En} {x:T} (hf:f ρ= .ok x):zG (z0 f zd) ρ= .ok (.tup [x]):=by
 unfold zG z0 zd
 rw [hf]; rfl
theorem Qa {c:List T->R T} {xs:List T} (H:∀ x∈xs,∃ ps:List (List Nat),c [x]= .ok (.lst (ps.map pth))/\ps.length<=siz x/\∀ p∈ps,∃ u,yI x p=some u):
  ∀ (js:List Nat),(∀ j∈js,j < xs.length)->∀ (acc:List (List Nat)) (x2:Sl),(∀ p∈acc,∃ u,yI (.tup xs) p=some u)->acc.length+(js.map (QP xs)).sum<=bnd->
  ∃ (acc' :List (List Nat)) (y2:Sl),jW (zD 2) (ka c) (js.map fun (j:Nat)=>T.int (0+(j:Int))) [.vl (.tup xs), .ow (acc.map pth),x2]= .nx [.vl (.tup xs), .ow (acc'.map pth),y2]/\acc.length<=acc'.length/\acc'.length<=acc.length+(js.map (QP xs)).sum/\∀ p∈acc',∃ u,yI (.tup xs) p=some u
 | [],_,acc,x2,ha,hl=>⟨acc,x2,rfl,Nat.le_refl _,by simp,ha⟩
 | j :: js,hj,acc,x2,ha,hl=>by
  have hjl:j < xs.length:=hj j List.mem_cons_self
  have hx:xs[j]? =some xs[j]:=List.getElem?_eq_getElem hjl
  obtain ⟨ps,e1,e2,e3⟩:=H xs[j] (List.getElem_mem hjl)
  have hsz:QP xs j=siz xs[j]:=by unfold QP; rw [hx]
  rw [List.map_cons,List.sum_cons,hsz] at hl
  have e:jW (zD 2) (ka c) ((j :: js).map fun (j:Nat)=>T.int (0+(j:Int))) [.vl (.tup xs), .ow (acc.map pth),x2]=match ka c [.vl (.tup xs), .ow (acc.map pth), .vl (.int (0+(j:Int)))] with
   | .nx ρ2=>jW (zD 2) (ka c) (js.map fun (j:Nat)=>T.int (0+(j:Int))) ρ2
   | .ct ρ2=>jW (zD 2) (ka c) (js.map fun (j:Nat)=>T.int (0+(j:Int))) ρ2
   | .bk ρ2=> .nx ρ2
   | r=>r:=rfl
  have eb:ka c [.vl (.tup xs), .ow (acc.map pth), .vl (.int (0+(j:Int)))]= .nx [.vl (.tup xs), .ow ((acc++ps.map (j :: ·)).map pth), .vl (.int (0+(j:Int)))]:=by
   have ex:ixT (.tup xs) (.int (0+(j:Int)))= .ok xs[j]:=by
    rw [Int.zero_add]
    show atT xs j=_
    unfold atT
    rw [JH hx]
   have ei:jS (zb 1 c (z0 (ze ixT (vE 0) (vE 2)) (zd))) [.vl (.tup xs), .ow (acc.map pth), .vl (.int (0+(j:Int)))]= .ok (ps.map pth):=by
    simp only [jT,ZF,zo,v0,v2,bOk,ex,e1]
    rfl
   have ec:Z3 (zD 0) ZP (ze zx (zG (z0 (vE 1) (zd))) (vE 0)) 1 [2] [.vl (.tup xs), .ow (acc.map pth), .vl (.int (0+(j:Int)))] (ps.map pth)= .ok ((ps.map pth).map fun t=>match t with | .tup q=> .tup (.int (0+(j:Int)) :: q) | t=>t):=
    Jg _ (by rw [List.length_map]; omega) fun t ht=>by
     obtain ⟨p,hp,rfl⟩:=List.mem_map.mp ht
     show ze zx (zG (z0 (vE 1) (zd))) (vE 0) [.vl (pth p), .vl (.int (0+(j:Int)))]=_
     rw [zo,z1b v1,bOk,v0,bOk]
     obtain ⟨u,hu⟩:=e3 p hp
     have hpl:=Q9 p hu
     show (if [T.int (0+(j:Int))].length+(p.map fun (i:Nat)=>T.int (i:Int)).length<=bnd then R.ok (T.tup _) else .bad)=_
     rw [if_pos (by rw [List.length_map,List.length_singleton]; omega)]
     rfl
   show ((Zk _ _ _ _ _ _ _).s fun t=>match t with | .lst us=>if (acc.map pth).length+us.length<=bnd then RS.nx _ else .bad | _=> .bad)=_
   rw [Zn,ei,bOk,ec,bOk,jL]
   show (if _ then _ else _)=_
   rw [if_pos (by simp only [List.length_map]; omega)]
   rw [List.map_append,List.map_map,List.map_map]
   show RS.nx [.vl (.tup xs), .ow (acc.map pth++_), .vl (.int (0+(j:Int)))]=_
   have hm:List.map ((fun t=>match t with | .tup q=>T.tup (.int (0+(j:Int)) :: q) | t=>t) ∘ pth) ps=List.map (pth ∘ fun x=>j :: x) ps:=by
    refine List.map_congr_left fun p _=> ?_
    show T.tup (T.int (0+(j:Int)) :: _)=T.tup (T.int (j:Int) :: _)
    rw [Int.zero_add]
   rw [← hm]
  rw [e,eb]
  obtain ⟨acc',y2,r1,r2,r3,r4⟩:=Qa H js (fun i hi=>hj i (List.mem_cons_of_mem _ hi)) (acc++ps.map (j :: ·)) (.vl (.int (0+(j:Int)))) (fun p hp=>by
   rcases List.mem_append.mp hp with z | z
   ·exact ha p z
   ·obtain ⟨q,hq,rfl⟩:=List.mem_map.mp z
    obtain ⟨u,hu⟩:=e3 q hq
    refine ⟨u, ?_⟩
    show (match xs[j]? with | some x=>yI x q | none=>none)=some u
    rw [hx]; exact hu) (by rw [List.length_append,List.length_map]; omega)
  rw [List.length_append,List.length_map] at r2 r3
  refine ⟨acc',y2,r1,by omega, ?_,r4⟩
  rw [List.map_cons,List.sum_cons,hsz]
  omega
end G
namespace G
open PySem L2 PV
theorem Vu:∀ {xs:List T} {x:T},x∈xs->dep x<=wU xs
 | y :: ys,x,h=>by
  simp only [wU]
  rcases List.mem_cons.mp h with rfl | h
  ·omega
  ·have:=Vu h; omega
theorem KA {t:T} (h:∀ xs,t ≠ .tup xs):Jc "tuple" t= .ok (.bl false):=by
 cases t with
 | tup xs=>exact (h xs rfl).elim
 | _=>rfl
noncomputable def lim:Nat:=900000
theorem qm:lim+lim+lim+10<=bnd:=by decide
theorem KC:(lim:Int)+10 < 1000000:=by decide
noncomputable abbrev QQ (c:List T->R T) (t:T):Prop:=∃ ps:List (List Nat),c [t]= .ok (.lst (ps.map pth))/\0 < ps.length/\ps.length<=siz t/\∀ p∈ps,∃ u,yI t p=some u
theorem ux:∀ xs:List T,xs.length<=ww xs
 | []=>Nat.zero_le _
 | x :: xs=>by
  have:=ql x
  have:=ux xs
  simp only [ww,List.length_cons]
  omega
theorem GE {xs:List T} {a b:Sl} (h:(xs.length:Int) < 1000000):jM (ap1 jD (vB 0)) [.vl (.tup xs),a,b]= .ok (rng 0 xs.length):=by
 unfold jM
 rw [jH,w0,bOk,qf,bOk]
 dsimp only
 rw [if_pos ⟨by omega,by omega⟩,Int.toNat_natCast]
theorem Vv (t:T) (ps:List (List Nat)) (y:Sl):zu (zV (vE 1) [.vl t, .ow (ps.map pth),y])= .ok (.lst (ps.map pth)):=rfl
theorem GF (t:T):YY 1 (z0 (zG zd) zd) [.vl t, .un, .un]= .nx [.vl t, .ow [.tup []], .un]:=rfl
theorem kb {c:List T->R T} (t:T):zu (Z5 c (en0 3 [t]))=zu (match (tru (.bl (isT "tuple" t))).s fun k=>if k=true then JY (jM (ap1 jD (vB 0))) (zD 2) (ka c) [.vl t, .ow [.tup []], .un] else nxS [.vl t, .ow [.tup []], .un] with | .nx ρ=>zV (vE 1) ρ | r=>r):=by
 have e:zu (Z5 c (en0 3 [t]))=zu (Z5 c [.vl t, .un, .un]):=rfl
 rw [e,Z5,zR,GF]
 dsimp only
 rw [zR,J0,JC,jH,w0,bOk]
 rfl
theorem QR {c:List T->R T} (xs:List T) (hs:ww xs+1<=lim) (H:∀ x∈xs,QQ c x):QQ (fun ts=>zu (Z5 c (en0 3 ts))) (.tup xs):=by
 have hb:=qm
 have hm:=KC
 have H:∀ x∈xs,∃ ps:List (List Nat),c [x]= .ok (.lst (ps.map pth))/\ps.length<=siz x/\∀ p∈ps,∃ u,yI x p=some u:=fun x hx=>by
  obtain ⟨ps,r1,r2,r3,r4⟩:=H x hx
  exact ⟨ps,r1,r3,r4⟩
 have hlen:=ux xs
 obtain ⟨acc,y,r1,r2,r3,r4⟩:=Qa H (List.range xs.length) (fun j hj=>List.mem_range.mp hj) [[]] .un (fun p hp=>by
  rw [List.mem_singleton.mp hp]; exact ⟨_,rfl⟩) (by rw [qk,List.length_singleton]; omega)
 rw [qk,List.length_singleton] at r3
 rw [List.length_singleton] at r2
 refine ⟨acc, ?_,by omega,by simp only [siz]; omega,r4⟩
 have ef:JY (jM (ap1 jD (vB 0))) (zD 2) (ka c) [.vl (.tup xs), .ow [.tup []], .un]= .nx [.vl (.tup xs), .ow (acc.map pth),y]:=by
  unfold JY
  rw [GE (by omega),jL]
  exact r1
 dsimp only
 rw [kb,show isT "tuple" (.tup xs)=true from rfl,W6,jL,if_pos rfl,ef]
 exact Vv _ acc y
theorem QS {c:List T->R T} (t:T) (ht:∀ xs,t ≠ .tup xs):QQ (fun ts=>zu (Z5 c (en0 3 ts))) t:=by
 have e:isT "tuple" t=false:=by
  cases t with
  | tup xs=>exact (ht xs rfl).elim
  | _=>rfl
 refine ⟨[[]], ?_,by decide,ql t,fun p hp=> ?_⟩
 ·dsimp only
  rw [kb,e,W6,jL,if_neg Bool.false_ne_true]
  exact Vv t [[]] .un
 rw [List.mem_singleton.mp hp]; exact ⟨t,by cases t <;> rfl⟩
theorem qo {c:List T->R T} (t:T) (hs:siz t<=lim) (H:∀ xs,t= .tup xs->∀ x∈xs,QQ c x):QQ (fun ts=>zu (Z5 c (en0 3 ts))) t:=by
 by_cases ht:∃ xs,t= .tup xs
 ·obtain ⟨xs,rfl⟩:=ht
  simp only [siz] at hs
  exact QR xs hs (H xs rfl)
 ·exact QS t fun xs z=>ht ⟨xs,z⟩
theorem Vw (n:Nat):∀ (t:T),dep t<=n->siz t<=lim->QQ (jY n 0) t:=by
 induction n with
 | zero=>intro t h; cases t <;> simp [dep] at h
 | succ n ih=>
  intro t h hs
  exact qo t hs fun xs e x hx=>by
   subst e
   simp only [dep,siz] at h hs
   have a:=Vu hx
   have b:=ya hx
   exact ih x (by omega) (by omega)
end G
namespace G
open PySem L2 PV
theorem kd {xs:List T} {j:Nat} {x:T} (h:xs[j]? =some x):ixT (.tup xs) (.int (j:Int))= .ok x:=by
 show atT xs j=_
 unfold atT
 rw [JH h]
theorem uX {xs:List T} {i:Nat} {r:List Nat} {u:T} (h:yI (.tup xs) (i :: r)=some u):∃ x,xs[i]? =some x/\yI x r=some u:=by
 have h:(match xs[i]? with | some x=>yI x r | none=>none)=some u:=h
 cases hx:xs[i]? with
 | none=>rw [hx] at h; cases h
 | some x=>rw [hx] at h; exact ⟨x,rfl,h⟩
theorem yb {t:T} {i:Nat} {r:List Nat} {u:T} (h:yI t (i :: r)=some u):∃ xs,t= .tup xs:=by
 cases t with
 | tup xs=>exact ⟨xs,rfl⟩
 | _=>cases h
theorem Qb (t:T):yI t []=some t:=by cases t <;> rfl
theorem Vx {X:Sl}:∀ (p:List Nat) (t u:T) (y:Sl),yI t p=some u->∃ y',jW (zD 2) (Z0 0 (ze ixT (vE 0) (vE 2))) (p.map fun (i:Nat)=>T.int (i:Int)) [.vl t,X,y]= .nx [.vl u,X,y']
 | [],t,u,y,h=>by
  rw [Qb] at h
  cases h
  exact ⟨y,rfl⟩
 | i :: r,t,u,y,h=>by
  obtain ⟨xs,rfl⟩:=yb h
  obtain ⟨x,hx,hr⟩:=uX h
  obtain ⟨y',e⟩:=Vx (X:=X) r x u (.vl (.int (i:Int))) hr
  refine ⟨y', ?_⟩
  have e1:jW (zD 2) (Z0 0 (ze ixT (vE 0) (vE 2))) ((i :: r).map fun (i:Nat)=>T.int (i:Int)) [.vl (.tup xs),X,y]=match Z0 0 (ze ixT (vE 0) (vE 2)) [.vl (.tup xs),X, .vl (.int (i:Int))] with
   | .nx ρ2=>jW (zD 2) (Z0 0 (ze ixT (vE 0) (vE 2))) (r.map fun (j:Nat)=>T.int (j:Int)) ρ2
   | .ct ρ2=>jW (zD 2) (Z0 0 (ze ixT (vE 0) (vE 2))) (r.map fun (j:Nat)=>T.int (j:Int)) ρ2
   | .bk ρ2=> .nx ρ2
   | r=>r:=rfl
  rw [e1,JD,zo,v0,bOk,v2,bOk,kd hx,jL]
  exact e
theorem z1c {t u:T} {p:List Nat} (h:yI t p=some u):JZ [t,pth p]= .ok u:=by
 obtain ⟨y',e⟩:=Vx (X:= .vl (pth p)) p t u .un h
 have e0:JZ [t,pth p]=zu (Ww [.vl t, .vl (pth p), .un]):=rfl
 have ef:JY (jS (vE 1)) (zD 2) (Z0 0 (ze ixT (vE 0) (vE 2))) [.vl t, .vl (pth p), .un]= .nx [.vl u, .vl (pth p),y']:=e
 rw [e0,Ww,zR,ef]
 rfl
noncomputable def Yd:T->List Nat->T->T
 | _,[],v=>v
 | .tup xs,i :: r,v=>match xs[i]? with
  | some x=> .tup (xs.take i++[Yd x r v]++xs.drop (i+1))
  | none=> .tup xs
 | t,_ :: _,_=>t
theorem Vy {xs:List T} {i:Nat} (h:i < xs.length):slT (.tup xs) none (some (i:Int))= .ok (.tup (xs.take i)):=by
 show R.ok (T.tup (cut xs none (some (i:Int))))=_
 have:cut xs none (some (i:Int))=xs.take i:=by
  unfold cut
  rw [HT.sIx_none,HT.sIx_nat,Nat.min_eq_left (by omega),Nat.sub_zero,List.drop_zero]
 rw [this]
theorem Vz {xs:List T} {i:Nat} (h:i<=xs.length):slT (.tup xs) (some (i:Int)) none= .ok (.tup (xs.drop i)):=by
 show R.ok (T.tup (cut xs (some (i:Int)) none))=_
 have:cut xs (some (i:Int)) none=xs.drop i:=by
  unfold cut
  rw [HT.sIx_none,HT.sIx_nat,Nat.min_eq_left h]
  exact List.take_of_length_le (by rw [List.length_drop]; omega)
 rw [this]
theorem Xa {xs:List T} {i j:Nat} (hi:i<=xs.length) (hj:j<=xs.length):slT (.tup xs) (some (i:Int)) (some (j:Int))= .ok (.tup ((xs.drop i).take (j - i))):=by
 show R.ok (T.tup (cut xs (some (i:Int)) (some (j:Int))))=_
 have:cut xs (some (i:Int)) (some (j:Int))=(xs.drop i).take (j - i):=by
  unfold cut
  rw [HT.sIx_nat,HT.sIx_nat,Nat.min_eq_left hi,Nat.min_eq_left hj]
 rw [this]
theorem UH {xs ys:List T} (h:xs.length+ys.length<=bnd):zx (.tup xs) (.tup ys)= .ok (.tup (xs++ys)):=if_pos h
theorem ua {f:En->R T} {ρ:En} {i:Int} (h:f ρ= .ok (.int i)):ZJ f ρ= .ok (some i):=by
 unfold ZJ; rw [h]; rfl
theorem Xb {c:List T->R T} {xs:List T} {i:Nat} {r:List Nat} {v x w:T} (hx:xs[i]? =some x) (hl:xs.length<=lim) (hc:c [x,pth r,v]= .ok w):
  zu (J9 c (en0 4 [.tup xs,pth (i :: r),v]))= .ok (.tup (xs.take i++[w]++xs.drop (i+1))):=by
 have hi:i < xs.length:=(List.getElem?_eq_some_iff.mp hx).1
 have hb:=qm
 have e:zu (J9 c (en0 4 [.tup xs,pth (i :: r),v]))=zu (J9 c [.vl (.tup xs), .vl (pth (i :: r)), .vl v, .un]):=rfl
 have e1:zH eqC (vB 1) (zG zd) [.vl (.tup xs), .vl (pth (i :: r)), .vl v, .un]= .ok false:=rfl
 have e2:Z0 3 (ze ixT (vE 1) (cE (.int 0))) [.vl (.tup xs), .vl (pth (i :: r)), .vl v, .un]= .nx [.vl (.tup xs), .vl (pth (i :: r)), .vl v, .vl (.int (i:Int))]:=by
  rw [JD,zo,v1,bOk,Zb,bOk,show ixT (pth (i :: r)) (.int 0)= .ok (.int (i:Int)) from at0,jL]; rfl
 rw [e,J9,zR,J0,e1,jL,if_neg Bool.false_ne_true]
 unfold nxS
 dsimp only
 rw [zR,e2]
 dsimp only
 rw [jf,We,We,We,We,uU,W4]
 have ep:slE (vE 1) (ZJ (cE (.int 1))) noO [.vl (.tup xs), .vl (pth (i :: r)), .vl v, .vl (.int (i:Int))]= .ok (pth r):=by
  rw [y9,v1,bOk,k7,bOk,k8,bOk]
  exact cut1
 have ec:zb 3 c (z0 (ze ixT (vE 0) (vE 3)) (z0 (slE (vE 1) (ZJ (cE (.int 1))) (noO)) (z0 (vE 2) (zd)))) [.vl (.tup xs), .vl (pth (i :: r)), .vl v, .vl (.int (i:Int))]= .ok w:=by
  rw [jg,zo,v0,bOk,v3,bOk,kd hx,bOk,ep,bOk,v2,bOk,hc]
 have ea:zx (.int (i:Int)) (.int 1)= .ok (.int ((i+1:Nat):Int)):=by
  rw [Zo,Int.natCast_add]; rfl
 have eb:ze zx (vE 3) (cE (.int 1)) [.vl (.tup xs), .vl (pth (i :: r)), .vl v, .vl (.int (i:Int))]= .ok (.int ((i+1:Nat):Int)):=by
  rw [zo,v3,bOk,Zb,bOk,ea]
 rw [zo,zo,y9,v0,bOk,k8,bOk,ua v3,bOk,Vy hi,bOk,z1b ec,bOk,UH (by rw [List.length_take,List.length_singleton]; omega),bOk,y9,v0,bOk,ua eb,bOk,k8,bOk,Vz (by omega),bOk]
 exact UH (by rw [List.length_append,List.length_take,List.length_singleton,List.length_drop]; omega)
theorem GG (n:Nat):∀ (p:List Nat) (t u v:T),p.length < n->siz t<=lim->yI t p=some u->w4 n 0 [t,pth p,v]= .ok (Yd t p v):=by
 induction n with
 | zero=>intro p t u v h; omega
 | succ n ih=>
  intro p t u v h hs hg
  cases p with
  | nil=>
   have:Yd t [] v=v:=by cases t <;> rfl
   rw [this]
   rfl
  | cons i r=>
   obtain ⟨xs,rfl⟩:=yb hg
   obtain ⟨x,hx,hr⟩:=uX hg
   simp only [siz] at hs
   have hl:=ux xs
   have hz:=ya (List.mem_of_getElem? hx)
   rw [List.length_cons] at h
   have hc:=ih r x u v (by omega) (by omega) hr
   have:=Xb (c:=w4 n 0) (r:=r) hx (by omega) hc
   have e:Yd (.tup xs) (i :: r) v= .tup (xs.take i++[Yd x r v]++xs.drop (i+1)):=by
    show (match xs[i]? with | some x=>T.tup (xs.take i++[Yd x r v]++xs.drop (i+1)) | none=> .tup xs)=_
    rw [hx]
   rw [e]
   exact this
end G
namespace G
open PySem L2 PV
theorem wV:∀ (xs ys:List T),ww (xs++ys)=ww xs+ww ys
 | [],ys=>by simp [ww]
 | x :: xs,ys=>by simp only [List.cons_append,ww,wV xs ys]; omega
theorem wW:∀ (xs ys:List T),wU (xs++ys)=max (wU xs) (wU ys)
 | [],ys=>by simp [wU]
 | x :: xs,ys=>by simp only [List.cons_append,wU,wW xs ys]; omega
theorem wX:∀ {xs ys:List T},W5 (xs++ys)↔W5 xs/\W5 ys
 | [],ys=>by simp [W5]
 | x :: xs,ys=>by simp only [List.cons_append,W5,wX (xs:=xs) (ys:=ys),and_assoc]
theorem Xc {xs:List T} {i:Nat} {x:T} (h:xs[i]? =some x):xs=xs.take i++([x]++xs.drop (i+1)):=by
 obtain ⟨hi,rfl⟩:=List.getElem?_eq_some_iff.mp h
 rw [List.singleton_append,← List.drop_eq_getElem_cons,List.take_append_drop]
theorem uY {xs:List T} {i:Nat} {x:T} (h:xs[i]? =some x):(W5 xs->W5 (xs.take i)/\sOk x/\W5 (xs.drop (i+1)))/\wU (xs.take i)<=wU xs/\dep x<=wU xs/\wU (xs.drop (i+1))<=wU xs/\ww (xs.take i)+siz x+ww (xs.drop (i+1))=ww xs:=by
 have e:=Xc h
 have e1:W5 xs↔W5 (xs.take i)/\W5 [x]/\W5 (xs.drop (i+1)):=by
  conv=>lhs; rw [e,wX,wX]
 have e2:wU xs=max (wU (xs.take i)) (max (wU [x]) (wU (xs.drop (i+1)))):=by
  conv=>lhs; rw [e,wW,wW]
 have e3:ww xs=ww (xs.take i)+(ww [x]+ww (xs.drop (i+1))):=by
  conv=>lhs; rw [e,wV,wV]
 simp only [wU,ww,Nat.add_zero,Nat.max_zero] at e2 e3
 refine ⟨fun q=> ?_,by omega,by omega,by omega,by omega⟩
 have:=e1.mp q
 simp only [W5,and_true] at this
 exact this
theorem VA:∀ (p:List Nat) (t v:T),sOk t->sOk v->sOk (Yd t p v)/\dep (Yd t p v)<=dep t+dep v/\siz (Yd t p v)<=siz t+siz v
 | [],t,v,ht,hv=>by
  have:Yd t [] v=v:=by cases t <;> rfl
  rw [this]
  exact ⟨hv,by omega,by omega⟩
 | i :: r,t,v,ht,hv=>by
  by_cases hx:∃ xs x,t= .tup xs/\xs[i]? =some x
  ·obtain ⟨xs,x,rfl,hx⟩:=hx
   have e:Yd (.tup xs) (i :: r) v= .tup (xs.take i++[Yd x r v]++xs.drop (i+1)):=by
    show (match xs[i]? with | some x=>T.tup (xs.take i++[Yd x r v]++xs.drop (i+1)) | none=> .tup xs)=_
    rw [hx]
   obtain ⟨q1,q2,q3,q4,q5⟩:=uY hx
   obtain ⟨s1,s2,s3⟩:=q1 (uV ht)
   obtain ⟨i1,i2,i3⟩:=VA r x v s2 hv
   rw [e]
   refine ⟨?_, ?_, ?_⟩
   ·simp only [sOk,wX,W5,and_true]
    exact ⟨⟨s1,i1⟩,s3⟩
   ·simp only [dep,wW,wU,Nat.max_zero]
    omega
   ·simp only [siz,wV,ww,Nat.add_zero]
    omega
  ·have:Yd t (i :: r) v=t:=by
    cases t with
    | tup xs=>
     show (match xs[i]? with | some x=>T.tup (xs.take i++[Yd x r v]++xs.drop (i+1)) | none=> .tup xs)=_
     cases hi:xs[i]? with
     | none=>rfl
     | some x=>exact (hx ⟨xs,x,rfl,hi⟩).elim
    | _=>rfl
   rw [this]
   exact ⟨ht,by omega,by omega⟩
theorem VB:∀ (p:List Nat) (t u:T),yI t p=some u->(sOk t->sOk u)/\dep u+p.length<=dep t/\siz u<=siz t
 | [],t,u,h=>by
  rw [Qb] at h
  cases h
  exact ⟨id,Nat.le_refl _,Nat.le_refl _⟩
 | i :: r,t,u,h=>by
  obtain ⟨xs,rfl⟩:=yb h
  obtain ⟨x,hx,hr⟩:=uX h
  obtain ⟨q1,q2,q3,q4,q5⟩:=uY hx
  obtain ⟨i1,i2,i3⟩:=VB r x u hr
  refine ⟨fun q=>i1 (q1 (uV q)).2.1, ?_, ?_⟩
  ·simp only [dep,List.length_cons]; omega
  ·simp only [siz]; omega
theorem VC (t:T):1<=dep t:=by cases t <;> simp [dep]
theorem VD {xs:List T} {j:Nat} {x:T} (h:xs[j]? =some x):ixT (.lst xs) (.int (j:Int))= .ok x:=by
 show atT xs j=_
 unfold atT
 rw [JH h]
theorem ixl {xs:List T} {i:Int} (h0:0<=i) (h1:i < (xs.length:Int)):∃ x,ixT (.lst xs) (.int i)= .ok x/\x∈xs:=by
 have hj:i.toNat < xs.length:=by omega
 have e:i=((i.toNat:Nat):Int):=by omega
 have q:=VD (List.getElem?_eq_getElem hj)
 rw [← e] at q
 exact ⟨xs[i.toNat],q,List.getElem_mem hj⟩
noncomputable def wD (u:T):List T:=[.int 0, .int 1, .int (-21), .int 21, .int 3, .int 4, .bl true, .non, .str "a", .str "abcd", .str "A", .str "", .str "many", .str "row", .tup [], .tup [u], .lst [u], .tup [.str "whole", .int 1, .int 0]]
theorem QT {u:T} {D S:Nat} (h:Fit D S u):∀ v∈wD u,Fit (D+2) (2*S+4) v:=by
 obtain ⟨h1,h2,h3⟩:=h
 have hl:∀ n:Nat,n<=10->n<=bnd:=fun n h=>Nat.le_trans h (by decide)
 intro v hv
 unfold wD at hv
 simp only [List.mem_cons,List.not_mem_nil,or_false] at hv
 rcases hv with rfl | rfl | rfl | rfl | rfl | rfl | rfl | rfl | rfl | rfl | rfl | rfl | rfl | rfl | rfl | rfl | rfl | rfl
 all_goals first
  | exact ⟨by simp only [sOk,W5,and_true]; first | decide | exact h1,by simp only [dep,wU]; omega,by simp only [siz,ww]; omega⟩
  | exact ⟨by simp only [sOk,W5],by simp only [dep,wU]; omega,by simp only [siz,ww]; omega⟩
  | exact ⟨hl _ (by decide),by simp only [dep,wU]; omega,by simp only [siz,ww]; omega⟩
end G
namespace G
open PySem L2 PV
theorem yc {a b t d p e g h i:T} {j:Sl} {f:En->R T} {v w:T} (hj:um j=j) (hf:f [.vl a, .vl b, .vl t, .vl d, .vl p, .vl e, .vl g, .vl h,j]= .ok v) (hw:zw 40 [t,p,v]= .ok w):
  zu (zV (zb 3 (zw 40) (z0 (vE 2) (z0 (vE 4) (z0 f zd)))) [.vl a, .vl b, .vl t, .vl d, .vl p, .vl e, .vl g, .vl h,j])= .ok w:=by
 have ez:frz [.vl a, .vl b, .vl t, .vl d, .vl p, .vl e, .vl g, .vl h,j]=[.vl a, .vl b, .vl t, .vl d, .vl p, .vl e, .vl g, .vl h,j]:=by
  show [Sl.vl a, .vl b, .vl t, .vl d, .vl p, .vl e, .vl g, .vl h,um j]=_
  rw [hj]
 rw [jf,ez,W4,jg,v2,bOk,v4,bOk,hf,bOk]
 exact hw
theorem z1d (j:Int):ZD (.int 2) (.int j)= .ok (.int (2*j)):=qi _ _ (.inl ⟨by decide,by decide⟩)
noncomputable abbrev Xd:En->R T:=ze zx (slE (vE 5) (noO) (ZJ (vE 8))) (slE (vE 5) (ZJ (ze zx (vE 8) (cE (.int 1)))) (noO))
noncomputable abbrev Xe:En->R T:=ze zx (ze zx (slE (vE 5) (noO) (ZJ (vE 8))) (slE (vE 5) (ZJ (vE 8)) (ZJ (ze zx (vE 8) (cE (.int 1)))))) (slE (vE 5) (ZJ (vE 8)) (noO))
noncomputable abbrev en9 (a:T) (k:Int) (t d p e:T) (g:List T) (w:Int) (j:Sl):En:=[.vl a, .vl (.int k), .vl t, .vl d, .vl p, .vl e, .vl (.lst g), .vl (.int w),j]
theorem Ye {xs:List T} {i:Nat} {x:T} (h:xs[i]? =some x):xs.drop i=x :: xs.drop (i+1):=by
 obtain ⟨hi,rfl⟩:=List.getElem?_eq_some_iff.mp h
 exact List.drop_eq_getElem_cons hi
theorem KD {a t d p:T} {g xs:List T} {k w:Int} {i:Nat} {x:T} (hx:xs[i]? =some x) (hl:xs.length<=lim):
  Xd (en9 a k t d p (.tup xs) g w (.vl (.int (i:Int))))= .ok (.tup (xs.take i++xs.drop (i+1)))/\
  Xe (en9 a k t d p (.tup xs) g w (.vl (.int (i:Int))))= .ok (.tup (xs.take i++[x]++(x :: xs.drop (i+1)))):=by
 have hi:i < xs.length:=(List.getElem?_eq_some_iff.mp hx).1
 have hb:=qm
 have e5:vE 5 (en9 a k t d p (.tup xs) g w (.vl (.int (i:Int))))= .ok (.tup xs):=rfl
 have e8:vE 8 (en9 a k t d p (.tup xs) g w (.vl (.int (i:Int))))= .ok (.int (i:Int)):=rfl
 have ea:zx (.int (i:Int)) (.int 1)= .ok (.int ((i+1:Nat):Int)):=by
  rw [Zo,Int.natCast_add]; rfl
 have eb:ze zx (vE 8) (cE (.int 1)) (en9 a k t d p (.tup xs) g w (.vl (.int (i:Int))))= .ok (.int ((i+1:Nat):Int)):=by
  rw [zo,e8,bOk,Zb,bOk,ea]
 have em:(xs.drop i).take (i+1 - i)=[x]:=by
  rw [Ye hx,show i+1 - i=1 from by omega]; rfl
 constructor
 ·unfold Xd
  rw [zo,y9,e5,bOk,k8,bOk,ua e8,bOk,Vy hi,bOk,y9,e5,bOk,ua eb,bOk,k8,bOk,Vz (by omega),bOk]
  exact UH (by rw [List.length_take,List.length_drop]; omega)
 ·unfold Xe
  rw [zo,zo,y9,e5,bOk,k8,bOk,ua e8,bOk,Vy hi,bOk,y9,e5,bOk,ua e8,bOk,ua eb,bOk,Xa (by omega) (by omega),bOk,em,UH (by rw [List.length_take,List.length_singleton]; omega),bOk,y9,e5,bOk,ua e8,bOk,k8,bOk,Vz (by omega),bOk,← Ye hx]
  exact UH (by rw [List.length_append,List.length_take,List.length_singleton,List.length_drop]; omega)
theorem KG {D S:Nat} {xs:List T} {i:Nat} {x:T} (hx:xs[i]? =some x) (h:Fit D S (.tup xs)):Fit (D+2) (2*S+4) (.tup (xs.take i++xs.drop (i+1)))/\Fit (D+2) (2*S+4) (.tup (xs.take i++[x]++(x :: xs.drop (i+1)))):=by
 obtain ⟨h1,h2,h3⟩:=h
 obtain ⟨q1,q2,q3,q4,q5⟩:=uY hx
 obtain ⟨s1,s2,s3⟩:=q1 (uV h1)
 simp only [dep,siz] at h2 h3
 refine ⟨⟨?_, ?_, ?_⟩,⟨?_, ?_, ?_⟩⟩
 ·simp only [sOk,wX]; exact ⟨s1,s3⟩
 ·simp only [dep,wW]; omega
 ·simp only [siz,wV]; omega
 ·simp only [sOk,wX,W5,and_true]; exact ⟨⟨s1,s2⟩,s2,s3⟩
 ·simp only [dep,wW,wU]; omega
 ·simp only [siz,wV,ww]; omega
noncomputable abbrev Uu (cp:List T->R T) (cput:List T->R T):En->RS:=
  (zE (ifS (qS (jk (ap1 (Jc "tuple") (vB 5))) (zH neC (vB 5) (zG (zd)))) (zE (Z0 8 (zb 3 cp (z0 (vE 0) (z0 (ze zx (vE 1) (cE (.int 2))) (z0 (ap1 jD (vB 5)) (zd))))))
  (zV (zb 3 cput (z0 (vE 2) (z0 (vE 4) (z0 (ze ixT (J6 (z0 Xd (z0 Xe (zd)))) (ze wx (vE 7) (cE (.int 2)))) (zd))))))) (nxS))
  (zE (ifS (jk (ap1 (Jc "int") (vB 5))) (zV (zb 3 cput (z0 (vE 2) (z0 (vE 4) (z0 (ze WC (ze zx (vE 5) (cE (.int 1))) (ze ZD (cE (.int 2)) (ze wx (vE 7) (cE (.int 2))))) (zd)))))) (nxS))
  (zV (zb 3 cput (z0 (vE 2) (z0 (vE 4) (z0 (zG (z0 (cE (.str "row")) (z0 (zG (z0 (vE 5) (z0 (vE 5) (zd)))) (zd)))) (zd))))))))
theorem lst2 {f g:En->R T} {ρ:En} {x y:T} (hf:f ρ= .ok x) (hg:g ρ= .ok y):J6 (z0 f (z0 g zd)) ρ= .ok (.lst [x,y]):=by
 unfold J6 z0 zd
 rw [hf,hg]; rfl
theorem Xf (ns:List Int) {t d p:T} {g xs:List T} {k w:Int} (h0:0<=k) {D S:Nat} (hl:S<=lim) (hF:Fit D S (.tup xs)) (hne:xs ≠ []) (H:∀ v,Fit (D+2) (2*S+4) v->∃ r,zw 40 [t,p,v]= .ok r):
  ∃ v r,Fit (D+2) (2*S+4) v/\zw 40 [t,p,v]= .ok r/\zu (Uu zk (zw 40) (en9 (scr ns) k t d p (.tup xs) g w .un))= .ok r:=by
 have hxl:=ux xs
 have hz:=hF.sz
 simp only [siz] at hz
 have hpos:0 < xs.length:=List.length_pos_iff.mpr hne
 obtain ⟨q,hq,q0,q1⟩:=Z6 ns (k+2) (xs.length:Int) (by omega) (by omega)
 have hqi:q=((q.toNat:Nat):Int):=by omega
 have hqx:xs[q.toNat]? =some (xs[q.toNat]'(by omega)):=List.getElem?_eq_getElem (by omega)
 generalize xs[q.toNat]'(by omega)=x at hqx
 generalize q.toNat=i at hqi hqx
 subst hqi
 obtain ⟨c1,c2⟩:=KD (a:=scr ns) (t:=t) (d:=d) (p:=p) (g:=g) (k:=k) (w:=w) hqx (by omega)
 obtain ⟨f1,f2⟩:=KG hqx hF
 have ec:qS (jk (ap1 (Jc "tuple") (vB 5))) (zH neC (vB 5) (zG (zd))) (en9 (scr ns) k t d p (.tup xs) g w .un)= .ok true:=by
  cases xs with
  | nil=>exact (hne rfl).elim
  | cons _ _=>rfl
 have es:Z0 8 (zb 3 zk (z0 (vE 0) (z0 (ze zx (vE 1) (cE (.int 2))) (z0 (ap1 jD (vB 5)) (zd))))) (en9 (scr ns) k t d p (.tup xs) g w .un)= .nx (en9 (scr ns) k t d p (.tup xs) g w (.vl (.int (i:Int)))):=by
  rw [JD,jg,v0,bOk,zo,v1,bOk,Zb,bOk,Zo,bOk,jH,show vB 5 (en9 (scr ns) k t d p (.tup xs) g w .un)= .ok (.tup xs) from rfl,bOk,qf,bOk,hq,jL]
  rfl
 have em:ze wx (vE 7) (cE (.int 2)) (en9 (scr ns) k t d p (.tup xs) g w (.vl (.int (i:Int))))= .ok (.int (w % 2)):=rfl
 have hm:w % 2=0\/w % 2=1:=by omega
 have go:∀ v,ze ixT (J6 (z0 Xd (z0 Xe (zd)))) (ze wx (vE 7) (cE (.int 2))) (en9 (scr ns) k t d p (.tup xs) g w (.vl (.int (i:Int))))= .ok v->Fit (D+2) (2*S+4) v->∃ v r,Fit (D+2) (2*S+4) v/\zw 40 [t,p,v]= .ok r/\zu (Uu zk (zw 40) (en9 (scr ns) k t d p (.tup xs) g w .un))= .ok r:=fun v hv fv=>by
  obtain ⟨r,hr⟩:=H v fv
  refine ⟨v,r,fv,hr, ?_⟩
  have e1:=yc (i:= .non) (j:= .vl (.int (i:Int))) rfl hv hr
  unfold Uu
  rw [zR,J0,ec,jL,if_pos rfl,zR,es]
  dsimp only
  rw [jf] at e1 ⊢
  rw [W4] at e1
  rw [e1]
  rfl
 rcases hm with hm | hm
 ·exact go _ (by rw [zo,lst2 c1 c2,bOk,em,bOk,hm]; rfl) f1
 ·exact go _ (by rw [zo,lst2 c1 c2,bOk,em,bOk,hm]; rfl) f2
end G
namespace G
open PySem L2 PV
noncomputable abbrev intE:En->R T:=ze WC (ze zx (vE 5) (cE (.int 1))) (ze ZD (cE (.int 2)) (ze wx (vE 7) (cE (.int 2))))
noncomputable abbrev rowE:En->R T:=zG (z0 (cE (.str "row")) (z0 (zG (z0 (vE 5) (z0 (vE 5) (zd)))) (zd)))
theorem VE {D S:Nat} (i:Int):Fit (D+2) (2*S+4) (.int i):=⟨by simp only [sOk],by simp only [dep]; omega,by simp only [siz]; omega⟩
theorem VF {D S:Nat} {u:T} (h:Fit D S u):Fit (D+2) (2*S+4) (.tup [.str "row", .tup [u,u]]):=by
 obtain ⟨h1,h2,h3⟩:=h
 have hd:=VC u
 refine ⟨?_, ?_, ?_⟩
 ·simp only [sOk,W5,and_true]; exact ⟨by decide,h1,h1⟩
 ·simp only [dep,wU]; omega
 ·simp only [siz,ww]; omega
theorem Xg {cp:List T->R T} {a t d p u:T} {g:List T} {k w:Int} {r:T} (ht:qS (jk (ap1 (Jc "tuple") (vB 5))) (zH neC (vB 5) (zG (zd))) (en9 a k t d p u g w .un)= .ok false) (hi:isT "int" u=false)
  (hr:zw 40 [t,p, .tup [.str "row", .tup [u,u]]]= .ok r):zu (Uu cp (zw 40) (en9 a k t d p u g w .un))= .ok r:=by
 have e1:=yc (f:=rowE) (a:=a) (b:= .int k) (t:=t) (d:=d) (p:=p) (e:=u) (g:= .lst g) (h:= .int w) (i:= .non) (j:= .un) rfl (vf Zb (vf rfl rfl)) hr
 have ei:jk (ap1 (Jc "int") (vB 5)) (en9 a k t d p u g w .un)= .ok false:=by
  show tru (.bl (isT "int" u))=_
  rw [hi]; rfl
 unfold Uu
 rw [zR,J0,ht,jL,if_neg Bool.false_ne_true]
 unfold nxS
 dsimp only
 rw [zR,J0,ei,jL,if_neg Bool.false_ne_true]
 exact e1
theorem Xh {cp:List T->R T} {a t d p u:T} {g:List T} {k w i:Int} {r:T} (ht:isT "tuple" u=false) (hi:isT "int" u=true) (ha:zx u (.int 1)= .ok (.int i))
  (hr:zw 40 [t,p, .int (i - 2*(w % 2))]= .ok r):zu (Uu cp (zw 40) (en9 a k t d p u g w .un))= .ok r:=by
 have e0:intE (en9 a k t d p u g w .un)= .ok (.int (i - 2*(w % 2))):=by
  show ((zx u (.int 1)).bind fun x=>(ZD (.int 2) (.int (w % 2))).bind fun y=>WC x y)=_
  rw [ha,z1d]
  rfl
 have e1:=yc (f:=intE) (a:=a) (b:= .int k) (t:=t) (d:=d) (p:=p) (e:=u) (g:= .lst g) (h:= .int w) (i:= .non) (j:= .un) rfl e0 hr
 have et:qS (jk (ap1 (Jc "tuple") (vB 5))) (zH neC (vB 5) (zG (zd))) (en9 a k t d p u g w .un)= .ok false:=by
  show (tru (.bl (isT "tuple" u))).bind (fun x=>if x=true then _ else R.ok false)=_
  rw [ht]; rfl
 have ei:jk (ap1 (Jc "int") (vB 5)) (en9 a k t d p u g w .un)= .ok true:=by
  show tru (.bl (isT "int" u))=_
  rw [hi]; rfl
 unfold Uu
 rw [zR,J0,et,jL,if_neg Bool.false_ne_true]
 unfold nxS
 dsimp only
 rw [zR,J0,ei,jL,if_pos rfl]
 rw [jf] at e1 ⊢
 rw [W4] at e1
 rw [e1]
 rfl
theorem KH (ns:List Int) {t d p u:T} {g:List T} {k w:Int} (h0:0<=k) {D S:Nat} (hl:S<=lim) (hF:Fit D S u) (H:∀ v,Fit (D+2) (2*S+4) v->∃ r,zw 40 [t,p,v]= .ok r):
  ∃ v r,Fit (D+2) (2*S+4) v/\zw 40 [t,p,v]= .ok r/\zu (Uu zk (zw 40) (en9 (scr ns) k t d p u g w .un))= .ok r:=by
 have row:qS (jk (ap1 (Jc "tuple") (vB 5))) (zH neC (vB 5) (zG (zd))) (en9 (scr ns) k t d p u g w .un)= .ok false->isT "int" u=false->∃ v r,Fit (D+2) (2*S+4) v/\zw 40 [t,p,v]= .ok r/\zu (Uu zk (zw 40) (en9 (scr ns) k t d p u g w .un))= .ok r:=fun e1 e2=>by
  obtain ⟨r,hr⟩:=H _ (VF hF)
  exact ⟨_,r,VF hF,hr,Xg e1 e2 hr⟩
 have num:∀ i,isT "tuple" u=false->isT "int" u=true->zx u (.int 1)= .ok (.int i)->∃ v r,Fit (D+2) (2*S+4) v/\zw 40 [t,p,v]= .ok r/\zu (Uu zk (zw 40) (en9 (scr ns) k t d p u g w .un))= .ok r:=fun i e1 e2 e3=>by
  obtain ⟨r,hr⟩:=H _ (VE (i - 2*(w % 2)))
  exact ⟨_,r,VE _,hr,Xh e1 e2 e3 hr⟩
 cases u with
 | tup xs=>
  by_cases hx:xs=[]
  ·subst hx; exact row rfl rfl
  ·exact Xf ns h0 hl hF hx H
 | int i=>exact num (i+1) rfl rfl rfl
 | bl b=>exact num (b2 b+1) rfl rfl rfl
 | non=>exact row rfl rfl
 | str x=>exact row rfl rfl
 | lst x=>exact row rfl rfl
 | fz x=>exact row rfl rfl
theorem VG (ns:List Int) (k:Int) (h0:0<=k) {D S:Nat} (hD:D<=40) (hS:S<=lim) {t:T} (hF:Fit D S t):
  ∃ r,zP [scr ns, .int k,t]= .ok r/\Fit (2*D+2) (3*S+4) r:=by
 obtain ⟨ht,hd,hs⟩:=hF
 have hs' :=Nat.le_trans hs hS
 obtain ⟨ps,hp,hp0,hpl,hpv⟩:=Vw 40 t (Nat.le_trans hd hD) hs'
 have hp:jd 40 [t]= .ok (.lst (ps.map pth)):=hp
 obtain ⟨q,hq,q0,q1⟩:=Z6 ns k (ps.length:Int) h0 (by omega)
 obtain ⟨x,ex,hx⟩:=ixl (xs:=ps.map pth) q0 (by rw [List.length_map]; exact q1)
 obtain ⟨p,hpm,rfl⟩:=List.mem_map.mp hx
 obtain ⟨u,hu⟩:=hpv p hpm
 obtain ⟨g1,g2,g3⟩:=VB p t u hu
 have hdu:=VC u
 have hUF:Fit D S u:=⟨g1 ht,by omega,by omega⟩
 have hput:∀ v,zw 40 [t,pth p,v]= .ok (Yd t p v):=fun v=>GG 40 p t u v (by omega) hs' hu
 have fin:∀ v,Fit (D+2) (2*S+4) v->Fit (2*D+2) (3*S+4) (Yd t p v):=fun v hv=>by
  obtain ⟨a,b,c⟩:=VA p t v ht hv.so
  have:=hv.dp
  have:=hv.sz
  exact ⟨a,by omega,by omega⟩
 obtain ⟨w,hw,w0',w1⟩:=Z6 ns (k+1) 23 (by omega) (by omega)
 have e:zP [scr ns, .int k,t]=zu (Zx zk (jd 40) JZ (zw 40) [.vl (scr ns), .vl (.int k), .vl t, .un, .un, .un, .un, .un, .un]):=rfl
 have e1:Z0 3 (zb 1 (jd 40) (z0 (vE 2) (zd))) [.vl (scr ns), .vl (.int k), .vl t, .un, .un, .un, .un, .un, .un]= .nx [.vl (scr ns), .vl (.int k), .vl t, .vl (.lst (ps.map pth)), .un, .un, .un, .un, .un]:=by
  rw [JD,ZF,v2,bOk,hp,jL]; rfl
 have e2:Z0 4 (ze ixT (vE 3) (zb 3 zk (z0 (vE 0) (z0 (vE 1) (z0 (ap1 jD (vB 3)) (zd)))))) [.vl (scr ns), .vl (.int k), .vl t, .vl (.lst (ps.map pth)), .un, .un, .un, .un, .un]= .nx [.vl (scr ns), .vl (.int k), .vl t, .vl (.lst (ps.map pth)), .vl (pth p), .un, .un, .un, .un]:=by
  rw [JD,zo,v3,bOk,jg,v0,bOk,v1,bOk,jH,w3,bOk,Gu,bOk,List.length_map,hq,bOk,ex,jL]; rfl
 have e3:Z0 5 (zb 2 JZ (z0 (vE 2) (z0 (vE 4) (zd)))) [.vl (scr ns), .vl (.int k), .vl t, .vl (.lst (ps.map pth)), .vl (pth p), .un, .un, .un, .un]= .nx [.vl (scr ns), .vl (.int k), .vl t, .vl (.lst (ps.map pth)), .vl (pth p), .vl u, .un, .un, .un]:=by
  rw [JD,jt,v2,bOk,v4,bOk,z1c hu,jL]; rfl
 rw [e,Zx,zR,e1]
 dsimp only
 rw [zR,e2]
 dsimp only
 rw [zR,e3]
 dsimp only
 rw [zR]
 have e4:Z0 6 (J6 (z0 (cE (.int 0)) (z0 (cE (.int 1)) (z0 (yV (cE (.int 21))) (z0 (cE (.int 21)) (z0 (cE (.int 3)) (z0 (cE (.int 4)) (z0 (cE (.bl true)) (z0 (cE .non) (z0 (cE (.str "a")) (z0 (cE (.str "abcd")) (z0 (cE (.str "A")) (z0 (cE (.str "")) (z0 (cE (.str "many")) (z0 (cE (.str "row")) (z0 (zG (zd)) (z0 (zG (z0 (vE 5) (zd))) (z0 (J6 (z0 (vE 5) (zd))) (z0 (zG (z0 (cE (.str "whole")) (z0 (cE (.int 1)) (z0 (cE (.int 0)) (zd))))) (zd)))))))))))))))))))) [.vl (scr ns), .vl (.int k), .vl t, .vl (.lst (ps.map pth)), .vl (pth p), .vl u, .un, .un, .un]= .nx [.vl (scr ns), .vl (.int k), .vl t, .vl (.lst (ps.map pth)), .vl (pth p), .vl u, .vl (.lst (wD u)), .un, .un]:=rfl
 rw [e4]
 dsimp only
 have e5:Z0 7 (zb 3 zk (z0 (vE 0) (z0 (ze zx (vE 1) (cE (.int 1))) (z0 (ze zx (ap1 jD (vB 6)) (cE (.int 5))) (zd))))) [.vl (scr ns), .vl (.int k), .vl t, .vl (.lst (ps.map pth)), .vl (pth p), .vl u, .vl (.lst (wD u)), .un, .un]= .nx (en9 (scr ns) k t (.lst (ps.map pth)) (pth p) u (wD u) w .un):=by
  rw [JD,jg,v0,bOk,zo,v1,bOk,Zb,bOk,Zo,bOk]
  rw [show ze zx (ap1 jD (vB 6)) (cE (.int 5)) [.vl (scr ns), .vl (.int k), .vl t, .vl (.lst (ps.map pth)), .vl (pth p), .vl u, .vl (.lst (wD u)), .un, .un]= .ok (.int 23) from rfl,bOk,hw,jL]
  rfl
 rw [zR,e5]
 dsimp only
 rw [zR,J0]
 have e6:zH ltC (vB 7) (ap1 jD (vB 6)) (en9 (scr ns) k t (.lst (ps.map pth)) (pth p) u (wD u) w .un)= .ok (decide (w < 18)):=rfl
 rw [e6,jL]
 by_cases h18:w < 18
 ·rw [decide_eq_true h18,if_pos rfl]
  obtain ⟨v,ev,hv⟩:=ixl (xs:=wD u) w0' (by show w < 18; exact h18)
  have hfv:=QT hUF v hv
  have er:=yc (f:=ze ixT (vE 6) (vE 7)) (a:=scr ns) (b:= .int k) (t:=t) (d:= .lst (ps.map pth)) (p:=pth p) (e:=u) (g:= .lst (wD u)) (h:= .int w) (i:= .non) (j:= .un) rfl (show ixT (.lst (wD u)) (.int w)= .ok v from ev) (hput v)
  refine ⟨_, ?_,fin v hfv⟩
  rw [jf] at er ⊢
  rw [W4] at er
  rw [er]
  rfl
 ·rw [decide_eq_false h18,if_neg Bool.false_ne_true]
  obtain ⟨v,r,hfv,hr,et⟩:=KH ns (t:=t) (d:= .lst (ps.map pth)) (p:=pth p) (u:=u) (g:=wD u) (k:=k) (w:=w) h0 hS hUF fun v _=>⟨_,hput v⟩
  rw [hput v] at hr
  cases hr
  exact ⟨_,et,fin v hfv⟩
end G
namespace G
open PySem L2 PV
theorem UI (ρ:En):nxS ρ= .nx ρ:=rfl
inductive Kd where
 | whole (lo hi:Int)
 | pick (cs:List (Str×Int))
 | row (ks:List Kd)
 | many (k:Kd) (lo hi:Nat)
noncomputable def vg (c:Str×Int):T:= .tup [.str c.1, .int c.2]
mutual
noncomputable def Kd.t:Kd->T
 | .whole lo hi=> .tup [.str "whole", .int lo, .int hi]
 | .pick cs=> .tup [.str "pick", .tup (cs.map vg)]
 | .row ks=> .tup [.str "row", .tup (Kd.ts ks)]
 | .many k lo hi=> .tup [.str "many",k.t, .int (lo:Int), .int (hi:Int)]
noncomputable def Kd.ts:List Kd->List T
 | []=>[]
 | k :: ks=>k.t :: Kd.ts ks
end
theorem Kd.ts_map:∀ ks:List Kd,Kd.ts ks=ks.map Kd.t
 | []=>by simp only [Kd.ts,List.map_nil]
 | k :: ks=>by simp only [Kd.ts,List.map_cons,Kd.ts_map ks]
noncomputable def Kd.Ok:Nat->Kd->Prop
 | 0,_=>False
 | _+1, .whole lo hi=> -20<=lo/\lo<=hi/\hi<=20
 | _+1, .pick cs=>1<=cs.length/\cs.length<=4/\(∀ c∈cs,JB (.str c.1)=true/\1<=c.2/\c.2<=20)/\Dst (cs.map (·.1))
 | d+1, .row ks=>1<=ks.length/\ks.length<=3/\∀ k∈ks,Kd.Ok d k
 | d+1, .many k lo hi=>lo<=hi/\hi<=3/\Kd.Ok d k
theorem VH {c:T} (h:Wx c=true):∃ p:Str×Int,c=vg p/\JB (.str p.1)=true/\1<=p.2/\p.2<=20:=by
 unfold Wx at h
 split at h
 ·rename_i w i
  rw [Bool.and_eq_true,Bool.and_eq_true,decide_eq_true_eq,decide_eq_true_eq] at h
  cases w with
  | str x=>exact ⟨(x,i),rfl,h.1.1,h.1.2,h.2⟩
  | _=>cases h.1.1
 ·cases h
theorem qp {α:Type} {P:T->Prop} {Q:α->Prop} {f:α->T} (H:∀ t,P t->∃ a,t=f a/\Q a):∀ (ts:List T),(∀ t∈ts,P t)->∃ as:List α,ts=as.map f/\∀ a∈as,Q a
 | [],_=>⟨[],rfl,fun _ h=>nomatch h⟩
 | t :: ts,h=>by
  obtain ⟨a,rfl,ha⟩:=H t (h t List.mem_cons_self)
  obtain ⟨as,rfl,has⟩:=qp H ts fun u hu=>h u (List.mem_cons_of_mem _ hu)
  exact ⟨a :: as,rfl,fun b hb=>by
   rcases List.mem_cons.mp hb with rfl | hb
   ·exact ha
   ·exact has b hb⟩
theorem qq:∀ (d:Nat) (t:T),isK d t=true->∃ k:Kd,t=k.t/\k.Ok d
 | 0,_,h=>by cases h
 | d+1,t,h=>by
  have h:Kw (isK d) t=true:=h
  unfold Kw at h
  split at h
  ·rename_i hd r
   split at h
   ·rename_i e
    rw [Q7 e]
    unfold k6 at h
    split at h
    ·obtain ⟨i,j,rfl,rfl⟩:=Q8 h
     have h:(decide (-20<=i) && decide (i<=j) && decide (j<=20))=true:=h
     rw [Bool.and_eq_true,Bool.and_eq_true,decide_eq_true_eq,decide_eq_true_eq,decide_eq_true_eq] at h
     exact ⟨.whole i j,by simp only [Kd.t],h.1.1,h.1.2,h.2⟩
    ·cases h
   ·split at h
    ·rename_i e
     rw [Q7 e]
     unfold Gv at h
     split at h
     ·rename_i c
      unfold XZ at h
      split at h
      ·rename_i cs
       rw [Bool.and_eq_true,Bool.and_eq_true,Bool.and_eq_true,decide_eq_true_eq,decide_eq_true_eq,decide_eq_true_eq] at h
       obtain ⟨⟨⟨h1,h2⟩,h3⟩,h4⟩:=h
       obtain ⟨as,rfl,has⟩:=qp (fun t ht=>VH ht) cs fun c hc=>List.all_eq_true.mp h3 c hc
       rw [List.length_map] at h1 h2
       refine ⟨.pick as,by simp only [Kd.t],h1,h2,has, ?_⟩
       have e1:(as.map vg).map Y9=as.map (·.1):=by rw [List.map_map]; rfl
       rw [e1] at h4
       have:=(qh (as.map (·.1)) []).mp (by rw [h4,List.length_map,List.length_map]; simp)
       exact fun k w hw hm=>this k w hw (by simpa using hm)
      ·cases h
     ·cases h
    ·split at h
     ·rename_i e
      rw [Q7 e]
      unfold kRow at h
      split at h
      ·rename_i c
       unfold Vq at h
       split at h
       ·rename_i cs
        rw [Bool.and_eq_true,Bool.and_eq_true,decide_eq_true_eq,decide_eq_true_eq] at h
        obtain ⟨ks,rfl,hks⟩:=qp (fun t ht=>qq d t ht) cs fun c hc=>List.all_eq_true.mp h.2 c hc
        rw [List.length_map] at h
        exact ⟨.row ks,by simp only [Kd.t,Kd.ts_map],h.1.1,h.1.2,hks⟩
       ·cases h
      ·cases h
     ·split at h
      ·rename_i e
       rw [Q7 e]
       unfold Gw at h
       split at h
       ·rename_i c a b
        rw [Bool.and_eq_true] at h
        obtain ⟨h1,h2⟩:=h
        obtain ⟨i,j,rfl,rfl⟩:=Q8 h1
        obtain ⟨k,rfl,hk⟩:=qq d c h2
        have h1:(decide (0<=i) && decide (i<=j) && decide (j<=3))=true:=h1
        rw [Bool.and_eq_true,Bool.and_eq_true,decide_eq_true_eq,decide_eq_true_eq,decide_eq_true_eq] at h1
        obtain ⟨⟨a1,a2⟩,a3⟩:=h1
        obtain ⟨m,rfl⟩:=Int.eq_ofNat_of_zero_le a1
        obtain ⟨n,rfl⟩:=Int.eq_ofNat_of_zero_le (Int.le_trans a1 a2)
        exact ⟨.many k m n,by simp only [Kd.t],by omega,by omega,hk⟩
       ·cases h
      ·cases h
  ·cases h
noncomputable def Uv (made:List (List T)):List (List T)->List (List T)
 | []=>made
 | ls :: r=>Uv (made.flatMap fun a=>ls.map fun x=>a++[x]) r
noncomputable abbrev qr (ls:List (List T)):List T:=(Uv [[]] ls).map T.tup
mutual
noncomputable def Kd.all:Kd->List T
 | .whole lo hi=>(List.range (hi+1 - lo).toNat).map fun (i:Nat)=>T.int (lo+(i:Int))
 | .pick cs=>cs.map fun c=>T.str c.1
 | .row ks=>qr (Kd.alls ks)
 | .many k lo hi=>(List.range (hi+1 - lo)).flatMap fun i=>qr (List.replicate (lo+i) k.all)
noncomputable def Kd.alls:List Kd->List (List T)
 | []=>[]
 | k :: ks=>k.all :: Kd.alls ks
end
theorem Kd.alls_map:∀ ks:List Kd,Kd.alls ks=ks.map Kd.all
 | []=>by simp only [Kd.alls,List.map_nil]
 | k :: ks=>by simp only [Kd.alls,List.map_cons,Kd.alls_map ks]
end G
namespace G
open PySem L2 PV
noncomputable def prd:List Nat->Nat
 | []=>1
 | n :: r=>n*prd r
theorem yd:∀ {ns:List Nat},(∀ n∈ns,1<=n)->1<=prd ns
 | [],_=>Nat.le_refl _
 | n :: ns,h=>Nat.mul_pos (h n List.mem_cons_self) (yd fun m hm=>h m (List.mem_cons_of_mem _ hm))
theorem uy {α β:Type} (f:α->List β) (n:Nat):∀ as:List α,(∀ a∈as,(f a).length=n)->(as.flatMap f).length=as.length*n
 | [],_=>by simp
 | a :: as,h=>by
  rw [List.flatMap_cons,List.length_append,h a List.mem_cons_self,uy f n as fun b hb=>h b (List.mem_cons_of_mem _ hb),List.length_cons,Nat.add_mul,Nat.one_mul,Nat.add_comm]
theorem Yf:∀ (ls:List (List T)) (made:List (List T)),(Uv made ls).length=made.length*prd (ls.map (·.length))
 | [],made=>by simp [Uv,prd]
 | l :: ls,made=>by
  rw [Uv,Yf ls,uy _ l.length made fun a _=>List.length_map ..,List.map_cons,prd,Nat.mul_assoc]
noncomputable abbrev ke:En->RS:=YZ 3 (Zk (jS (vE 2)) (zD 0) (ZP) (ze zx (vE 1) (zG (z0 (vE 0) (zd)))) 1 [4])
theorem Qc {L M:T} {l:List T} (hl:l.length<=bnd):∀ (as:List (List T)) (acc:List T) (x:Sl),(∀ a∈as,a.length<=1000)->acc.length+as.length*l.length<=bnd->
  ∃ y,jW (zD 4) ke (as.map T.tup) [.vl L, .vl M, .vl (.lst l), .ow acc,x]= .nx [.vl L, .vl M, .vl (.lst l), .ow (acc++(as.flatMap fun a=>l.map fun x=>a++[x]).map T.tup),y]
 | [],acc,x,_,_=>⟨x,by simp [jW]⟩
 | a :: as,acc,x,ha,hb=>by
  have ha1:=ha a List.mem_cons_self
  have hb1:bnd=16777216:=rfl
  rw [List.length_cons,Nat.add_mul,Nat.one_mul] at hb
  have ec:Z3 (zD 0) ZP (ze zx (vE 1) (zG (z0 (vE 0) (zd)))) 1 [4] [.vl L, .vl M, .vl (.lst l), .ow acc, .vl (.tup a)] l= .ok (l.map fun x=>T.tup (a++[x])):=
   Jg (h:=fun x=>T.tup (a++[x])) l hl fun x hx=>by
    show ze zx (vE 1) (zG (z0 (vE 0) (zd))) [.vl x, .vl (.tup a)]=_
    rw [zo,v1,bOk,z1b v0,bOk]
    exact UH (by rw [List.length_singleton]; omega)
  have eb:ke [.vl L, .vl M, .vl (.lst l), .ow acc, .vl (.tup a)]= .nx [.vl L, .vl M, .vl (.lst l), .ow (acc++l.map fun x=>T.tup (a++[x])), .vl (.tup a)]:=by
   show ((Zk _ _ _ _ _ _ _).s fun t=>match t with | .lst us=>if acc.length+us.length<=bnd then RS.nx _ else .bad | _=> .bad)=_
   rw [Zn,jT,v2,bOk]
   show (((Z3 _ _ _ _ _ _ l).bind _).s _)=_
   rw [ec,bOk,jL]
   show (if _ then _ else _)=_
   rw [if_pos (by rw [List.length_map]; omega)]
   rfl
  obtain ⟨y,ih⟩:=Qc hl as (acc++l.map fun x=>T.tup (a++[x])) (.vl (.tup a)) (fun b hb=>ha b (List.mem_cons_of_mem _ hb)) (by rw [List.length_append,List.length_map]; omega)
  refine ⟨y, ?_⟩
  have e:jW (zD 4) ke ((a :: as).map T.tup) [.vl L, .vl M, .vl (.lst l), .ow acc,x]=match ke [.vl L, .vl M, .vl (.lst l), .ow acc, .vl (.tup a)] with
   | .nx ρ2=>jW (zD 4) ke (as.map T.tup) ρ2
   | .ct ρ2=>jW (zD 4) ke (as.map T.tup) ρ2
   | .bk ρ2=> .nx ρ2
   | r=>r:=rfl
  rw [e,eb]
  dsimp only
  rw [ih,List.flatMap_cons,List.map_append,List.map_map,List.append_assoc]
  rfl
noncomputable abbrev Yg:En->RS:=(zE (YY 3 (zd))
  (zE (JY (jS (vE 1)) (zD 4) ke)
  (mvS 1 3)))
theorem Yh {L:T} (m:Nat):∀ (ls:List (List T)) (made:List (List T)) (k:Nat) (x y z:Sl),(∀ a∈made,a.length<=k)->k+ls.length<=1000->(∀ l∈ls,1<=l.length)->made.length*prd (ls.map (·.length))<=bnd->1<=made.length->
  ∃ x' y' z',jW (zD 2) Yg (ls.map T.lst) [.vl L, .vl (.lst (made.map T.tup)),x,y,z]= .nx [.vl L, .vl (.lst ((Uv made ls).map T.tup)),x',y',z']
 | [],made,k,x,y,z,_,_,_,_,_=>⟨x,y,z,by simp [jW,Uv]⟩
 | l :: ls,made,k,x,y,z,hk,hkl,hpos,hb,hm=>by
  have hpr:1<=prd (ls.map (·.length)):=yd fun n hn=>by
   obtain ⟨l',hl',rfl⟩:=List.mem_map.mp hn
   exact hpos l' (List.mem_cons_of_mem _ hl')
  rw [List.map_cons,prd,← Nat.mul_assoc] at hb
  have hb1:made.length*l.length<=bnd:=Nat.le_trans (Nat.le_mul_of_pos_right _ hpr) hb
  have hll:l.length<=bnd:=Nat.le_trans (Nat.le_mul_of_pos_left _ hm) hb1
  rw [List.length_cons] at hkl
  obtain ⟨w,er⟩:=Qc (L:=L) (M:= .lst (made.map T.tup)) hll made [] z (fun a ha=>Nat.le_trans (hk a ha) (by omega)) (by rw [List.length_nil]; omega)
  rw [List.nil_append] at er
  have es:Yg [.vl L, .vl (.lst (made.map T.tup)), .vl (.lst l),y,z]= .nx [.vl L, .vl (.lst ((made.flatMap fun a=>l.map fun x=>a++[x]).map T.tup)), .vl (.lst l), .vl (.lst ((made.flatMap fun a=>l.map fun x=>a++[x]).map T.tup)),w]:=by
   have e0:YY 3 (zd) [.vl L, .vl (.lst (made.map T.tup)), .vl (.lst l),y,z]= .nx [.vl L, .vl (.lst (made.map T.tup)), .vl (.lst l), .ow [],z]:=rfl
   have e1:JY (jS (vE 1)) (zD 4) ke [.vl L, .vl (.lst (made.map T.tup)), .vl (.lst l), .ow [],z]= .nx [.vl L, .vl (.lst (made.map T.tup)), .vl (.lst l), .ow ((made.flatMap fun a=>l.map fun x=>a++[x]).map T.tup),w]:=er
   unfold Yg
   rw [zR,e0]
   dsimp only
   rw [zR,e1]
   rfl
  obtain ⟨x',y',z',ih⟩:=Yh (L:=L) m ls (made.flatMap fun a=>l.map fun x=>a++[x]) (k+1) (.vl (.lst l)) (.vl (.lst ((made.flatMap fun a=>l.map fun x=>a++[x]).map T.tup))) w (fun a ha=>by
   obtain ⟨b,hb,hx⟩:=List.mem_flatMap.mp ha
   obtain ⟨u,_,rfl⟩:=List.mem_map.mp hx
   have:=hk b hb
   rw [List.length_append,List.length_singleton]; omega) (by omega) (fun l' hl' =>hpos l' (List.mem_cons_of_mem _ hl')) (by
    rw [uy _ l.length made fun a _=>List.length_map ..]; exact hb) (by
    rw [uy _ l.length made fun a _=>List.length_map ..]; exact Nat.mul_pos hm (hpos l List.mem_cons_self))
  refine ⟨x',y',z', ?_⟩
  have e:jW (zD 2) Yg ((l :: ls).map T.lst) [.vl L, .vl (.lst (made.map T.tup)),x,y,z]=match Yg [.vl L, .vl (.lst (made.map T.tup)), .vl (.lst l),y,z] with
   | .nx ρ2=>jW (zD 2) Yg (ls.map T.lst) ρ2
   | .ct ρ2=>jW (zD 2) Yg (ls.map T.lst) ρ2
   | .bk ρ2=> .nx ρ2
   | r=>r:=rfl
  rw [e,es]
  exact ih
theorem VI (ls:List (List T)) (hl:ls.length<=1000) (hpos:∀ l∈ls,1<=l.length) (hb:prd (ls.map (·.length))<=bnd):zh [.lst (ls.map T.lst)]= .ok (.lst (qr ls)):=by
 obtain ⟨x',y',z',er⟩:=Yh (L:= .lst (ls.map T.lst)) 0 ls [[]] 0 .un .un .un (fun a ha=>by rw [List.mem_singleton.mp ha]; exact Nat.le_refl _) (by omega) hpos (by rw [List.length_singleton,Nat.one_mul]; exact hb) (Nat.le_refl _)
 have e:zh [.lst (ls.map T.lst)]=zu (jx [.vl (.lst (ls.map T.lst)), .un, .un, .un, .un]):=rfl
 have e0:Z0 1 (J6 (z0 (zG (zd)) (zd))) [.vl (.lst (ls.map T.lst)), .un, .un, .un, .un]= .nx [.vl (.lst (ls.map T.lst)), .vl (.lst [.tup []]), .un, .un, .un]:=rfl
 have e1:JY (jS (vE 0)) (zD 2) Yg [.vl (.lst (ls.map T.lst)), .vl (.lst [.tup []]), .un, .un, .un]= .nx [.vl (.lst (ls.map T.lst)), .vl (.lst (qr ls)),x',y',z']:=er
 rw [e,jx,zR,e0]
 dsimp only
 rw [zR,e1]
 rfl
end G
namespace G
open PySem L2 PV
theorem ye (n:Nat):∀ m:Nat,prd (List.replicate m n)=n ^ m
 | 0=>rfl
 | m+1=>by rw [List.replicate_succ,prd,ye n m,Nat.pow_succ,Nat.mul_comm]
theorem yf (ls:List (List T)):(qr ls).length=prd (ls.map (·.length)):=by
 unfold qr
 rw [List.length_map,Yf,List.length_singleton,Nat.one_mul]
noncomputable def pw (n lo hi:Nat):Nat:=((List.range (hi+1 - lo)).map fun i=>n ^ (lo+i)).sum
theorem uz (k:Kd) (lo hi:Nat):(Kd.many k lo hi).all.length=pw k.all.length lo hi:=by
 rw [Kd.all,List.length_flatMap,pw]
 congr 1
 refine List.map_congr_left fun i _=> ?_
 rw [yf,List.map_replicate,ye]
theorem yg (ks:List Kd):(Kd.row ks).all.length=prd (ks.map fun k=>k.all.length):=by
 rw [Kd.all,yf,Kd.alls_map,List.map_map]; rfl
theorem uZ (lo hi:Int):(Kd.whole lo hi).all.length=(hi+1 - lo).toNat:=by
 rw [Kd.all,List.length_map,List.length_range]
theorem Qd (cs:List (Str×Int)):(Kd.pick cs).all.length=cs.length:=by
 rw [Kd.all,List.length_map]
theorem KI {lo hi:Nat} (h:lo<=hi) (h3:hi<=3):(lo=0/\hi=0)\/(lo=0/\hi=1)\/(lo=0/\hi=2)\/(lo=0/\hi=3)\/(lo=1/\hi=1)\/(lo=1/\hi=2)\/(lo=1/\hi=3)\/(lo=2/\hi=2)\/(lo=2/\hi=3)\/(lo=3/\hi=3):=by omega
noncomputable def iv (b:Bool):Nat:=if b then 1 else 0
theorem KJ (n:Nat) {lo hi:Nat} (h:lo<=hi) (h3:hi<=3):pw n lo hi=iv (lo == 0)+n*iv (decide (lo<=1) && decide (1<=hi))+n*n*iv (decide (lo<=2) && decide (2<=hi))+n*n*n*iv (hi == 3):=by
 rcases KI h h3 with ⟨rfl,rfl⟩ | ⟨rfl,rfl⟩ | ⟨rfl,rfl⟩ | ⟨rfl,rfl⟩ | ⟨rfl,rfl⟩ | ⟨rfl,rfl⟩ | ⟨rfl,rfl⟩ | ⟨rfl,rfl⟩ | ⟨rfl,rfl⟩ | ⟨rfl,rfl⟩ <;>
  simp [pw,List.range_succ,iv,Nat.pow_succ]
 all_goals omega
theorem GH {n:Nat} (hn:1<=n) {lo hi:Nat} (h:lo<=hi) (h3:hi<=3):1<=pw n lo hi:=by
 have h2:1<=n*n:=Nat.mul_pos hn hn
 have h1:1<=n*n*n:=Nat.mul_pos h2 hn
 rw [KJ n h h3]
 rcases KI h h3 with ⟨rfl,rfl⟩ | ⟨rfl,rfl⟩ | ⟨rfl,rfl⟩ | ⟨rfl,rfl⟩ | ⟨rfl,rfl⟩ | ⟨rfl,rfl⟩ | ⟨rfl,rfl⟩ | ⟨rfl,rfl⟩ | ⟨rfl,rfl⟩ | ⟨rfl,rfl⟩ <;>
  simp [iv] <;> omega
theorem z1e {n N:Nat} (hn:n<=N) {lo hi:Nat} (h:lo<=hi) (h3:hi<=3):pw n lo hi<=1+N+N*N+N*N*N:=by
 have h2:n*n<=N*N:=Nat.mul_le_mul hn hn
 have h1:n*n*n<=N*N*N:=Nat.mul_le_mul h2 hn
 rw [KJ n h h3]
 rcases KI h h3 with ⟨rfl,rfl⟩ | ⟨rfl,rfl⟩ | ⟨rfl,rfl⟩ | ⟨rfl,rfl⟩ | ⟨rfl,rfl⟩ | ⟨rfl,rfl⟩ | ⟨rfl,rfl⟩ | ⟨rfl,rfl⟩ | ⟨rfl,rfl⟩ | ⟨rfl,rfl⟩ <;>
  simp [iv] <;> omega
theorem kf {N:Nat} (hN:1<=N):∀ (ns:List Nat),(∀ n∈ns,n<=N)->prd ns<=N ^ ns.length
 | [],_=>Nat.le_refl _
 | n :: ns,h=>by
  rw [prd,List.length_cons,Nat.pow_succ,Nat.mul_comm]
  exact Nat.mul_le_mul (kf hN ns fun m hm=>h m (List.mem_cons_of_mem _ hm)) (h n List.mem_cons_self)
theorem WN:∀ (d:Nat) (k:Kd),k.Ok d->1<=k.all.length
 | 0,_,h=>h.elim
 | d+1, .whole lo hi,h=>by
  obtain ⟨_,h2,_⟩:=h
  rw [uZ]; omega
 | d+1, .pick cs,h=>by
  rw [Qd]; exact h.1
 | d+1, .row ks,h=>by
  rw [yg]
  refine yd fun n hn=> ?_
  obtain ⟨k,hk,rfl⟩:=List.mem_map.mp hn
  exact WN d k (h.2.2 k hk)
 | d+1, .many k lo hi,h=>by
  rw [uz]
  exact GH (WN d k h.2.2) h.1 h.2.1
noncomputable def mx:Nat->Nat
 | 0=>0
 | 1=>41
 | d+1=>1+mx d+mx d*mx d+mx d*mx d*mx d
theorem kg (d:Nat):41<=mx (d+1):=by
 induction d with
 | zero=>exact Nat.le_refl _
 | succ d ih=>
  show 41<=1+mx (d+1)+mx (d+1)*mx (d+1)+mx (d+1)*mx (d+1)*mx (d+1)
  omega
theorem VJ (d:Nat) (n:Nat) (h:n<=41):n<=mx (d+1):=Nat.le_trans h (kg d)
theorem KK {N m:Nat} (hN:1<=N) (h:m<=3):N ^ m<=1+N+N*N+N*N*N:=by
 have:m=0\/m=1\/m=2\/m=3:=by omega
 rcases this with rfl | rfl | rfl | rfl <;> simp [Nat.pow_succ] <;> omega
theorem UJ:∀ (d:Nat) (k:Kd),k.Ok d->k.all.length<=mx d
 | 0,_,h=>h.elim
 | d+1, .whole lo hi,h=>by
  obtain ⟨h1,h2,h3⟩:=h
  rw [uZ]; exact VJ d _ (by omega)
 | d+1, .pick cs,h=>by
  rw [Qd]; exact VJ d _ (Nat.le_trans h.2.1 (by omega))
 | 1, .row ks,h=>by
  obtain ⟨h1,h2,h3⟩:=h
  match ks,h1,h3 with
  | k :: _,_,h3=>exact (h3 k List.mem_cons_self).elim
 | d+2, .row ks,h=>by
  obtain ⟨h1,h2,h3⟩:=h
  rw [yg]
  have hp:=Nat.le_trans (by omega:1<=41) (kg d)
  have:=kf hp (ks.map fun k=>k.all.length) fun n hn=>by
   obtain ⟨k,hk,rfl⟩:=List.mem_map.mp hn
   exact UJ (d+1) k (h3 k hk)
  rw [List.length_map] at this
  exact Nat.le_trans this (KK hp h2)
 | 1, .many k lo hi,h=>h.2.2.elim
 | d+2, .many k lo hi,h=>by
  rw [uz]
  exact z1e (UJ (d+1) k h.2.2) h.1 h.2.1
end G
namespace G
open PySem L2 PV
theorem zi {f g:En->RS} {ρ ρ' :En} (h:f ρ= .nx ρ'):zE f g ρ=g ρ' :=by rw [zR,h]
theorem cs0 {x w:Str} {r:List T} {ρ:En}:zH eqC (ze ixT (vE 0) (cE (.int 0))) (cE (.str w)) (.vl (.tup (.str x :: r)) :: ρ)= .ok (x == w):=by
 rw [zZ,zo,v0,bOk,Zb,bOk,at0,bOk,Zb,bOk,eqS]; rfl
theorem yh {a b:T} {r:List T} {ρ:En}:ze ixT (vE 0) (cE (.int 1)) (.vl (.tup (a :: b :: r)) :: ρ)= .ok b:=by
 rw [zo,v0,bOk,Zb,bOk,at1]
theorem QU {a b c:T} {r:List T} {ρ:En}:ze ixT (vE 0) (cE (.int 2)) (.vl (.tup (a :: b :: c :: r)) :: ρ)= .ok c:=by
 rw [zo,v0,bOk,Zb,bOk,at2]
theorem z0m {a b c d:T} {r:List T} {ρ:En}:ze ixT (vE 0) (cE (.int 3)) (.vl (.tup (a :: b :: c :: d :: r)) :: ρ)= .ok d:=by
 rw [zo,v0,bOk,Zb,bOk,at3]
theorem GI {f:En->R T} {ρ:En} {i:Int} (h:f ρ= .ok (.int i)):ze zx f (cE (.int 1)) ρ= .ok (.int (i+1)):=by
 rw [zo,h,bOk,Zb,bOk,Zo]
theorem VL {f g:En->R T} {ρ:En} {i j:Int} (hf:f ρ= .ok (.int i)) (hg:g ρ= .ok (.int j)) (h: -1000000 < i/\i < 1000000/\ -1000000 < j/\j < 1000000):Ur f g ρ= .ok (rng i (j - i).toNat):=by
 unfold Ur
 rw [hf,bOk,hg,bOk]
 exact if_pos h
theorem VM:∀ (cs:List (Str×Int)) (x y:Sl),Z9 (jF 0 1) ZP (vE 0) (cs.map vg) [x,y]= .ok (cs.map fun c=>T.str c.1)
 | [],_,_=>rfl
 | c :: cs,x,y=>by
  have e:Z9 (jF 0 1) ZP (vE 0) ((c :: cs).map vg) [x,y]=(Z9 (jF 0 1) ZP (vE 0) (cs.map vg) [.vl (.str c.1), .vl (.int c.2)]).bind fun vs=> .ok (.str c.1 :: vs):=rfl
  rw [e,VM cs]; rfl
theorem GJ {x:T} {m:Nat} (h:m<=3):ZD (.lst [x]) (.int (m:Int))= .ok (.lst (List.replicate m [x]).flatten):=by
 unfold ZD
 dsimp only
 have c:0<=(m:Int)/\(m:Int) < 1000000/\[x].length*(m:Int).toNat<=bnd:=by
  have hb:3<=bnd:=by decide
  refine ⟨by omega,by omega, ?_⟩
  rw [List.length_singleton,Int.toNat_natCast,Nat.one_mul]
  exact Nat.le_trans h hb
 rw [if_pos c,Int.toNat_natCast]
theorem Qe {α:Type} (x:α):∀ m:Nat,(List.replicate m [x]).flatten=List.replicate m x
 | 0=>rfl
 | m+1=>by rw [List.replicate_succ,List.replicate_succ,List.flatten_cons,Qe x m]; rfl
noncomputable abbrev Uw (ca cr:List T->R T):En->RS:=YZ 1 (zb 1 cr (z0 (ze ZD (J6 (z0 (zb 1 ca (z0 (ze ixT (vE 0) (cE (.int 1))) (zd))) (zd))) (vE 2)) (zd)))
theorem GK {f:En->R T} {ρ:En} {x:T} (hf:f ρ= .ok x):J6 (z0 f zd) ρ= .ok (.lst [x]):=by
 unfold J6 z0 zd
 rw [hf]; rfl
theorem Yi {ca:List T->R T} {k:Kd} {t:T} {lo:Nat} {ws:List T} (hw:ca [t]= .ok (.lst ws)) (hpos:1<=ws.length) {a b c:T}:∀ (js:List Nat) (acc:List T) (x:Sl),(∀ j∈js,lo+j<=3)->acc.length+(js.map fun j=>ws.length ^ (lo+j)).sum<=bnd->
  ∃ y,jW (zD 2) (Uw ca zh) (js.map fun (j:Nat)=>T.int ((lo:Int)+(j:Int))) [.vl (.tup [a,t,b,c]), .ow acc,x]= .nx [.vl (.tup [a,t,b,c]), .ow (acc++js.flatMap fun j=>qr (List.replicate (lo+j) ws)),y]
 | [],acc,x,_,_=>⟨x,by simp [jW]⟩
 | j :: js,acc,x,hj,hb=>by
  have hj1:=hj j List.mem_cons_self
  have hb1:bnd=16777216:=rfl
  rw [List.map_cons,List.sum_cons] at hb
  have er:zh [.lst ((List.replicate (lo+j) ws).map T.lst)]= .ok (.lst (qr (List.replicate (lo+j) ws))):=VI _ (by rw [List.length_replicate]; omega) (fun l hl=>by rw [List.eq_of_mem_replicate hl]; exact hpos) (by rw [List.map_replicate,ye]; omega)
  have hlen:(qr (List.replicate (lo+j) ws)).length=ws.length ^ (lo+j):=by rw [yf,List.map_replicate,ye]
  have em:ZD (.lst [.lst ws]) (.int ((lo:Int)+(j:Int)))= .ok (.lst ((List.replicate (lo+j) ws).map T.lst)):=by
   have e1:(lo:Int)+(j:Int)=((lo+j:Nat):Int):=by omega
   rw [e1,GJ (by omega),Qe,List.map_replicate]
  have eb:Uw ca zh [.vl (.tup [a,t,b,c]), .ow acc, .vl (.int ((lo:Int)+(j:Int)))]= .nx [.vl (.tup [a,t,b,c]), .ow (acc++qr (List.replicate (lo+j) ws)), .vl (.int ((lo:Int)+(j:Int)))]:=by
   have e1:zb 1 zh (z0 (ze ZD (J6 (z0 (zb 1 ca (z0 (ze ixT (vE 0) (cE (.int 1))) (zd))) (zd))) (vE 2)) (zd)) [.vl (.tup [a,t,b,c]), .ow acc, .vl (.int ((lo:Int)+(j:Int)))]= .ok (.lst (qr (List.replicate (lo+j) ws))):=by
    have e0:zb 1 ca (z0 (ze ixT (vE 0) (cE (.int 1))) (zd)) [.vl (.tup [a,t,b,c]), .ow acc, .vl (.int ((lo:Int)+(j:Int)))]= .ok (.lst ws):=by
     rw [ZF,yh,bOk,hw]
    rw [ZF,zo,GK e0,bOk,v2,bOk,em,bOk,er]
   show ((zb 1 zh _ _).s fun t=>match t with | .lst us=>if acc.length+us.length<=bnd then RS.nx _ else .bad | _=> .bad)=_
   rw [e1,jL]
   show (if _ then _ else _)=_
   rw [if_pos (by rw [hlen]; omega)]
   rfl
  obtain ⟨y,ih⟩:=Yi (k:=k) hw hpos (a:=a) (b:=b) (c:=c) js (acc++qr (List.replicate (lo+j) ws)) (.vl (.int ((lo:Int)+(j:Int)))) (fun i hi=>hj i (List.mem_cons_of_mem _ hi)) (by rw [List.length_append,hlen]; omega)
  refine ⟨y, ?_⟩
  have e:jW (zD 2) (Uw ca zh) ((j :: js).map fun (j:Nat)=>T.int ((lo:Int)+(j:Int))) [.vl (.tup [a,t,b,c]), .ow acc,x]=match Uw ca zh [.vl (.tup [a,t,b,c]), .ow acc, .vl (.int ((lo:Int)+(j:Int)))] with
   | .nx ρ2=>jW (zD 2) (Uw ca zh) (js.map fun (j:Nat)=>T.int ((lo:Int)+(j:Int))) ρ2
   | .ct ρ2=>jW (zD 2) (Uw ca zh) (js.map fun (j:Nat)=>T.int ((lo:Int)+(j:Int))) ρ2
   | .bk ρ2=> .nx ρ2
   | r=>r:=rfl
  rw [e,eb]
  dsimp only
  rw [ih,List.flatMap_cons,List.append_assoc]
theorem Xi {ca:List T->R T} {a t:T} {lo hi:Nat} (h1:lo<=hi) (h2:hi<=3) {x:Sl} {acc:List T} {r:RS}
  (el:jW (zD 2) (Uw ca zh) ((List.range (hi+1 - lo)).map fun (j:Nat)=>T.int ((lo:Int)+(j:Int))) [.vl (.tup [a,t, .int (lo:Int), .int (hi:Int)]), .ow acc,x]=r):
  JY (Ur (ze ixT (vE 0) (cE (.int 2))) (ze zx (ze ixT (vE 0) (cE (.int 3))) (cE (.int 1)))) (zD 2) (Uw ca zh) [.vl (.tup [a,t, .int (lo:Int), .int (hi:Int)]), .ow acc,x]=r:=by
 have hn:((hi:Int)+1 - (lo:Int)).toNat=hi+1 - lo:=by omega
 have hc: -1000000 < (lo:Int)/\(lo:Int) < 1000000/\ -1000000 < (hi:Int)+1/\(hi:Int)+1 < 1000000:=by omega
 have e:JY (Ur (ze ixT (vE 0) (cE (.int 2))) (ze zx (ze ixT (vE 0) (cE (.int 3))) (cE (.int 1)))) (zD 2) (Uw ca zh) [.vl (.tup [a,t, .int (lo:Int), .int (hi:Int)]), .ow acc,x]=(Ur (ze ixT (vE 0) (cE (.int 2))) (ze zx (ze ixT (vE 0) (cE (.int 3))) (cE (.int 1))) [.vl (.tup [a,t, .int (lo:Int), .int (hi:Int)]), .ow acc,x]).s fun ts=>jW (zD 2) (Uw ca zh) ts [.vl (.tup [a,t, .int (lo:Int), .int (hi:Int)]), .ow acc,x]:=rfl
 rw [e,VL QU (GI z0m) hc,jL,hn]
 exact el
theorem GL {n L lo hi:Nat} (e:L=pw n lo hi) (h:L<=1000000):([]:List T).length+((List.range (hi+1 - lo)).map fun j=>n ^ (lo+j)).sum<=bnd:=by
 have h' :pw n lo hi<=bnd:=Nat.le_trans (e ▸ h) (by decide)
 unfold pw at h'
 rw [List.length_nil,Nat.zero_add]
 exact h'
theorem VN {ca:List T->R T} (d:Nat) (lo hi:Int) (h:(Kd.whole lo hi).Ok (d+1)) (hl:(Kd.whole lo hi).all.length<=1000000) (H:∀ k' :Kd,k'.Ok d->ca [k'.t]= .ok (.lst k'.all)):zu (zC ca zh (en0 3 [(Kd.whole lo hi).t]))= .ok (.lst (Kd.whole lo hi).all):=by
 have hb1:bnd=16777216:=rfl
 have e:zu (zC ca zh (en0 3 [(Kd.whole lo hi).t]))=zu (zC ca zh [.vl (Kd.whole lo hi).t, .un, .un]):=rfl
 rw [e,zC,zR,J0]
 obtain ⟨h1,h2,h3⟩:=h
 simp only [Kd.t]
 rw [cs0,jL,show (("whole":Str) == "whole")=true from rfl,if_pos rfl,jf,We,Ut,Ut,uU]
 unfold z0g
 rw [VL yh (GI QU) ⟨by omega,by omega,by omega,by omega⟩]
 rw [Kd.all]
 rfl
theorem Xj {ca:List T->R T} (d:Nat) (cs:List (Str×Int)) (h:(Kd.pick cs).Ok (d+1)) (hl:(Kd.pick cs).all.length<=1000000) (H:∀ k' :Kd,k'.Ok d->ca [k'.t]= .ok (.lst k'.all)):zu (zC ca zh (en0 3 [(Kd.pick cs).t]))= .ok (.lst (Kd.pick cs).all):=by
 have hb1:bnd=16777216:=rfl
 have e:zu (zC ca zh (en0 3 [(Kd.pick cs).t]))=zu (zC ca zh [.vl (Kd.pick cs).t, .un, .un]):=rfl
 rw [e,zC,zR,J0]
 simp only [Kd.t]
 rw [cs0,jL,show (("pick":Str) == "whole")=false from rfl,if_neg Bool.false_ne_true,UI]
 dsimp only
 rw [zR,J0,cs0,jL,show (("pick":Str) == "pick")=true from rfl,if_pos rfl,jf,We,Ut,Ut,uU,Zn,jT,yh,bOk]
 have hc:cs.length<=4:=h.2.1
 have ec:Z3 (jF 0 1) ZP (vE 0) 2 [] [.vl (.tup [.str "pick", .tup (cs.map vg)]), .un, .un] (cs.map vg)= .ok (cs.map fun c=>T.str c.1):=by
  unfold Z3
  rw [if_pos (by rw [List.length_map]; omega)]
  show quiet (Z9 (jF 0 1) ZP (vE 0) (cs.map vg) [.un, .un])=_
  rw [VM]; rfl
 show zu (match ((((R.ok (cs.map vg)).bind fun ts=>(Z3 (jF 0 1) ZP (vE 0) 2 [] [.vl (.tup [.str "pick", .tup (cs.map vg)]), .un, .un] ts).bind fun vs=> .ok (.lst vs))).s fun t=> .rt t) with | .nx ρ' =>_ | r=>r)=_
 rw [bOk,ec]
 rw [Kd.all]
 rfl
theorem KL {ca:List T->R T} (d:Nat) (ks:List Kd) (h:(Kd.row ks).Ok (d+1)) (hl:(Kd.row ks).all.length<=1000000) (H:∀ k' :Kd,k'.Ok d->ca [k'.t]= .ok (.lst k'.all)):zu (zC ca zh (en0 3 [(Kd.row ks).t]))= .ok (.lst (Kd.row ks).all):=by
 have hb1:bnd=16777216:=rfl
 have e:zu (zC ca zh (en0 3 [(Kd.row ks).t]))=zu (zC ca zh [.vl (Kd.row ks).t, .un, .un]):=rfl
 rw [e,zC,zR,J0]
 obtain ⟨h1,h2,h3⟩:=h
 simp only [Kd.t]
 rw [cs0,jL,show (("row":Str) == "whole")=false from rfl,if_neg Bool.false_ne_true,UI]
 dsimp only
 rw [zR,J0,cs0,jL,show (("row":Str) == "pick")=false from rfl,if_neg Bool.false_ne_true,UI]
 dsimp only
 rw [zR,J0,cs0,jL,show (("row":Str) == "row")=true from rfl,if_pos rfl,jf,We,Ut,Ut,uU,ZF,Zn,jT,yh,bOk,Kd.ts_map]
 have ec:Z3 (zD 0) ZP (zb 1 ca (z0 (vE 0) (zd))) 1 [] [.vl (.tup [.str "row", .tup (ks.map Kd.t)]), .un, .un] (ks.map Kd.t)= .ok ((ks.map Kd.all).map T.lst):=by
  unfold Z3
  rw [if_pos (by rw [List.length_map]; omega)]
  show quiet (Z9 (zD 0) ZP _ (ks.map Kd.t) [.un])=_
  have:∀ (ks:List Kd) (x:Sl),(∀ k∈ks,k.Ok d)->Z9 (zD 0) ZP (zb 1 ca (z0 (vE 0) (zd))) (ks.map Kd.t) [x]= .ok ((ks.map Kd.all).map T.lst):=by
   intro ks
   induction ks with
   | nil=>intro _ _; rfl
   | cons k ks ih=>
    intro x hk
    have e1:Z9 (zD 0) ZP (zb 1 ca (z0 (vE 0) (zd))) ((k :: ks).map Kd.t) [x]=(zb 1 ca (z0 (vE 0) (zd)) [.vl k.t]).bind fun v=>(Z9 (zD 0) ZP (zb 1 ca (z0 (vE 0) (zd))) (ks.map Kd.t) [.vl k.t]).bind fun vs=> .ok (v :: vs):=rfl
    rw [e1,ZF,v0,bOk,H k (hk k List.mem_cons_self),bOk,ih _ fun k' hk' =>hk k' (List.mem_cons_of_mem _ hk')]
    rfl
  rw [this ks .un h3]; rfl
 have hrow:=yg ks
 have er:zh [.lst ((ks.map Kd.all).map T.lst)]= .ok (.lst (qr (ks.map Kd.all))):=VI _ (by rw [List.length_map]; omega) (fun l hl=>by
  obtain ⟨k,hk,rfl⟩:=List.mem_map.mp hl
  exact WN d k (h3 k hk)) (by
  rw [List.map_map]
  show prd (ks.map fun k=>k.all.length)<=bnd
  omega)
 show zu (match ((((R.ok (ks.map Kd.t)).bind fun ts=>(Z3 (zD 0) ZP (zb 1 ca (z0 (vE 0) (zd))) 1 [] [.vl (.tup [.str "row", .tup (ks.map Kd.t)]), .un, .un] ts).bind fun vs=> .ok (.lst vs)).bind fun x=>zh [x]).s fun t=> .rt t) with | .nx ρ' =>_ | r=>r)=_
 rw [bOk,ec,bOk,bOk,er,Kd.all,Kd.alls_map]
 rfl
theorem Xk {ca:List T->R T} (d:Nat) (k:Kd) (lo hi:Nat) (h:(Kd.many k lo hi).Ok (d+1)) (hl:(Kd.many k lo hi).all.length<=1000000) (H:∀ k' :Kd,k'.Ok d->ca [k'.t]= .ok (.lst k'.all)):zu (zC ca zh (en0 3 [(Kd.many k lo hi).t]))= .ok (.lst (Kd.many k lo hi).all):=by
 have hb1:bnd=16777216:=rfl
 have e:zu (zC ca zh (en0 3 [(Kd.many k lo hi).t]))=zu (zC ca zh [.vl (Kd.many k lo hi).t, .un, .un]):=rfl
 rw [e,zC,zR,J0]
 obtain ⟨h1,h2,h3⟩:=h
 have hml:=uz k lo hi
 simp only [Kd.t]
 rw [cs0,jL,show (("many":Str) == "whole")=false from rfl,if_neg Bool.false_ne_true,UI]
 dsimp only
 rw [zR,J0,cs0,jL,show (("many":Str) == "pick")=false from rfl,if_neg Bool.false_ne_true,UI]
 dsimp only
 rw [zR,J0,cs0,jL,show (("many":Str) == "row")=false from rfl,if_neg Bool.false_ne_true,UI]
 dsimp only
 have e0:YY 1 (zd) [.vl (.tup [.str "many",k.t, .int (lo:Int), .int (hi:Int)]), .un, .un]= .nx [.vl (.tup [.str "many",k.t, .int (lo:Int), .int (hi:Int)]), .ow [], .un]:=rfl
 rw [zR,e0]
 dsimp only
 obtain ⟨y,el⟩:=Yi (k:=k) (lo:=lo) (H k h3) (WN d k h3) (a:= .str "many") (b:= .int (lo:Int)) (c:= .int (hi:Int)) (List.range (hi+1 - lo)) [] .un (fun j hj=>by have:=List.mem_range.mp hj; omega) (GL hml hl)
 have e1:=Xi (ca:=ca) (t:=k.t) h1 h2 el
 rw [List.nil_append] at e1
 rw [zi e1,Kd.all]
 rfl
theorem Xl {ca:List T->R T} (d:Nat) (k:Kd) (h:k.Ok (d+1)) (hl:k.all.length<=1000000) (H:∀ k' :Kd,k'.Ok d->ca [k'.t]= .ok (.lst k'.all)):zu (zC ca zh (en0 3 [k.t]))= .ok (.lst k.all):=by
 cases k with
 | whole lo hi=>exact VN d lo hi h hl H
 | pick cs=>exact Xj d cs h hl H
 | row ks=>exact KL d ks h hl H
 | many k lo hi=>exact Xk d k lo hi h hl H
theorem VO:∀ (d n:Nat),d<=n->d<=3->∀ k:Kd,k.Ok d->k.all.length<=1000000->J7 n 0 [k.t]= .ok (.lst k.all)
 | 0,_,_,_,_,h,_=>h.elim
 | d+1,0,hn,_,_,_,_=>by omega
 | d+1,n+1,hn,hd,k,h,hl=>by
  have e:J7 (n+1) 0 [k.t]=zu (zC (J7 n 0) zh (en0 3 [k.t])):=rfl
  rw [e]
  refine Xl d k h hl fun k' hk' =>VO d n (by omega) (by omega) k' hk' ?_
  have h1:=UJ d k' hk'
  have:mx d<=1000000:=by
   have:d=0\/d=1\/d=2:=by omega
   rcases this with rfl | rfl | rfl <;> decide
  omega
end G
namespace G
open PySem L2 PV
theorem in2 {x a b:Str} {r:List T} {ρ:En}:zH inC (ze ixT (vE 0) (cE (.int 0))) (zG (z0 (cE (.str a)) (z0 (cE (.str b)) (zd)))) (.vl (.tup (.str x :: r)) :: ρ)=inC (.str x) (.tup [.str a, .str b]):=by
 rw [zZ,zo,v0,bOk,Zb,bOk,at0,bOk,vf Zb Zb,bOk]
theorem JM {g:En->R Bool} {f1 f2:En->RS} {ρ:En} (h:g ρ= .ok true):ifS g f1 f2 ρ=f1 ρ:=by rw [J0,h,jL,if_pos rfl]
theorem if_f {g:En->R Bool} {f1 f2:En->RS} {ρ:En} (h:g ρ= .ok false):ifS g f1 f2 ρ=f2 ρ:=by rw [J0,h,jL,if_neg Bool.false_ne_true]
theorem zz {g:En->R Bool} {f1:En->RS} {ρ:En} (h:g ρ= .ok false):ifS g f1 nxS ρ= .nx ρ:=by rw [if_f h]; rfl
theorem ZL {i:Nat} {f:En->R T} {ρ:En} {t:T} (h:f ρ= .ok t):Z0 i f ρ= .nx (ρ.set i (.vl t)):=by rw [JD,h,jL]
theorem zB {f:En->R T} {ρ:En} {t:T} (h:f (frz ρ)= .ok t):zV f ρ= .rt t:=by rw [jf,h,jL]
theorem U0 {g:T->En->R En} {fb:En->RS} {t:T} {ts:List T} {ρ ρ1 ρ2:En} (hg:g t ρ= .ok ρ1) (hb:fb ρ1= .nx ρ2):jW g fb (t :: ts) ρ=jW g fb ts ρ2:=by
 rw [jW,hg]
 dsimp only
 rw [hb]
theorem zN {f g:En->RS} {ρ:En} {t:T} (h:f ρ= .rt t):zE f g ρ= .rt t:=by rw [zR,h]
theorem kh {i j:Nat} (h:i < 2 ^ 60):ZD (.int (i:Int)) (.int (j:Int))= .ok (.int ((i*j:Nat):Int)):=by
 rw [qi _ _ (.inl ⟨by omega,by omega⟩),Int.natCast_mul]
theorem z1f {d n:Nat} (h:n<=mx d) (hd:d<=3):n < 2 ^ 60:=by
 have:d=0\/d=1\/d=2\/d=3:=by omega
 have h3:mx 3 < 2 ^ 60:=by decide
 have h2:mx 2 < 2 ^ 60:=by decide
 have h1:mx 1 < 2 ^ 60:=by decide
 have h0:mx 0 < 2 ^ 60:=by decide
 rcases this with rfl | rfl | rfl | rfl <;> omega
theorem Qf {a b:Sl}:∀ (ns:List Nat) (m:Nat) (x y:Sl),(∀ n∈ns,1<=n)->m*prd ns < 2 ^ 60->∃ x',jW (zD 3) (Z0 2 (ze ZD (vE 2) (vE 3))) (ns.map fun (n:Nat)=>T.int (n:Int)) [a,b, .vl (.int (m:Int)),x,y]= .nx [a,b, .vl (.int ((m*prd ns:Nat):Int)),x',y]
 | [],m,x,y,_,_=>⟨x,by simp [jW,prd]⟩
 | n :: ns,m,x,y,hp,hb=>by
  have hpr:=yd (ns:=ns) fun k hk=>hp k (List.mem_cons_of_mem _ hk)
  have hn:=hp n List.mem_cons_self
  have hmm:m<=m*prd (n :: ns):=Nat.le_mul_of_pos_right _ (Nat.mul_pos hn hpr)
  have hb2:m < 2 ^ 60:=Nat.lt_of_le_of_lt hmm hb
  rw [prd,← Nat.mul_assoc] at hb
  obtain ⟨x',ih⟩:=Qf (a:=a) (b:=b) ns (m*n) (.vl (.int (n:Int))) y (fun k hk=>hp k (List.mem_cons_of_mem _ hk)) hb
  refine ⟨x', ?_⟩
  have es:Z0 2 (ze ZD (vE 2) (vE 3)) [a,b, .vl (.int (m:Int)), .vl (.int (n:Int)),y]= .nx [a,b, .vl (.int ((m*n:Nat):Int)), .vl (.int (n:Int)),y]:=by
   rw [JD,zo,v2,bOk,v3,bOk,kh hb2,jL]; rfl
  have s3:zD 3 (T.int (n:Int)) [a,b, .vl (.int (m:Int)),x,y]= .ok [a,b, .vl (.int (m:Int)), .vl (.int (n:Int)),y]:=rfl
  rw [List.map_cons,U0 s3 es,prd,← Nat.mul_assoc]
  exact ih
theorem Xm:∀ (d:Nat) (lo hi:Int),(Kd.whole lo hi).Ok (d+1)->(Kd.whole lo hi).Ok 1
 | _,_,_,h=>h
theorem Xn:∀ (d:Nat) (cs:List (Str×Int)),(Kd.pick cs).Ok (d+1)->(Kd.pick cs).Ok 1
 | _,_,h=>h
theorem Yj {cs:List T->R T} (k:Kd) (h:k.Ok 1) {x:Str} {r:List T} (ht:k.t= .tup (.str x :: r)) (hx:inC (.str x) (.tup [.str "whole", .str "pick"])= .ok true):zu (zO (zL 8) cs (en0 5 [k.t]))= .ok (.int (k.all.length:Int)):=by
 have ha:zL 8 [k.t]= .ok (.lst k.all):=VO 1 8 (by omega) (by omega) k h (Nat.le_trans (UJ 1 k h) (by decide))
 have e:zu (zO (zL 8) cs (en0 5 [k.t]))=zu (zO (zL 8) cs [.vl k.t, .un, .un, .un, .un]):=rfl
 have e1:zH inC (ze ixT (vE 0) (cE (.int 0))) (zG (z0 (cE (.str "whole")) (z0 (cE (.str "pick")) (zd)))) [.vl k.t, .un, .un, .un, .un]= .ok true:=by
  rw [ht,in2,hx]
 have e2:zV (ap1 jD (zb 1 (zL 8) (z0 (vE 0) (zd)))) [.vl k.t, .un, .un, .un, .un]= .rt (.int (k.all.length:Int)):=by
  refine zB ?_
  rw [We,jH,ZF,v0,bOk,ha,bOk,Gu]
 rw [e,zO,zN (by rw [JM e1,e2])]
 rfl
theorem z1g (b:Bool):b2 b=(iv b:Int):=by cases b <;> rfl
theorem Xo {cs:List T->R T} {d:Nat} (hd:d+1<=3) (ks:List Kd) (h:(Kd.row ks).Ok (d+1)) (H:∀ k:Kd,k.Ok d->cs [k.t]= .ok (.int (k.all.length:Int))):zu (zO (zL 8) cs (en0 5 [(Kd.row ks).t]))= .ok (.int ((Kd.row ks).all.length:Int)):=by
 have hlt:=z1f (UJ (d+1) (.row ks) h) hd
 rw [yg] at hlt ⊢
 obtain ⟨h1,h2,h3⟩:=h
 simp only [Kd.t,Kd.ts_map]
 have e:zu (zO (zL 8) cs (en0 5 [.tup [.str "row", .tup (ks.map Kd.t)]]))=zu (zO (zL 8) cs [.vl (.tup [.str "row", .tup (ks.map Kd.t)]), .un, .un, .un, .un]):=rfl
 have e1:zH inC (ze ixT (vE 0) (cE (.int 0))) (zG (z0 (cE (.str "whole")) (z0 (cE (.str "pick")) (zd)))) [.vl (.tup [.str "row", .tup (ks.map Kd.t)]), .un, .un, .un, .un]= .ok false:=by
  rw [in2]; rfl
 have ec:Z3 (zD 0) ZP (zb 1 cs (z0 (vE 0) (zd))) 1 [] [.vl (.tup [.str "row", .tup (ks.map Kd.t)]), .un, .un, .un, .un] (ks.map Kd.t)= .ok ((ks.map fun k=>k.all.length).map fun (n:Nat)=>T.int (n:Int)):=by
  unfold Z3
  rw [if_pos (by rw [List.length_map]; exact Nat.le_trans h2 (by decide))]
  have:∀ (ks:List Kd) (x:Sl),(∀ k∈ks,k.Ok d)->Z9 (zD 0) ZP (zb 1 cs (z0 (vE 0) (zd))) (ks.map Kd.t) [x]= .ok ((ks.map fun k=>k.all.length).map fun (n:Nat)=>T.int (n:Int)):=by
   intro ks
   induction ks with
   | nil=>intro _ _; rfl
   | cons k ks ih=>
    intro x hk
    have e1:Z9 (zD 0) ZP (zb 1 cs (z0 (vE 0) (zd))) ((k :: ks).map Kd.t) [x]=(zb 1 cs (z0 (vE 0) (zd)) [.vl k.t]).bind fun v=>(Z9 (zD 0) ZP (zb 1 cs (z0 (vE 0) (zd))) (ks.map Kd.t) [.vl k.t]).bind fun vs=> .ok (v :: vs):=rfl
    rw [e1,ZF,v0,bOk,H k (hk k List.mem_cons_self),bOk,ih _ fun k' hk' =>hk k' (List.mem_cons_of_mem _ hk')]
    rfl
  show quiet (Z9 (zD 0) ZP _ (ks.map Kd.t) [.un])=_
  rw [this ks .un h3]; rfl
 have e2:ifE (zH eqC (ze ixT (vE 0) (cE (.int 0))) (cE (.str "row"))) (Zk (jS (ze ixT (vE 0) (cE (.int 1)))) (zD 0) (ZP) (zb 1 cs (z0 (vE 0) (zd))) 1 []) (J6 (zd)) [.vl (.tup [.str "row", .tup (ks.map Kd.t)]), .un, .un, .un, .un]= .ok (.lst ((ks.map fun k=>k.all.length).map fun (n:Nat)=>T.int (n:Int))):=by
  unfold ifE
  rw [cs0,bOk,show (("row":Str) == "row")=true from rfl,if_pos rfl,Zn,jT,yh,bOk]
  show ((R.ok (ks.map Kd.t)).bind _)=_
  rw [bOk,ec,bOk]
 obtain ⟨x',el⟩:=Qf (a:= .vl (.tup [.str "row", .tup (ks.map Kd.t)])) (b:= .vl (.lst ((ks.map fun k=>k.all.length).map fun (n:Nat)=>T.int (n:Int)))) (ks.map fun k=>k.all.length) 1 .un .un (fun n hn=>by
  obtain ⟨k,hk,rfl⟩:=List.mem_map.mp hn
  exact WN d k (h3 k hk)) (by rw [Nat.one_mul]; exact hlt)
 rw [Nat.one_mul] at el
 have e3:JY (jS (vE 1)) (zD 3) (Z0 2 (ze ZD (vE 2) (vE 3))) [.vl (.tup [.str "row", .tup (ks.map Kd.t)]), .vl (.lst ((ks.map fun k=>k.all.length).map fun (n:Nat)=>T.int (n:Int))), .vl (.int 1), .un, .un]=_:=el
 have e4:zH eqC (ze ixT (vE 0) (cE (.int 0))) (cE (.str "many")) [.vl (.tup [.str "row", .tup (ks.map Kd.t)]), .vl (.lst ((ks.map fun k=>k.all.length).map fun (n:Nat)=>T.int (n:Int))), .vl (.int ((prd (ks.map fun k=>k.all.length):Nat):Int)),x', .un]= .ok false:=by
  rw [cs0]; rfl
 rw [e,zO,zi (zz e1),zi (ZL e2)]
 have s1:([.vl (.tup [.str "row", .tup (ks.map Kd.t)]), .un, .un, .un, .un]:En).set 1 (.vl (.lst ((ks.map fun k=>k.all.length).map fun (n:Nat)=>T.int (n:Int))))=[.vl (.tup [.str "row", .tup (ks.map Kd.t)]), .vl (.lst ((ks.map fun k=>k.all.length).map fun (n:Nat)=>T.int (n:Int))), .un, .un, .un]:=rfl
 rw [s1,zi (ZL Zb)]
 have s2:([.vl (.tup [.str "row", .tup (ks.map Kd.t)]), .vl (.lst ((ks.map fun k=>k.all.length).map fun (n:Nat)=>T.int (n:Int))), .un, .un, .un]:En).set 2 (.vl (.int 1))=[.vl (.tup [.str "row", .tup (ks.map Kd.t)]), .vl (.lst ((ks.map fun k=>k.all.length).map fun (n:Nat)=>T.int (n:Int))), .vl (.int 1), .un, .un]:=rfl
 rw [s2,zi e3,zi (zz e4)]
 rfl
end G
namespace G
open PySem L2 PV
theorem GM {f g:En->R T} {ρ:En} {i j c:Int} (hf:f ρ= .ok (.int i)) (hg:g ρ= .ok (.int j)):chE leC leC f (cE (.int c)) g ρ= .ok (.bl (decide (i<=c) && decide (c<=j))):=by
 rw [Ku,hf,bOk,Zb,bOk,QN,bOk,hg]
 cases decide (i<=c) <;> rfl
theorem Yk (a b:Nat):decide ((a:Int)<=(b:Int))=decide (a<=b):=by
 by_cases h:a<=b
 ·rw [decide_eq_true h]; exact decide_eq_true (by omega)
 ·rw [decide_eq_false h]; exact decide_eq_false (by omega)
theorem VP (a b:Nat):((a:Int) == (b:Int))=(a == b):=by
 by_cases h:a=b
 ·subst h; simp
 ·rw [beq_eq_false_iff_ne.mpr h,beq_eq_false_iff_ne]; omega
theorem z0n {f:En->R T} {ρ:En} {b:Bool} (h:f ρ= .ok (.bl b)):ap1 yH f ρ= .ok (.int ((iv b:Nat):Int)):=by
 rw [jH,h,bOk]
 show R.ok (T.int (b2 b))=_
 rw [z1g]
theorem VQ {f g:En->R T} {ρ:En} {i j:Nat} (hf:f ρ= .ok (.int (i:Int))) (hg:g ρ= .ok (.int (j:Int))):ze zx f g ρ= .ok (.int ((i+j:Nat):Int)):=by
 rw [zo,hf,bOk,hg,bOk,Zo,Int.natCast_add]
theorem WO {f g:En->R T} {ρ:En} {i j:Nat} (h:i < 2 ^ 60) (hf:f ρ= .ok (.int (i:Int))) (hg:g ρ= .ok (.int (j:Int))):ze ZD f g ρ= .ok (.int ((i*j:Nat):Int)):=by
 rw [zo,hf,bOk,hg,bOk,kh h]
theorem KM {d n:Nat} (h:n<=mx d) (hd:d+1<=3) (h0:1<=d):n*n*n < 2 ^ 60/\n*n < 2 ^ 60/\n < 2 ^ 60:=by
 have h1:n<=70644:=by
  have:d=1\/d=2:=by omega
  have h2:mx 2=70644:=by decide
  have h1:mx 1=41:=by decide
  rcases this with rfl | rfl <;> omega
 have h2:n*n<=70644*70644:=Nat.mul_le_mul h1 h1
 have h3:n*n*n<=70644*70644*70644:=Nat.mul_le_mul h2 h1
 have h4:70644*70644*70644 < 2 ^ 60:=by decide
 have h5:70644*70644 < 2 ^ 60:=by decide
 have h6:70644 < 2 ^ 60:=by decide
 exact ⟨Nat.lt_of_le_of_lt h3 h4,Nat.lt_of_le_of_lt h2 h5,Nat.lt_of_le_of_lt h1 h6⟩
noncomputable abbrev mt (t:T) (lo hi:Nat):T:= .tup [.str "many",t, .int (lo:Int), .int (hi:Int)]
theorem v4' {t:T} {a b c d:Sl} {ρ:En}:vE 4 (a :: b :: c :: d :: .vl t :: ρ)= .ok t:=rfl
theorem VR {t:T} {a x:Sl} {lo hi n:Nat} (h3:n*n*n < 2 ^ 60) (h2:n*n < 2 ^ 60) (h1:n < 2 ^ 60):
  zE (Z0 2 (ze zx (ap1 yH (jR eqC (ze ixT (vE 0) (cE (.int 2))) (cE (.int 0)))) (ze ZD (vE 4) (ap1 yH (chE leC leC (ze ixT (vE 0) (cE (.int 2))) (cE (.int 1)) (ze ixT (vE 0) (cE (.int 3))))))))
  (zE (Z0 2 (ze zx (vE 2) (ze ZD (ze ZD (vE 4) (vE 4)) (ap1 yH (chE leC leC (ze ixT (vE 0) (cE (.int 2))) (cE (.int 2)) (ze ixT (vE 0) (cE (.int 3))))))))
  (Z0 2 (ze zx (vE 2) (ze ZD (ze ZD (ze ZD (vE 4) (vE 4)) (vE 4)) (ap1 yH (jR eqC (ze ixT (vE 0) (cE (.int 3))) (cE (.int 3))))))))
  [.vl (mt t lo hi),a, .vl (.int 1),x, .vl (.int (n:Int))]= .nx [.vl (mt t lo hi),a, .vl (.int ((iv (lo == 0)+n*iv (decide (lo<=1) && decide (1<=hi))+n*n*iv (decide (lo<=2) && decide (2<=hi))+n*n*n*iv (hi == 3):Nat):Int)),x, .vl (.int (n:Int))]:=by
 have le1:∀ {p q r s:Sl},ap1 yH (chE leC leC (ze ixT (vE 0) (cE (.int 2))) (cE (.int 1)) (ze ixT (vE 0) (cE (.int 3)))) [.vl (mt t lo hi),p,q,r,s]= .ok (.int ((iv (decide (lo<=1) && decide (1<=hi)):Nat):Int)):=fun {p q r s}=>z0n (by
  rw [GM (c:=1) QU z0m]
  rw [show decide ((lo:Int)<=1)=decide (lo<=1) from Yk lo 1,show decide ((1:Int)<=(hi:Int))=decide (1<=hi) from Yk 1 hi])
 have le2:∀ {p q r s:Sl},ap1 yH (chE leC leC (ze ixT (vE 0) (cE (.int 2))) (cE (.int 2)) (ze ixT (vE 0) (cE (.int 3)))) [.vl (mt t lo hi),p,q,r,s]= .ok (.int ((iv (decide (lo<=2) && decide (2<=hi)):Nat):Int)):=fun {p q r s}=>z0n (by
  rw [GM (c:=2) QU z0m]
  rw [show decide ((lo:Int)<=2)=decide (lo<=2) from Yk lo 2,show decide ((2:Int)<=(hi:Int))=decide (2<=hi) from Yk 2 hi])
 have eq0:∀ {p q r s:Sl},ap1 yH (jR eqC (ze ixT (vE 0) (cE (.int 2))) (cE (.int 0))) [.vl (mt t lo hi),p,q,r,s]= .ok (.int ((iv (lo == 0):Nat):Int)):=fun {p q r s}=>z0n (by
  rw [ZQ,QU,bOk,Zb,bOk,eqI,bOk,show ((lo:Int) == 0)=(lo == 0) from VP lo 0])
 have eq3:∀ {p q r s:Sl},ap1 yH (jR eqC (ze ixT (vE 0) (cE (.int 3))) (cE (.int 3))) [.vl (mt t lo hi),p,q,r,s]= .ok (.int ((iv (hi == 3):Nat):Int)):=fun {p q r s}=>z0n (by
  rw [ZQ,z0m,bOk,Zb,bOk,eqI,bOk,show ((hi:Int) == 3)=(hi == 3) from VP hi 3])
 have a1:=ZL (i:=2) (VQ (eq0 (p:=a) (q:= .vl (.int 1)) (r:=x) (s:= .vl (.int (n:Int)))) (WO h1 v4' le1))
 have a1:Z0 2 (ze zx (ap1 yH (jR eqC (ze ixT (vE 0) (cE (.int 2))) (cE (.int 0)))) (ze ZD (vE 4) (ap1 yH (chE leC leC (ze ixT (vE 0) (cE (.int 2))) (cE (.int 1)) (ze ixT (vE 0) (cE (.int 3))))))) [.vl (mt t lo hi),a, .vl (.int 1),x, .vl (.int (n:Int))]= .nx [.vl (mt t lo hi),a, .vl (.int ((iv (lo == 0)+n*iv (decide (lo<=1) && decide (1<=hi)):Nat):Int)),x, .vl (.int (n:Int))]:=a1
 rw [zi a1]
 generalize iv (lo == 0)+n*iv (decide (lo<=1) && decide (1<=hi))=m1
 have a2:=ZL (i:=2) (VQ (v2 (t:= .int (m1:Int)) (a:= .vl (mt t lo hi)) (b:=a) (ρ:=[x, .vl (.int (n:Int))])) (WO h2 (WO h1 v4' v4') le2))
 have a2:Z0 2 (ze zx (vE 2) (ze ZD (ze ZD (vE 4) (vE 4)) (ap1 yH (chE leC leC (ze ixT (vE 0) (cE (.int 2))) (cE (.int 2)) (ze ixT (vE 0) (cE (.int 3))))))) [.vl (mt t lo hi),a, .vl (.int (m1:Int)),x, .vl (.int (n:Int))]= .nx [.vl (mt t lo hi),a, .vl (.int ((m1+n*n*iv (decide (lo<=2) && decide (2<=hi)):Nat):Int)),x, .vl (.int (n:Int))]:=a2
 rw [zi a2]
 generalize m1+n*n*iv (decide (lo<=2) && decide (2<=hi))=m2
 have a3:=ZL (i:=2) (VQ (v2 (t:= .int (m2:Int)) (a:= .vl (mt t lo hi)) (b:=a) (ρ:=[x, .vl (.int (n:Int))])) (WO h3 (WO h2 (WO h1 v4' v4') v4') eq3))
 exact a3
theorem VS {cs:List T->R T} {d:Nat} (hd:d+1<=3) (k:Kd) (lo hi:Nat) (h:(Kd.many k lo hi).Ok (d+1)) (H:∀ k:Kd,k.Ok d->cs [k.t]= .ok (.int (k.all.length:Int))):zu (zO (zL 8) cs (en0 5 [(Kd.many k lo hi).t]))= .ok (.int ((Kd.many k lo hi).all.length:Int)):=by
 obtain ⟨h1,h2,h3⟩:=h
 have hd0:1<=d:=by
  cases d with
  | zero=>exact h3.elim
  | succ d=>omega
 obtain ⟨c3,c2,c1⟩:=KM (UJ d k h3) hd hd0
 rw [uz,KJ _ h1 h2]
 simp only [Kd.t]
 have hk:=H k h3
 generalize k.all.length=n at*
 generalize k.t=t at*
 have e:zu (zO (zL 8) cs (en0 5 [mt t lo hi]))=zu (zO (zL 8) cs [.vl (mt t lo hi), .un, .un, .un, .un]):=rfl
 have e1:zH inC (ze ixT (vE 0) (cE (.int 0))) (zG (z0 (cE (.str "whole")) (z0 (cE (.str "pick")) (zd)))) [.vl (mt t lo hi), .un, .un, .un, .un]= .ok false:=by
  rw [in2]; rfl
 have e2:ifE (zH eqC (ze ixT (vE 0) (cE (.int 0))) (cE (.str "row"))) (Zk (jS (ze ixT (vE 0) (cE (.int 1)))) (zD 0) (ZP) (zb 1 cs (z0 (vE 0) (zd))) 1 []) (J6 (zd)) [.vl (mt t lo hi), .un, .un, .un, .un]= .ok (.lst []):=by
  unfold ifE
  rw [cs0,bOk,show (("many":Str) == "row")=false from rfl,if_neg Bool.false_ne_true]
  rfl
 have s1:([.vl (mt t lo hi), .un, .un, .un, .un]:En).set 1 (.vl (.lst []))=[.vl (mt t lo hi), .vl (.lst []), .un, .un, .un]:=rfl
 have s2:([.vl (mt t lo hi), .vl (.lst []), .un, .un, .un]:En).set 2 (.vl (.int 1))=[.vl (mt t lo hi), .vl (.lst []), .vl (.int 1), .un, .un]:=rfl
 have e3:JY (jS (vE 1)) (zD 3) (Z0 2 (ze ZD (vE 2) (vE 3))) [.vl (mt t lo hi), .vl (.lst []), .vl (.int 1), .un, .un]= .nx [.vl (mt t lo hi), .vl (.lst []), .vl (.int 1), .un, .un]:=rfl
 have e4:zH eqC (ze ixT (vE 0) (cE (.int 0))) (cE (.str "many")) [.vl (mt t lo hi), .vl (.lst []), .vl (.int 1), .un, .un]= .ok true:=by
  rw [cs0]; rfl
 have e5:zb 1 cs (z0 (ze ixT (vE 0) (cE (.int 1))) (zd)) [.vl (mt t lo hi), .vl (.lst []), .vl (.int 1), .un, .un]= .ok (.int (n:Int)):=by
  rw [ZF,yh,bOk,hk]
 have s5:([.vl (mt t lo hi), .vl (.lst []), .vl (.int 1), .un, .un]:En).set 4 (.vl (.int (n:Int)))=[.vl (mt t lo hi), .vl (.lst []), .vl (.int 1), .un, .vl (.int (n:Int))]:=rfl
 have e6:=VR (t:=t) (a:= .vl (.lst [])) (x:= .un) (lo:=lo) (hi:=hi) c3 c2 c1
 rw [e,zO,zi (zz e1),zi (ZL e2),s1,zi (ZL Zb),s2,zi e3]
 have e7:∀ (P:En->RS),ifS (zH eqC (ze ixT (vE 0) (cE (.int 0))) (cE (.str "many"))) (zE (Z0 4 (zb 1 cs (z0 (ze ixT (vE 0) (cE (.int 1))) (zd)))) P) nxS [.vl (mt t lo hi), .vl (.lst []), .vl (.int 1), .un, .un]=P [.vl (mt t lo hi), .vl (.lst []), .vl (.int 1), .un, .vl (.int (n:Int))]:=fun P=>by
  rw [JM e4,zi (ZL e5),s5]
 rw [zi (Eq.trans (e7 _) e6)]
 rfl
theorem VT:∀ (d n:Nat),d<=n->d<=3->∀ k:Kd,k.Ok d->ZX n 0 [k.t]= .ok (.int (k.all.length:Int))
 | 0,_,_,_,_,h=>h.elim
 | d+1,0,hn,_,_,_=>by omega
 | d+1,n+1,hn,hd,k,h=>by
  have e:ZX (n+1) 0 [k.t]=zu (zO (zL 8) (ZX n 0) (en0 5 [k.t])):=rfl
  rw [e]
  have H:∀ k:Kd,k.Ok d->ZX n 0 [k.t]= .ok (.int (k.all.length:Int)):=fun k' hk' =>VT d n (by omega) (by omega) k' hk'
  cases k with
  | whole lo hi=>exact Yj (.whole lo hi) (Xm d lo hi h) (x:="whole") (r:=[.int lo, .int hi]) (by simp only [Kd.t]) rfl
  | pick cs=>exact Yj (.pick cs) (Xn d cs h) (x:="pick") (r:=[.tup (cs.map vg)]) (by simp only [Kd.t]) rfl
  | row ks=>exact Xo (by omega) ks h H
  | many k lo hi=>exact VS (by omega) k lo hi h H
end G
namespace G
open PySem L2 PV
theorem Ok.mono:∀ (d:Nat) (k:Kd),k.Ok d->k.Ok (d+1)
 | 0,_,h=>h.elim
 | d+1, .whole _ _,h=>h
 | d+1, .pick _,h=>h
 | d+1, .row ks,h=>⟨h.1,h.2.1,fun k hk=>Ok.mono d k (h.2.2 k hk)⟩
 | d+1, .many k _ _,h=>⟨h.1,h.2.1,Ok.mono d k h.2.2⟩
theorem KN (j:Int):ZD (.int 700) (.int j)= .ok (.int (700*j)):=qi _ _ (.inl ⟨by decide,by decide⟩)
theorem GN (ns:List Int) (d:Nat) (h1:1<=d) (h8:d<=8) (k:Int) (h0:0<=k):∃ q:Kd,Zw 8 [scr ns, .int k, .int (d:Int)]= .ok q.t/\q.Ok d:=by
 obtain ⟨t,ht,hi⟩:=qj ns d 8 h8 h1 k h0
 obtain ⟨q,rfl,hq⟩:=qq d t hi
 exact ⟨q,ht,hq⟩
noncomputable abbrev smB:En->RS:=zE (ifS (zH leC (zb 1 (ZY 8) (z0 (vE 3) (zd))) (vB 2)) (zV (vE 3)) (nxS))
  (Z0 3 (zb 3 (Zw 8) (z0 (vE 0) (z0 (ze zx (ze zx (vE 1) (cE (.int 500))) (ze ZD (cE (.int 700)) (vE 4))) (z0 (cE (.int 2)) (zd))))))
noncomputable abbrev en5 (ns:List Int) (a:Int) (m:Nat) (k:Kd) (x:Sl):En:=[.vl (scr ns), .vl (.int a), .vl (.int (m:Int)), .vl k.t,x]
theorem VU {ns:List Int} {a:Int} {m:Nat} {k:Kd} {x:Sl} (hk:k.Ok 3):zH leC (zb 1 (ZY 8) (z0 (vE 3) (zd))) (vB 2) (en5 ns a m k x)= .ok (decide (k.all.length<=m)):=by
 have e:ZY 8 [k.t]= .ok (.int (k.all.length:Int)):=VT 3 8 (by omega) (by omega) k hk
 rw [zZ,ZF,v3,bOk,e,bOk,w2,bOk,QN,Yk]
theorem KO (ns:List Int) {a:Int} {m:Nat} (ha:0<=a) {k:Kd} (hk:k.Ok 3) (j:Nat):(k.all.length<=m/\smB (en5 ns a m k (.vl (.int (0+(j:Int)))))= .rt k.t)\/∃ k' :Kd,k'.Ok 3/\smB (en5 ns a m k (.vl (.int (0+(j:Int)))))= .nx (en5 ns a m k' (.vl (.int (0+(j:Int))))):=by
 by_cases h:k.all.length<=m
 ·refine .inl ⟨h, ?_⟩
  unfold smB
  refine zN ?_
  rw [JM (by rw [VU hk,decide_eq_true h])]
  exact zB rfl
 ·obtain ⟨q,hq,ho⟩:=GN ns 2 (by omega) (by omega) (a+500+700*(0+(j:Int))) (by omega)
  refine .inr ⟨q,Ok.mono 2 q ho, ?_⟩
  unfold smB
  rw [zi (zz (by rw [VU hk,decide_eq_false h]))]
  have hq:Zw 8 [scr ns, .int (a+500+700*(0+(j:Int))), .int 2]= .ok q.t:=hq
  have e:zb 3 (Zw 8) (z0 (vE 0) (z0 (ze zx (ze zx (vE 1) (cE (.int 500))) (ze ZD (cE (.int 700)) (vE 4))) (z0 (cE (.int 2)) (zd)))) (en5 ns a m k (.vl (.int (0+(j:Int)))))= .ok q.t:=by
   rw [jg,v0,bOk,zo,zo,v1,bOk,Zb,bOk,Zo,bOk,zo,Zb,bOk,v4,bOk,KN,bOk,Zo,bOk,Zb,bOk,hq]
  rw [ZL e]
  rfl
theorem GO {g:T->En->R En} {fb:En->RS} {t:T} {ts:List T} {ρ ρ1:En} {r:T} (hg:g t ρ= .ok ρ1) (hb:fb ρ1= .rt r):jW g fb (t :: ts) ρ= .rt r:=by
 rw [jW,hg]
 dsimp only
 rw [hb]
theorem VV (ns:List Int) {a:Int} {m:Nat} (ha:0<=a):∀ (js:List Nat) (k:Kd) (x:Sl),k.Ok 3->(∃ k' :Kd,k'.Ok 3/\k'.all.length<=m/\jW (zD 4) smB (js.map fun (j:Nat)=>T.int (0+(j:Int))) (en5 ns a m k x)= .rt k'.t)\/
  ∃ (k' :Kd) (x' :Sl),k'.Ok 3/\jW (zD 4) smB (js.map fun (j:Nat)=>T.int (0+(j:Int))) (en5 ns a m k x)= .nx (en5 ns a m k' x')
 | [],k,x,hk=> .inr ⟨k,x,hk,rfl⟩
 | j :: js,k,x,hk=>by
  have s3:zD 4 (T.int (0+(j:Int))) (en5 ns a m k x)= .ok (en5 ns a m k (.vl (.int (0+(j:Int))))):=rfl
  rw [List.map_cons]
  rcases KO ns ha (m:=m) hk j with ⟨h1,h2⟩ | ⟨k',h1,h2⟩
  ·exact .inl ⟨k,hk,h1,GO s3 h2⟩
  ·rw [U0 s3 h2]
   exact VV ns ha js k' _ h1
theorem Xp (ns:List Int) (a:Int) (ha:0<=a) (m:Nat) (hm:4<=m):∃ k:Kd,k.Ok 3/\k.all.length<=m/\j8 [scr ns, .int a, .int (m:Int)]= .ok k.t:=by
 obtain ⟨q,hq,ho⟩:=GN ns 3 (by omega) (by omega) a ha
 have hq:Zw 8 [scr ns, .int a, .int 3]= .ok q.t:=hq
 have e:j8 [scr ns, .int a, .int (m:Int)]=zu (Js (Zw 8) (ZY 8) [.vl (scr ns), .vl (.int a), .vl (.int (m:Int)), .un, .un]):=rfl
 have e1:zb 3 (Zw 8) (z0 (vE 0) (z0 (vE 1) (z0 (cE (.int 3)) (zd)))) [.vl (scr ns), .vl (.int a), .vl (.int (m:Int)), .un, .un]= .ok q.t:=by
  rw [jg,v0,bOk,v1,bOk,Zb,bOk,hq]
 have s1:([.vl (scr ns), .vl (.int a), .vl (.int (m:Int)), .un, .un]:En).set 3 (.vl q.t)=en5 ns a m q .un:=rfl
 rw [e,Js,zi (ZL e1),s1]
 rcases VV ns ha (m:=m) (List.range 3) q .un ho with ⟨k,h1,h2,h3⟩ | ⟨k,x,h1,h3⟩
 ·refine ⟨k,h1,h2, ?_⟩
  have e2:JY (jM (cE (.int 3))) (zD 4) smB (en5 ns a m q .un)= .rt k.t:=h3
  rw [zN e2]
  rfl
 ·have e2:JY (jM (cE (.int 3))) (zD 4) smB (en5 ns a m q .un)= .nx (en5 ns a m k x):=h3
  rw [zi e2]
  have ec:zH leC (zb 1 (ZY 8) (z0 (vE 3) (zd))) (vB 2) (frz (en5 ns a m k x))= .ok (decide (k.all.length<=m)):=VU (x:=um x) h1
  by_cases h:k.all.length<=m
  ·refine ⟨k,h1,h, ?_⟩
   rw [zB (t:=k.t)]
   ·rfl
   ·unfold ifE
    rw [ec,bOk,decide_eq_true h,if_pos rfl]
    rfl
  ·refine ⟨.whole (-1) 2,⟨by omega,by omega,by omega⟩,by rw [uZ]; exact hm, ?_⟩
   rw [zB (t:=(Kd.whole (-1) 2).t)]
   ·rfl
   ·unfold ifE
    rw [ec,bOk,decide_eq_false h,if_neg Bool.false_ne_true,Kd.t]
    rfl
end G
namespace G
open PySem L2 PV
mutual
noncomputable def Kd.has:Kd->T->Bool
 | .whole lo hi=>fun t=>inR lo hi t
 | .pick cs=>fun t=>match t with | .str x=>cs.any fun c=>c.1 == x | _=>false
 | .row ks=>fun t=>match t with | .tup xs=>xs.length == ks.length && Kd.hass ks xs | _=>false
 | .many k lo hi=>fun t=>match t with | .tup xs=>decide (lo<=xs.length) && decide (xs.length<=hi) && xs.all k.has | _=>false
noncomputable def Kd.hass:List Kd->List T->Bool
 | []=>fun _=>true
 | k :: ks=>fun xs=>match xs with | []=>true | x :: xs=>k.has x && Kd.hass ks xs
end
noncomputable def QV:List (List T)->List T->Prop
 | [],[]=>True
 | l :: ls,x :: xs=>x∈l/\QV ls xs
 | _,_=>False
theorem U1:∀ (ls made:List (List T)) (xs:List T),xs∈Uv made ls↔∃ a∈made,∃ b,QV ls b/\xs=a++b
 | [],made,xs=>by
  rw [Uv]
  constructor
  ·exact fun h=>⟨xs,h,[],trivial,by simp⟩
  ·rintro ⟨a,ha,b,hb,rfl⟩
   cases b with
   | nil=>simpa using ha
   | cons=>exact hb.elim
 | l :: ls,made,xs=>by
  rw [Uv,U1 ls]
  constructor
  ·rintro ⟨a',ha',b,hb,rfl⟩
   obtain ⟨a,ha,hx⟩:=List.mem_flatMap.mp ha'
   obtain ⟨x,hl,e⟩:=List.mem_map.mp hx
   exact ⟨a,ha,x :: b,⟨hl,hb⟩,by rw [← e]; simp⟩
  ·rintro ⟨a,ha,b,hb,rfl⟩
   cases b with
   | nil=>exact hb.elim
   | cons x b=>exact ⟨a++[x],List.mem_flatMap.mpr ⟨a,ha,List.mem_map.mpr ⟨x,hb.1,rfl⟩⟩,b,hb.2,by simp⟩
theorem yi (ls:List (List T)) (t:T):t∈qr ls↔∃ xs,QV ls xs/\t= .tup xs:=by
 unfold qr
 rw [List.mem_map]
 constructor
 ·rintro ⟨xs,h,rfl⟩
  obtain ⟨a,ha,b,hb,rfl⟩:=(U1 ls [[]] xs).mp h
  rw [List.mem_singleton.mp ha]
  exact ⟨b,hb,rfl⟩
 ·rintro ⟨xs,h,rfl⟩
  exact ⟨xs,(U1 ls [[]] xs).mpr ⟨[],List.mem_singleton.mpr rfl,xs,h,rfl⟩,rfl⟩
theorem yj (l:List T):∀ (m:Nat) (xs:List T),QV (List.replicate m l) xs↔xs.length=m/\∀ x∈xs,x∈l
 | 0,[]=>by simp [QV]
 | 0,x :: xs=>by simp [QV]
 | m+1,[]=>by simp [QV,List.replicate_succ]
 | m+1,x :: xs=>by
  rw [List.replicate_succ]
  show x∈l/\QV _ xs↔_
  rw [yj l m xs]
  simp
  constructor
  ·rintro ⟨a,b,c⟩; exact ⟨b,a,c⟩
  ·rintro ⟨a,b,c⟩; exact ⟨b,a,c⟩
theorem Yl:∀ (ks:List Kd),(∀ k∈ks,∀ x,x∈k.all↔k.has x=true)->∀ xs,QV (ks.map Kd.all) xs↔(xs.length == ks.length && Kd.hass ks xs)=true
 | [],_,[]=>by simp [QV,Kd.hass]
 | [],_,x :: xs=>by simp [QV]
 | k :: ks,h,[]=>by simp [QV]
 | k :: ks,h,x :: xs=>by
  show x∈k.all/\QV (ks.map Kd.all) xs↔_
  rw [Yl ks (fun k' hk' =>h k' (List.mem_cons_of_mem _ hk')) xs,h k List.mem_cons_self x]
  simp [Kd.hass]
  constructor
  ·rintro ⟨a,b,c⟩; exact ⟨b,a,c⟩
  ·rintro ⟨a,b,c⟩; exact ⟨b,a,c⟩
mutual
theorem yk:∀ (k:Kd) (x:T),x∈k.all↔k.has x=true
 | .whole lo hi,x=>by
  rw [Kd.all,Kd.has,List.mem_map]
  constructor
  ·rintro ⟨i,hi',rfl⟩
   rw [List.mem_range] at hi'
   simp [inR]; omega
  ·intro h
   obtain ⟨i,rfl⟩:=Kz h
   simp [inR] at h
   exact ⟨(i - lo).toNat,by rw [List.mem_range]; omega,by congr 1; omega⟩
 | .pick cs,x=>by
  rw [Kd.all,Kd.has,List.mem_map]
  constructor
  ·rintro ⟨c,hc,rfl⟩
   simp only [List.any_eq_true]
   exact ⟨c,hc,by simp⟩
  ·intro h
   dsimp only at h
   split at h
   ·rw [List.any_eq_true] at h
    obtain ⟨c,hc,e⟩:=h
    exact ⟨c,hc,by rw [eq_of_beq e]⟩
   ·cases h
 | .row ks,x=>by
  rw [Kd.all,Kd.has,yi,Kd.alls_map]
  have:=Yl ks (Qg ks)
  constructor
  ·rintro ⟨xs,h,rfl⟩
   exact (this xs).mp h
  ·intro h
   dsimp only at h
   split at h
   ·rename_i xs
    exact ⟨xs,(this xs).mpr h,rfl⟩
   ·cases h
 | .many k lo hi,x=>by
  rw [Kd.all,Kd.has,List.mem_flatMap]
  constructor
  ·rintro ⟨i,hi',h⟩
   rw [yi] at h
   obtain ⟨xs,h,rfl⟩:=h
   rw [yj] at h
   rw [List.mem_range] at hi'
   simp only [Bool.and_eq_true,decide_eq_true_eq,List.all_eq_true]
   exact ⟨⟨by omega,by omega⟩,fun y hy=>(yk k y).mp (h.2 y hy)⟩
  ·intro h
   dsimp only at h
   split at h
   ·rename_i xs
    simp only [Bool.and_eq_true,decide_eq_true_eq,List.all_eq_true] at h
    refine ⟨xs.length - lo,by rw [List.mem_range]; omega, ?_⟩
    rw [yi]
    exact ⟨xs,(yj _ _ _).mpr ⟨by omega,fun y hy=>(yk k y).mpr (h.2 y hy)⟩,rfl⟩
   ·cases h
theorem Qg:∀ (ks:List Kd),∀ k∈ks,∀ x,x∈k.all↔k.has x=true
 | [],_,h=>nomatch h
 | k :: ks,k',h=>by
  rcases List.mem_cons.mp h with e | h
  ·intro x
   rw [e]
   exact yk k x
  ·exact Qg ks k' h
end
end G
namespace G
open PySem L2 PV
theorem Qh {α:Type} (p:α->Bool):∀ qs:List α,qU (qs.map fun q=>T.bl (p q))=some (qs.all p)
 | []=>rfl
 | q :: qs=>by
  have e:qU ((q :: qs).map fun q=>T.bl (p q))=match qU (qs.map fun q=>T.bl (p q)) with | some j=>some (p q && j) | none=>none:=rfl
  rw [e,Qh p qs]
  rfl
end G
namespace G
open PySem L2 PV
noncomputable abbrev en2 (a b:T):En:=[.vl a, .vl b]
end G
namespace G
open PySem L2 PV
theorem Qi:∀ (ks:List Kd) (xs:List T),xs.length=ks.length->Kd.hass ks xs=true->∀ x∈xs,∃ k∈ks,k.has x=true
 | [],[],_,_,_,h=>nomatch h
 | k :: ks,[],h,_,_,_=>by cases h
 | [],x :: xs,h,_,_,_=>by cases h
 | k :: ks,x :: xs,hl,h,y,hy=>by
  rw [Kd.hass] at h
  have h:(k.has x && Kd.hass ks xs)=true:=h
  rw [Bool.and_eq_true] at h
  rcases List.mem_cons.mp hy with rfl | hy
  ·exact ⟨k,List.mem_cons_self,h.1⟩
  ·obtain ⟨k',hk,hh⟩:=Qi ks xs (by simpa using hl) h.2 y hy
   exact ⟨k',List.mem_cons_of_mem _ hk,hh⟩
theorem GP {f g:En->RS} {ρ:En} {c:Nat} (h:f ρ= .ex c):zE f g ρ= .ex c:=by rw [zR,h]
end G
namespace G
open PySem L2 PV
theorem GQ {α:Type} {xs:List α} {i:Nat} (h:i < xs.length):∃ x,xs[i]? =some x:=⟨_,List.getElem?_eq_getElem h⟩
end G
namespace G
open PySem L2 PV
theorem UU (k:Kd) (m:Nat):((List.replicate m k).map fun k=>k.all.length)=List.replicate m k.all.length:=by rw [List.map_replicate]
end G
namespace G
open PySem L2 PV
theorem GR {n c:Nat} (h:1<=c):wx (.int (n:Int)) (.int (c:Int))= .ok (.int ((n % c:Nat):Int)):=by
 unfold wx; dsimp only; rw [if_pos (by omega)]; rfl
end G
namespace G
open PySem L2 PV
end G
namespace G
open PySem L2 PV
end G
namespace G
open PySem L2 PV
end G
namespace G
open PySem L2 PV
noncomputable def Pl:Nat->T->Prop
 | 0,_=>False
 | n+1, .tup xs=>∀ x∈xs,Pl n x
 | n+1, .lst xs=>∀ x∈xs,Pl n x
 | _+1, .fz _=>False
 | _+1,_=>True
theorem uA {f:T->T->Option Bool}:∀ (xs ys:List T),(∀ x∈xs,∀ y,∃ b,f x y=some b)->∃ b,eqL f xs ys=some b
 | [],[],_=>⟨_,rfl⟩
 | [],_ :: _,_=>⟨_,rfl⟩
 | _ :: _,[],_=>⟨_,rfl⟩
 | x :: xs,y :: ys,h=>by
  obtain ⟨b,hb⟩:=h x List.mem_cons_self y
  obtain ⟨c,hc⟩:=uA xs ys fun z hz=>h z (List.mem_cons_of_mem _ hz)
  exact ⟨b && c,by unfold eqL; rw [hb,hc]⟩
theorem jv {f:T->T->Option Bool}:∀ (xs:List T),(∀ x∈xs,f x x=some true)->eqL f xs xs=some true
 | [],_=>rfl
 | x :: xs,h=>by
  unfold eqL
  rw [h x List.mem_cons_self,jv xs fun z hz=>h z (List.mem_cons_of_mem _ hz)]
  rfl
theorem uB:∀ (n:Nat) (y x:T),Pl n y->∃ b,eqF n y x=some b
 | 0,_,_,h=>h.elim
 | n+1,y,x,h=>by
  cases y with
  | tup xs=>
   have h:∀ x∈xs,Pl n x:=h
   cases x with
   | tup ys=>rw [eqF]; exact uA xs ys fun z hz u=>uB n z u (h z hz)
   | _=>exact ⟨false,by rw [eqF] <;> intros <;> first | rfl | contradiction | (intro z; cases z)⟩
  | lst xs=>
   have h:∀ x∈xs,Pl n x:=h
   cases x with
   | lst ys=>rw [eqF]; exact uA xs ys fun z hz u=>uB n z u (h z hz)
   | fz ys=>rw [eqF]; exact uA xs ys fun z hz u=>uB n z u (h z hz)
   | _=>exact ⟨false,by rw [eqF] <;> intros <;> first | rfl | contradiction | (intro z; cases z)⟩
  | fz xs=>exact h.elim
  | non=>cases x <;> exact ⟨_,rfl⟩
  | bl b=>cases x <;> exact ⟨_,rfl⟩
  | int i=>cases x <;> exact ⟨_,rfl⟩
  | str i=>cases x <;> exact ⟨_,rfl⟩
theorem ZU:∀ (n:Nat) (y:T),Pl n y->eqF n y y=some true
 | 0,_,h=>h.elim
 | n+1,y,h=>by
  cases y with
  | tup xs=>rw [eqF]; exact jv xs fun z hz=>ZU n z ((show ∀ x∈xs,Pl n x from h) z hz)
  | lst xs=>rw [eqF]; exact jv xs fun z hz=>ZU n z ((show ∀ x∈xs,Pl n x from h) z hz)
  | fz xs=>exact h.elim
  | non=>rfl
  | bl b=>show some (b == b)=_; simp
  | int i=>show some (i == i)=_; simp
  | str i=>show some (i == i)=_; simp
theorem Pl.up:∀ (n:Nat) (y:T),Pl n y->Pl (n+1) y
 | 0,_,h=>h.elim
 | n+1,y,h=>by
  cases y with
  | tup xs=>exact fun z hz=>Pl.up n z ((show ∀ x∈xs,Pl n x from h) z hz)
  | lst xs=>exact fun z hz=>Pl.up n z ((show ∀ x∈xs,Pl n x from h) z hz)
  | fz xs=>exact h.elim
  | _=>exact trivial
theorem Pl.le {n m:Nat} {y:T} (hm:n<=m) (h:Pl n y):Pl m y:=by
 obtain ⟨j,rfl⟩:∃ j,m=n+j:=⟨m - n,by omega⟩
 clear hm
 induction j with
 | zero=>exact h
 | succ j ih=>exact Pl.up _ _ ih
theorem Xq {t:T} (h:Pl 30 t):eqC t t= .ok true:=by unfold eqC; rw [ZU 30 t h]
theorem Ym {f:T->Option Bool}:∀ (ts:List T),(∀ t∈ts,∃ b,f t=some b)->∃ b,UW f ts=some b/\(b=false->∀ t∈ts,f t=some false)
 | [],_=>⟨false,rfl,fun _ _ h=>nomatch h⟩
 | t :: ts,h=>by
  obtain ⟨b,hb⟩:=h t List.mem_cons_self
  obtain ⟨c,hc,h'⟩:=Ym ts fun u hu=>h u (List.mem_cons_of_mem _ hu)
  refine ⟨b || c,by unfold UW; rw [hb,hc],fun e u hu=> ?_⟩
  rw [Bool.or_eq_false_iff] at e
  rcases List.mem_cons.mp hu with rfl | hu
  ·rw [hb,e.1]
  ·exact h' e.2 u hu
theorem KP {f:En->R T} {ρ:En} {t:T} (h:f ρ= .ok t):V8 f ρ= .nx ρ:=by unfold V8; rw [h,jL]
theorem VW {f:En->R T} {ρ:En} {j:Int} (hf:f ρ= .ok (.int j)) (h: -1000000 < j/\j < 1000000):jM f ρ= .ok (rng 0 j.toNat):=by
 unfold jM
 rw [hf,bOk]
 exact if_pos h
theorem GS {i j:Int}:gtC (.int i) (.int j)= .ok (decide (j < i)):=rfl
end G
namespace G
open PySem L2 PV
inductive W:Nat->T->Prop where
 | int (d:Nat) (i:Int):W d (.int i)
 | str (d:Nat) (s:Str):W d (.str s)
 | tup {d:Nat} {xs:List T} (h:xs.length<=3) (r:∀ x∈xs,W d x):W (d+1) (.tup xs)
theorem z1h:∀ (d:Nat) (k:Kd) (x:T),k.Ok (d+1)->k.has x=true->W d x
 | d, .whole lo hi,x,_,h=>by
  cases x <;> first | exact .int _ _ | (simp [Kd.has,inR] at h)
 | d, .pick cs,x,_,h=>by
  cases x <;> first | exact .str _ _ | (simp [Kd.has] at h)
 | 0, .row ks,x,hk,h=>by
  obtain ⟨h1,h3,hk⟩:=hk
  match ks,h1,hk with
  | k :: _,_,hk=>exact (hk k List.mem_cons_self).elim
 | 0, .many k lo hi,x,hk,h=>hk.2.2.elim
 | d+1, .row ks,x,hk,h=>by
  obtain ⟨h1,h3,hk⟩:=hk
  cases x with
  | tup xs=>
   rw [Kd.has] at h
   simp only [Bool.and_eq_true,beq_iff_eq] at h
   obtain ⟨hl,hh⟩:=h
   refine .tup (by omega) fun x hx=> ?_
   obtain ⟨k,hm,hx'⟩:=Qi ks xs hl hh x hx
   exact z1h d k x (hk k hm) hx'
  | _=>simp [Kd.has] at h
 | d+1, .many k lo hi,x,hk,h=>by
  obtain ⟨h1,h3,hk⟩:=hk
  cases x with
  | tup xs=>
   rw [Kd.has] at h
   simp only [Bool.and_eq_true,decide_eq_true_eq,List.all_eq_true] at h
   obtain ⟨⟨hl,hl'⟩,hh⟩:=h
   refine .tup (by omega) fun x hx=> ?_
   exact z1h d k x hk (hh x hx)
  | _=>simp [Kd.has] at h
mutual
noncomputable def lv:T->List T
 | .tup xs=>lvs xs
 | .non=>[.non]
 | .bl b=>[.bl b]
 | .int b=>[.int b]
 | .str b=>[.str b]
 | .lst b=>[.lst b]
 | .fz b=>[.fz b]
noncomputable def lvs:List T->List T
 | []=>[]
 | x :: xs=>lv x++lvs xs
end
theorem Qj (xs:List T):lv (.tup xs)=lvs xs:=by rw [lv]
theorem Qk (i:Int):lv (.int i)=[.int i]:=by rw [lv]
theorem Ql (i:Str):lv (.str i)=[.str i]:=by rw [lv]
theorem uC (x:T) (xs:List T):lvs (x :: xs)=lv x++lvs xs:=by rw [lvs]
theorem yl:lvs []=[]:=by rw [lvs]
theorem VX {n:Nat}:∀ xs:List T,(∀ x∈xs,(lv x).length<=n)->(lvs xs).length<=xs.length*n
 | [],_=>by rw [yl]; exact Nat.zero_le _
 | x :: xs,h=>by
  rw [uC,List.length_append,List.length_cons,Nat.succ_mul]
  have h1:=h x List.mem_cons_self
  have h2:=VX xs fun y hy=>h y (List.mem_cons_of_mem _ hy)
  omega
theorem pow3 (d:Nat):1<=3 ^ d:=Nat.one_le_pow _ _ (by omega)
theorem VY {d:Nat} {x:T} (h:W d x):(lv x).length<=3 ^ d:=by
 induction h with
 | int d i=>rw [Qk]; exact pow3 d
 | str d i=>rw [Ql]; exact pow3 d
 | @tup d xs h r ih=>
  rw [Qj]
  have:=VX (n:=3 ^ d) xs ih
  have h3:=Nat.mul_le_mul_right (3 ^ d) h
  rw [Nat.pow_succ]
  omega
inductive Lf:T->Prop where
 | int (i:Int):Lf (.int i)
 | str (i:Str):Lf (.str i)
theorem ki:∀ (xs:List T),(∀ x∈xs,∀ y∈lv x,Lf y)->∀ y∈lvs xs,Lf y
 | [],_,y,hy=>by rw [yl] at hy; cases hy
 | x :: xs,h,y,hy=>by
  rw [uC] at hy
  rcases List.mem_append.mp hy with hy | hy
  ·exact h x List.mem_cons_self y hy
  ·exact ki xs (fun z hz=>h z (List.mem_cons_of_mem _ hz)) y hy
theorem z1i {d:Nat} {x:T} (h:W d x):∀ y∈lv x,Lf y:=by
 induction h with
 | int d i=>intro y hy; rw [Qk] at hy; rw [List.mem_singleton.mp hy]; exact .int _
 | str d i=>intro y hy; rw [Ql] at hy; rw [List.mem_singleton.mp hy]; exact .str _
 | @tup d xs h r ih=>intro y hy; rw [Qj] at hy; exact ki xs ih y hy
theorem GT {i:Nat} {f:En->R T} {ρ:En} {ts us:List T} (hi:ρ[i]? =some (.ow ts)) (h:f ρ= .ok (.lst us)) (hl:ts.length+us.length<=bnd):YZ i f ρ= .nx (ρ.set i (.ow (ts++us))):=by
 unfold YZ
 rw [hi]
 dsimp only
 rw [h,jL]
 dsimp only
 rw [if_pos hl]
noncomputable abbrev loB (c:List T->R T):En->RS:=YZ 1 (zb 1 c (z0 (vE 2) (zd)))
theorem VZ {c:List T->R T} {n:Nat} (hn:n<=1000) {a:Sl}:∀ (xs:List T) (acc:List T) (x:Sl),(∀ x∈xs,c [x]= .ok (.lst (lv x))/\(lv x).length<=n)->acc.length+xs.length*n<=1000000->
  ∃ x',jW (zD 2) (loB c) xs [a, .ow acc,x]= .nx [a, .ow (acc++lvs xs),x']
 | [],acc,x,_,_=>⟨x,by rw [yl,List.append_nil]; rfl⟩
 | y :: xs,acc,x,H,hb=>by
  obtain ⟨e,hl⟩:=H y List.mem_cons_self
  rw [List.length_cons,Nat.succ_mul] at hb
  have hB:bnd=16777216:=rfl
  obtain ⟨x',h⟩:=VZ hn (a:=a) xs (acc++lv y) (.vl y) (fun z hz=>H z (List.mem_cons_of_mem _ hz)) (by rw [List.length_append]; omega)
  refine ⟨x', ?_⟩
  have s2:zD 2 y [a, .ow acc,x]= .ok [a, .ow acc, .vl y]:=rfl
  have b2:loB c [a, .ow acc, .vl y]= .nx [a, .ow (acc++lv y), .vl y]:=by
   have z:zb 1 c (z0 (vE 2) (zd)) [a, .ow acc, .vl y]= .ok (.lst (lv y)):=by rw [ZF,v2,bOk,e]
   exact GT (i:=1) (ts:=acc) (us:=lv y) rfl z (by omega)
  rw [U0 s2 b2,h,uC,List.append_assoc]
theorem UK {x:T} {r:En}:JV (jk (ap1 (Jc "tuple") (vB 0))) (.vl x :: r)= .ok (!(match x with | .tup _=>true | _=>false)):=by
 rw [wn,JC,jH,w0,bOk,Vt,bOk,W6,bOk]
 all_goals (cases x <;> rfl)
theorem U2:∀ (n d:Nat),d < n->d<=3->∀ x:T,W d x->ZZ n 0 [x]= .ok (.lst (lv x))
 | 0,d,h,_,_,_=>absurd h (Nat.not_lt_zero _)
 | n+1,d,h,h3,x,hx=>by
  show zu (wg (ZZ n 0) [.vl x, .un, .un])=_
  rw [wg]
  cases hx with
  | int d i=>
   rw [zN (by rw [JM UK]; exact zB (GK v0)),Qk]
   rfl
  | str d i=>
   rw [zN (by rw [JM UK]; exact zB (GK v0)),Ql]
   rfl
  | @tup d xs hl r=>
   have hp:3 ^ d<=27:=Nat.pow_le_pow_right (n:=3) (by omega) (show d<=3 by omega)
   obtain ⟨x',el⟩:=VZ (c:=ZZ n 0) (n:=3 ^ d) (by omega) (a:= .vl (.tup xs)) xs [] .un (fun y hy=>⟨U2 n d (by omega) (by omega) y (r y hy),VY (r y hy)⟩) (by have:=Nat.mul_le_mul hl hp; simp; omega)
   have e1:YY 1 zd [.vl (.tup xs), .un, .un]= .nx [.vl (.tup xs), .ow [], .un]:=rfl
   have e2:JY (jS (vE 0)) (zD 2) (loB (ZZ n 0)) [.vl (.tup xs), .ow [], .un]= .nx [.vl (.tup xs), .ow ([]++lvs xs),x']:=by
    unfold JY
    rw [jT,v0,bOk]
    exact el
   rw [zi (zz UK),zi e1,zi e2,List.nil_append,Qj]
   rfl
noncomputable abbrev llB (c:List T->R T):En->RS:=Z0 1 (ze zx (vE 1) (zb 1 c (z0 (vE 2) (zd))))
theorem GU {xs ys:List T} (h:xs.length+ys.length<=1000000):zx (.lst xs) (.lst ys)= .ok (.lst (xs++ys)):=by
 unfold zx
 dsimp only
 rw [if_pos (by have hB:bnd=16777216:=rfl; omega)]
theorem x3 {c:List T->R T} {n:Nat} (hn:n<=1000) {a:Sl}:∀ (xs:List T) (acc:List T) (x:Sl),(∀ x∈xs,c [x]= .ok (.lst (lv x))/\(lv x).length<=n)->acc.length+xs.length*n<=1000000->
  ∃ x',jW (zD 2) (llB c) xs [a, .vl (.lst acc),x]= .nx [a, .vl (.lst (acc++lvs xs)),x']
 | [],acc,x,_,_=>⟨x,by rw [yl,List.append_nil]; rfl⟩
 | y :: xs,acc,x,H,hb=>by
  obtain ⟨e,hl⟩:=H y List.mem_cons_self
  rw [List.length_cons,Nat.succ_mul] at hb
  obtain ⟨x',h⟩:=x3 hn (a:=a) xs (acc++lv y) (.vl y) (fun z hz=>H z (List.mem_cons_of_mem _ hz)) (by rw [List.length_append]; omega)
  refine ⟨x', ?_⟩
  have s2:zD 2 y [a, .vl (.lst acc),x]= .ok [a, .vl (.lst acc), .vl y]:=rfl
  have b2:llB c [a, .vl (.lst acc), .vl y]= .nx [a, .vl (.lst (acc++lv y)), .vl y]:=by
   have z:ze zx (vE 1) (zb 1 c (z0 (vE 2) (zd))) [a, .vl (.lst acc), .vl y]= .ok (.lst (acc++lv y)):=by rw [zo,v1,bOk,ZF,v2,bOk,e,bOk,GU (by omega)]
   exact ZL (i:=1) z
  rw [U0 s2 b2,h,uC,List.append_assoc]
theorem Qm:∀ (n d:Nat),d < n->d<=3->∀ x:T,W d x->Zy n 0 [x]= .ok (.lst (lv x))
 | 0,d,h,_,_,_=>absurd h (Nat.not_lt_zero _)
 | n+1,d,h,h3,x,hx=>by
  show zu (jZ (Zy n 0) [.vl x, .un, .un])=_
  rw [jZ]
  cases hx with
  | int d i=>
   rw [zN (by rw [JM UK]; exact zB (GK v0)),Qk]
   rfl
  | str d i=>
   rw [zN (by rw [JM UK]; exact zB (GK v0)),Ql]
   rfl
  | @tup d xs hl r=>
   have hp:3 ^ d<=27:=Nat.pow_le_pow_right (n:=3) (by omega) (show d<=3 by omega)
   obtain ⟨x',el⟩:=x3 (c:=Zy n 0) (n:=3 ^ d) (by omega) (a:= .vl (.tup xs)) xs [] .un (fun y hy=>⟨Qm n d (by omega) (by omega) y (r y hy),VY (r y hy)⟩) (by have:=Nat.mul_le_mul hl hp; simp; omega)
   have e1:Z0 1 (J6 zd) [.vl (.tup xs), .un, .un]= .nx [.vl (.tup xs), .vl (.lst []), .un]:=rfl
   have e2:JY (jS (vE 0)) (zD 2) (llB (Zy n 0)) [.vl (.tup xs), .vl (.lst []), .un]= .nx [.vl (.tup xs), .vl (.lst ([]++lvs xs)),x']:=by
    unfold JY
    rw [jT,v0,bOk]
    exact el
   rw [zi (zz UK),zi e1,zi e2,List.nil_append,Qj]
   rfl
end G
namespace G
open PySem L2 PV
theorem w6 {ft:En->R Bool} {p:T->Bool} {k:Nat} {js:List Nat} {ρ:En} {fe:En->R T} (ts:List T) (hl:ts.length<=bnd) (H:∀ t∈ts,ft ((yG k js ρ).set 0 (.vl t))= .ok (p t)/\fe ((yG k js ρ).set 0 (.vl t))= .ok t):Z3 (zD 0) ft fe k js ρ ts= .ok (ts.filter p):=by
 unfold Z3
 rw [if_pos hl,JA (p:=p) (h:=id) ts _ fun t ht=>⟨(H t ht).1,fun _=>(H t ht).2⟩,List.map_id]
 rfl
noncomputable def Jm:List T->List Int
 | []=>[]
 | .int i :: r=>i :: Jm r
 | .non :: r=>Jm r
 | .bl _ :: r=>Jm r
 | .str _ :: r=>Jm r
 | .tup _ :: r=>Jm r
 | .lst _ :: r=>Jm r
 | .fz _ :: r=>Jm r
theorem U3:∀ ts:List T,ts.filter isW=(Jm ts).map T.int
 | []=>rfl
 | t :: ts=>by
  have ih:=U3 ts
  rw [List.filter_cons,ih]
  cases t <;> rfl
theorem qt:∀ is:List Int,wm (is.map T.int)=some is
 | []=>rfl
 | i :: is=>by
  have e:wm ((i :: is).map T.int)=match wm (is.map T.int) with | some l=>some (i :: l) | none=>none:=rfl
  rw [e,qt is]
theorem ym:∀ ts:List T,(Jm ts).length<=ts.length
 | []=>Nat.le_refl _
 | t :: ts=>by
  have ih:=ym ts
  cases t <;> simp only [Jm,List.length_cons] <;> omega
theorem w9 {d:Nat} {x:T} (hd:d<=2) (h:W d x):(lv x).length<=9:=Nat.le_trans (VY h) (Nat.pow_le_pow_right (n:=3) (by omega) hd)
theorem QW {d:Nat} (hd:d<=2) {x:T} (h:W d x):Jy [x]= .ok (.lst ((Jm (lv x)).map T.int)):=by
 show zu (Jx jp (j0 8) [.vl x])=_
 have hl:=w9 hd h
 have ec:Z3 (zD 0) (jk (zb 1 jp (z0 (vE 0) (zd)))) (vE 0) 1 [] [.vl x] (lv x)= .ok ((lv x).filter isW):=
  w6 _ (by have hB:bnd=16777216:=rfl; omega) fun t _=>⟨by
   show jk _ [.vl t]=_
   rw [JC,ZF,v0,bOk,Q3,bOk,W6],rfl⟩
 rw [Jx,zB (t:= .lst ((Jm (lv x)).map T.int))]
 ·rfl
 ·show Zk _ _ _ _ _ _ [.vl x]=_
  have hv:j0 8 [x]= .ok (.lst (lv x)):=U2 8 d (by omega) (by omega) x h
  rw [Zn,jT,ZF,v0,bOk,hv,bOk]
  show ((Z3 _ _ _ _ _ _ (lv x)).bind _)=_
  rw [ec,bOk,U3]
noncomputable def asc (is:List Int):Bool:=(is.zip (is.drop 1)).all fun q=>decide (q.1<=q.2)
theorem x6:∀ (qs:List (Int×Int)) (x y:Sl),Z9 (jF 0 1) ZP (jR leC (vB 0) (vB 1)) (qs.map fun q=>T.tup [.int q.1, .int q.2]) [x,y]= .ok (qs.map fun q=>T.bl (decide (q.1<=q.2)))
 | [],_,_=>rfl
 | q :: qs,x,y=>by
  have ih:=x6 qs (.vl (.int q.1)) (.vl (.int q.2))
  have e0:Z9 (jF 0 1) ZP (jR leC (vB 0) (vB 1)) ((q :: qs).map fun q=>T.tup [.int q.1, .int q.2]) [x,y]=
   (R.ok (T.bl (decide (q.1<=q.2)))).bind fun v=>(Z9 (jF 0 1) ZP (jR leC (vB 0) (vB 1)) (qs.map fun q=>T.tup [.int q.1, .int q.2]) [.vl (.int q.1), .vl (.int q.2)]).bind fun vs=> .ok (v :: vs):=rfl
  rw [e0,bOk,ih,bOk,List.map_cons]
theorem KQ (xs:List T):cut xs (some ((1:Nat):Int)) none=xs.drop 1:=by
 unfold cut
 rw [HT.sIx_nat,HT.sIx_none]
 by_cases h:1<=xs.length
 ·rw [Nat.min_eq_left h,List.take_of_length_le (by rw [List.length_drop]; omega)]
 ·have:xs=[]:=List.length_eq_zero_iff.mp (by omega)
  subst this; rfl
theorem x8 (is:List Int) (hl:is.length<=100):Jw [.lst (is.map T.int)]= .ok (.bl (asc is)):=by
 show zu (Jv [.vl (.lst (is.map T.int))])=_
 have hz:z11 (vE 0) (slE (vE 0) (ZJ (cE (.int 1))) (noO)) [.vl (.lst (is.map T.int))]= .ok ((is.zip (is.drop 1)).map fun q=>T.tup [.int q.1, .int q.2]):=by
  show R.ok (X0 (is.map T.int) (cut (is.map T.int) (some ((1:Nat):Int)) none))=_
  rw [KQ,← List.map_drop]
  unfold X0
  rw [List.zip_map,List.map_map]
  rfl
 have ec:Z3 (jF 0 1) ZP (jR leC (vB 0) (vB 1)) 2 [] [.vl (.lst (is.map T.int))] ((is.zip (is.drop 1)).map fun q=>T.tup [.int q.1, .int q.2])= .ok ((is.zip (is.drop 1)).map fun q=>T.bl (decide (q.1<=q.2))):=by
  unfold Z3
  rw [if_pos (by rw [List.length_map,List.length_zip]; have hB:bnd=16777216:=rfl; omega)]
  show quiet (Z9 _ _ _ _ [.un, .un])=_
  rw [x6]
  rfl
 rw [Jv,zB (t:= .bl (asc is))]
 ·rfl
 ·show ap1 gj _ [.vl (.lst (is.map T.int))]=_
  rw [jH,Zn,hz,bOk,ec,bOk,bOk]
  show (match qU _ with | some k=>R.ok (T.bl k) | none=> .bad)=_
  rw [Qh (fun q:Int×Int=>decide (q.1<=q.2))]
  rfl
theorem jI (x y:Int) (r:List Int):asc (x :: y :: r)=(decide (x<=y) && asc (y :: r)):=by
 unfold asc
 rw [List.drop_succ_cons,List.drop_zero,List.zip_cons_cons,List.all_cons,List.drop_succ_cons,List.drop_zero]
theorem x9 (x:Int):∀ l:List Int,asc l=true->asc (qe x l)=true/\∀ y,(∀ z∈l,y<=z)->y<=x->∀ z∈qe x l,y<=z
 | [],_=>⟨rfl,fun y _ h z hz=>by rw [qe] at hz; rw [List.mem_singleton.mp hz]; exact h⟩
 | [a],_=>by
  rw [qe]
  split
  ·rename_i h
   exact ⟨by rw [jI,decide_eq_true h]; rfl,fun y h1 h2 z hz=>by
    rcases List.mem_cons.mp hz with rfl | hz
    ·exact h2
    ·exact h1 z hz⟩
  ·rename_i h
   rw [qe]
   exact ⟨by rw [jI,decide_eq_true (by omega)]; rfl,fun y h1 h2 z hz=>by
    rcases List.mem_cons.mp hz with rfl | hz
    ·exact h1 _ List.mem_cons_self
    ·rw [List.mem_singleton.mp hz]; exact h2⟩
 | a :: b :: r,h=>by
  rw [jI,Bool.and_eq_true,decide_eq_true_eq] at h
  obtain ⟨ih1,ih2⟩:=x9 x (b :: r) h.2
  rw [qe]
  split
  ·rename_i hx
   exact ⟨by rw [jI,decide_eq_true hx,jI,decide_eq_true h.1,h.2]; rfl,fun y h1 h2 z hz=>by
    rcases List.mem_cons.mp hz with rfl | hz
    ·exact h2
    ·exact h1 z hz⟩
  ·rename_i hx
   refine ⟨?_,fun y h1 h2 z hz=>by
    rcases List.mem_cons.mp hz with rfl | hz
    ·exact h1 _ List.mem_cons_self
    ·exact ih2 y (fun w hw=>h1 w (List.mem_cons_of_mem _ hw)) h2 z hz⟩
   rw [qe] at ih1 ⊢
   split
   ·rename_i hb
    rw [if_pos hb] at ih1
    rw [jI,decide_eq_true (by omega),ih1]; rfl
   ·rename_i hb
    rw [if_neg hb] at ih1
    rw [jI,decide_eq_true h.1,ih1]; rfl
theorem xa:∀ l:List Int,asc (YK l)=true
 | []=>rfl
 | x :: l=>by rw [YK]; exact (x9 x _ (xa l)).1
theorem xb:∀ l:List Int,asc l=true->YK l=l
 | [],_=>rfl
 | [x],_=>rfl
 | x :: y :: r,h=>by
  rw [jI,Bool.and_eq_true,decide_eq_true_eq] at h
  rw [YK,xb (y :: r) h.2,qe,if_pos h.1]
theorem Qn {n:Nat}:∀ xs ys:List Int,∃ b,eqL (eqF n) (xs.map T.int) (ys.map T.int)=some b/\(b=true↔xs=ys)
 | [],[]=>⟨true,rfl,by simp⟩
 | [],y :: ys=>⟨false,rfl,by simp⟩
 | x :: xs,[]=>⟨false,rfl,by simp⟩
 | x :: xs,y :: ys=>by
  obtain ⟨b,e,h⟩:=Qn (n:=n) xs ys
  have e0:eqL (eqF n) ((x :: xs).map T.int) ((y :: ys).map T.int)=match eqF n (.int x) (.int y) with
   | none=>none
   | some b=>match eqL (eqF n) (xs.map T.int) (ys.map T.int) with
    | none=>none
    | some c=>some (b && c):=rfl
  have e1:eqF n (.int x) (.int y)=some (x == y):=by cases n <;> rfl
  refine ⟨(x == y) && b,by rw [e0,e1,e], ?_⟩
  rw [Bool.and_eq_true,beq_iff_eq,h,List.cons.injEq]
theorem xf (is:List Int):eqC (.lst (is.map T.int)) (.lst ((YK is).map T.int))= .ok (asc is):=by
 obtain ⟨b,e,h⟩:=Qn (n:=29) is (YK is)
 have e0:eqF 30 (.lst (is.map T.int)) (.lst ((YK is).map T.int))=some b:=e
 unfold eqC
 rw [e0]
 show R.ok b=_
 congr 1
 cases hb:b with
 | true=>
  have:=h.mp hb
  rw [this]
  exact (xa is).symm
 | false=>
  cases ha:asc is with
  | false=>rfl
  | true=>rw [hb] at h; exact absurd (h.mpr (xb is ha).symm) Bool.false_ne_true
theorem KR (is:List Int) (hl:is.length<=60):X4 (.lst (is.map T.int))= .ok (.lst ((YK is).map T.int)):=by
 unfold X4
 dsimp only
 rw [qt]
 dsimp only
 rw [if_pos (by rw [List.length_map]; omega)]
theorem GV (is:List Int):z0i (.lst (is.map T.int))= .ok (.int is.sum):=by
 unfold z0i
 dsimp only
 rw [qt]
end G
namespace G
open PySem L2 PV
noncomputable def inB (xs:List T) (x:T):Bool:=(UW (fun y=>eqF 30 y x) xs).getD false
theorem GW {xs:List T} (x:T) (h:∀ y∈xs,Pl 30 y):UW (fun y=>eqF 30 y x) xs=some (inB xs x):=by
 obtain ⟨b,e,_⟩:=Ym (f:=fun y=>eqF 30 y x) xs fun t ht=>uB 30 t x (h t ht)
 unfold inB
 rw [e]
 rfl
theorem W.pl {d:Nat} {x:T} (h:W d x):Pl (d+1) x:=by
 induction h with
 | int d i=>exact trivial
 | str d i=>exact trivial
 | @tup d xs h r ih=>exact ih
theorem W.pl30 {d:Nat} {x:T} (h:W d x) (hd:d<=2):Pl 30 x:=h.pl.le (by omega)
noncomputable def j4:T->List T
 | .tup xs=>xs
 | .non=>[.non]
 | .bl b=>[.bl b]
 | .int b=>[.int b]
 | .str b=>[.str b]
 | .lst b=>[.lst b]
 | .fz b=>[.fz b]
theorem Xr {d:Nat} {x:T} (h:W d x):wT [x]= .ok (.tup (j4 x)):=by cases h <;> rfl
theorem Yn {d:Nat} {x:T} (h:W d x):(j4 x).length<=3:=by
 cases h with
 | int=>exact (by decide:1<=3)
 | str=>exact (by decide:1<=3)
 | tup h _=>exact h
theorem Qo {d:Nat} {x:T} (h:W d x) (hd:d<=2):∀ y∈j4 x,Pl 30 y:=by
 cases h with
 | int=>intro y hy; rw [List.mem_singleton.mp hy]; exact trivial
 | str=>intro y hy; rw [List.mem_singleton.mp hy]; exact trivial
 | @tup d xs h r=>intro y hy; exact (r y hy).pl30 (by omega)
noncomputable def un (ps:List T):Bool:= !(ps.zipIdx.any fun p=>inB (ps.take p.2) p.1)
theorem Yo {xs:List T} {k:Nat}:slT (.tup xs) none (some (k:Int))= .ok (.tup (xs.take k)):=by
 show R.ok (T.tup (cut xs none (some (k:Int))))=_
 have:cut xs none (some (k:Int))=xs.take k:=by
  unfold cut
  rw [HT.sIx_none,HT.sIx_nat]
  simp only [List.drop_zero,Nat.sub_zero]
  rw [List.take_eq_take_iff]
  omega
 rw [this]
theorem xg {ps:List T} (h:∀ y∈ps,Pl 30 y) (k:Nat) (x:T):inC x (.tup (ps.take k))= .ok (inB (ps.take k) x):=by
 show (match UW (fun y=>eqF 30 y x) (ps.take k) with | some b=>R.ok b | none=> .bad)=_
 rw [GW x fun y hy=>h y (List.mem_of_mem_take hy)]
noncomputable abbrev ulE:En->R T:=jR inC (vB 1) (slE (vE 2) (noO) (ZJ (vE 0)))
theorem xh {ps:List T} (h:∀ y∈ps,Pl 30 y):∀ (qs:List (T×Nat)) (x y:Sl),Z9 (jF 0 1) ZP ulE (qs.map fun p=>T.tup [.int (p.2:Nat),p.1]) [x,y, .vl (.tup ps)]= .ok (qs.map fun p=>T.bl (inB (ps.take p.2) p.1))
 | [],_,_=>rfl
 | q :: qs,x,y=>by
  have ih:=xh h qs (.vl (.int (q.2:Nat))) (.vl q.1)
  have e:ulE [.vl (.int (q.2:Nat)), .vl q.1, .vl (.tup ps)]= .ok (.bl (inB (ps.take q.2) q.1)):=by
   have e2:slE (vE 2) noO (ZJ (vE 0)) [.vl (.int (q.2:Nat)), .vl q.1, .vl (.tup ps)]=slT (.tup ps) none (some (q.2:Int)):=rfl
   unfold ulE
   rw [ZQ,w1,bOk,e2,Yo,bOk,xg h,bOk]
  have e0:Z9 (jF 0 1) ZP ulE ((q :: qs).map fun p=>T.tup [.int (p.2:Nat),p.1]) [x,y, .vl (.tup ps)]=
   (ulE [.vl (.int (q.2:Nat)), .vl q.1, .vl (.tup ps)]).bind fun v=>(Z9 (jF 0 1) ZP ulE (qs.map fun p=>T.tup [.int (p.2:Nat),p.1]) [.vl (.int (q.2:Nat)), .vl q.1, .vl (.tup ps)]).bind fun vs=> .ok (v :: vs):=rfl
  rw [e0,e,bOk,ih,bOk,List.map_cons]
theorem Yp {α:Type} (p:α->Bool):∀ qs:List α,Us (qs.map fun q=>T.bl (p q))=some (qs.any p)
 | []=>rfl
 | q :: qs=>by
  have e:Us ((q :: qs).map fun q=>T.bl (p q))=match Us (qs.map fun q=>T.bl (p q)) with | some j=>some (p q || j) | none=>none:=rfl
  rw [e,Yp p qs]
  rfl
theorem xi {ps:List T} (h:∀ y∈ps,Pl 30 y) (hl:ps.length<=100):Ju [.tup ps]= .ok (.bl (un ps)):=by
 show zu (Jt [.vl (.tup ps)])=_
 have ec:Z3 (jF 0 1) ZP ulE 2 [0] [.vl (.tup ps)] (wB ps)= .ok (ps.zipIdx.map fun p=>T.bl (inB (ps.take p.2) p.1)):=by
  unfold Z3
  rw [if_pos (by unfold wB; rw [List.length_map,List.length_zipIdx]; have hB:bnd=16777216:=rfl; omega)]
  show quiet (Z9 _ _ _ _ [.un, .un, .vl (.tup ps)])=_
  unfold wB
  rw [xh h]
  rfl
 rw [Jt,zB (t:= .bl (un ps))]
 ·rfl
 ·have e1:Zk (Q1 (vE 0)) (jF 0 1) ZP ulE 2 [0] [.vl (.tup ps)]= .ok (.lst (ps.zipIdx.map fun p=>T.bl (inB (ps.take p.2) p.1))):=by
   rw [Zn]
   show ((R.ok (wB ps)).bind _)=_
   rw [bOk,ec,bOk]
  have e2:ap1 z17 (Zk (Q1 (vE 0)) (jF 0 1) ZP ulE 2 [0]) [.vl (.tup ps)]= .ok (.bl (ps.zipIdx.any fun p=>inB (ps.take p.2) p.1)):=by
   rw [jH,e1,bOk]
   show (match Us _ with | some k=>R.ok (T.bl k) | none=> .bad)=_
   rw [Yp (fun p:T×Nat=>inB (ps.take p.2) p.1)]
  show vY _ [.vl (.tup ps)]=_
  unfold vY
  rw [e2,bOk]
  rfl
theorem Xs {ps:List T} (h:∀ y∈ps,Pl 30 y) (hl:ps.length<=100) {a b c:Sl} {ρ:En}:∃ r,Z3 (zD 0) (zH inC (ze ixT (vE 1) (vE 0)) (slE (vE 1) (noO) (ZJ (vE 0)))) (vE 0) 1 [3] (a :: b :: c :: .vl (.tup ps) :: ρ) (rng 0 ps.length)= .ok r/\r.isEmpty=un ps:=by
 let p:T->Bool:=fun t=>match t with
  | .int i=>match ps[i.toNat]? with | some w=>inB (ps.take i.toNat) w | none=>false
  | _=>false
 refine ⟨(rng 0 ps.length).filter p,w6 _ (by unfold rng; rw [List.length_map,List.length_range]; have hB:bnd=16777216:=rfl; omega) fun t ht=> ?_, ?_⟩
 ·unfold rng at ht
  obtain ⟨k,hk,rfl⟩:=List.mem_map.mp ht
  have hk' :k < ps.length:=List.mem_range.mp hk
  refine ⟨?_,rfl⟩
  show zH inC (ze ixT (vE 1) (vE 0)) (slE (vE 1) noO (ZJ (vE 0))) [.vl (.int (0+(k:Int))), .vl (.tup ps)]=_
  rw [show (0:Int)+(k:Int)=(k:Int) by omega]
  have e1:ixT (.tup ps) (.int k)= .ok ps[k]:=by
   show atT ps k=_
   unfold atT
   rw [JH (List.getElem?_eq_getElem hk')]
  have e2:slE (vE 1) noO (ZJ (vE 0)) [.vl (.int (k:Int)), .vl (.tup ps)]=slT (.tup ps) none (some (k:Int)):=rfl
  rw [zZ,zo,v1,bOk,v0,bOk,e1,bOk,e2,Yo,bOk,xg h]
  show _=R.ok (match ps[((k:Int)).toNat]? with | some w=>inB (ps.take ((k:Int)).toNat) w | none=>false)
  rw [Int.toNat_natCast,List.getElem?_eq_getElem hk']
 ·rw [Bool.eq_iff_iff,List.isEmpty_iff,List.filter_eq_nil_iff]
  unfold un
  rw [Bool.not_eq_true',List.any_eq_false]
  constructor
  ·intro H q hq
   obtain ⟨x,k⟩:=q
   have hk:=List.mem_zipIdx' hq
   have:=H (.int (0+(k:Int))) (by unfold rng; exact List.mem_map.mpr ⟨k,List.mem_range.mpr hk.1,rfl⟩)
   intro hb
   apply this
   show (match ps[((0:Int)+(k:Int)).toNat]? with | some w=>inB (ps.take ((0:Int)+(k:Int)).toNat) w | none=>false)=true
   rw [show ((0:Int)+(k:Int)).toNat=k by omega,List.getElem?_eq_getElem hk.1,← hk.2]
   exact hb
  ·intro H t ht hb
   unfold rng at ht
   obtain ⟨k,hk,rfl⟩:=List.mem_map.mp ht
   have hk' :k < ps.length:=List.mem_range.mp hk
   have hb:(match ps[((0:Int)+(k:Int)).toNat]? with | some w=>inB (ps.take ((0:Int)+(k:Int)).toNat) w | none=>false)=true:=hb
   rw [show ((0:Int)+(k:Int)).toNat=k by omega,List.getElem?_eq_getElem hk'] at hb
   exact H (ps[k],k) (List.mk_mem_zipIdx_iff_getElem?.mpr (List.getElem?_eq_getElem hk')) hb
noncomputable def xA (w:Str):T->Bool
 | .str x=>x == w
 | _=>false
theorem GX (w:Str) (n:Nat):∀ t:T,eqF n t (.str w)=some (xA w t)
 | .str x=>by cases n <;> rfl
 | .non=>by cases n <;> rfl
 | .bl _=>by cases n <;> rfl
 | .int _=>by cases n <;> rfl
 | .tup _=>by cases n <;> rfl
 | .lst _=>by cases n <;> rfl
 | .fz _=>by cases n <;> rfl
theorem xj (w:Str):∀ ts:List T,UW (fun y=>eqF 30 y (.str w)) ts=some (ts.any (xA w))
 | []=>rfl
 | t :: ts=>by
  have e:UW (fun y=>eqF 30 y (.str w)) (t :: ts)=match eqF 30 t (.str w) with
   | none=>none
   | some b=>match UW (fun y=>eqF 30 y (.str w)) ts with
    | none=>none
    | some d=>some (b || d):=rfl
  rw [e,GX,xj w ts]
  rfl
theorem KS (w:Str) (ts:List T):(ts.filter (xA w)).isEmpty= !(ts.any (xA w)):=by
 induction ts with
 | nil=>rfl
 | cons t ts ih=>
  rw [List.filter_cons,List.any_cons]
  cases xA w t with
  | true=>rfl
  | false=>rw [if_neg Bool.false_ne_true,ih,Bool.false_or]
end G
namespace G
open PySem L2 PV
inductive Ru where
 | sum (a b:Int) | size (a b:Int) | word (w:Str) | rising | unlike | no (r:Ru) | all (r s:Ru) | some (r s:Ru)
noncomputable def Ru.t:Ru->T
 | .sum a b=> .tup [.str "sum", .int a, .int b]
 | .size a b=> .tup [.str "size", .int a, .int b]
 | .word w=> .tup [.str "word", .str w]
 | .rising=> .tup [.str "rising"]
 | .unlike=> .tup [.str "unlike"]
 | .no r=> .tup [.str "no",r.t]
 | .all r s=> .tup [.str "all",r.t,s.t]
 | .some r s=> .tup [.str "some",r.t,s.t]
inductive Um:Nat->Ru->Prop where
 | sum {d:Nat} {a b:Int} (ha: -50<=a/\a<=50) (hb: -50<=b/\b<=50):Um (d+1) (.sum a b)
 | size {d:Nat} {a b:Int} (ha: -50<=a/\a<=50) (hb: -50<=b/\b<=50):Um (d+1) (.size a b)
 | word {d:Nat} {w:Str} (h:JB (.str w)=true):Um (d+1) (.word w)
 | rising {d:Nat}:Um (d+1) .rising
 | unlike {d:Nat}:Um (d+1) .unlike
 | no {d:Nat} {r:Ru} (h:Um d r):Um (d+1) (.no r)
 | all {d:Nat} {r s:Ru} (h:Um d r) (h' :Um d s):Um (d+1) (.all r s)
 | some {d:Nat} {r s:Ru} (h:Um d r) (h' :Um d s):Um (d+1) (.some r s)
noncomputable def kp:Ru->T->Bool
 | .sum a b,x=>decide (a<=(Jm (lv x)).sum) && decide ((Jm (lv x)).sum<=b)
 | .size a b,x=>decide (a<=((j4 x).length:Int)) && decide (((j4 x).length:Int)<=b)
 | .word w,x=>(lv x).any (xA w)
 | .rising,x=>asc (Jm (lv x))
 | .unlike,x=>un (j4 x)
 | .no r,x=> !kp r x
 | .all r s,x=>kp r x && kp s x
 | .some r s,x=>kp r x || kp s x
theorem ub {x w:Str} {r:List T} {ρ:En} (b:Bool) (h:(x == w)=b):zH eqC (ze ixT (vE 0) (cE (.int 0))) (cE (.str w)) (.vl (.tup (.str x :: r)) :: ρ)= .ok b:=by rw [cs0,h]
theorem WP {f g:En->R Bool} {ρ:En} {b:Bool} (h:f ρ= .ok false) (h' :g ρ= .ok b):orT f g ρ= .ok b:=by rw [Kv,h,bOk,if_neg Bool.false_ne_true,h']
theorem xk {f g:En->R Bool} {ρ:En} (h:f ρ= .ok true):orT f g ρ= .ok true:=by rw [Kv,h,bOk,if_pos rfl]
theorem KT {xs:List T} {d:Nat} {x:T}:orT (zH eqC (vB 1) (cE (.int 0))) (orT (JV (jk (ap1 (Jc "tuple") (vB 0)))) (zH eqC (ap1 jD (vB 0)) (cE (.int 0)))) (en2 (.tup (x :: xs)) (.int ((d+1:Nat):Int)))= .ok false:=by
 refine WP ?_ (WP ?_ ?_)
 ·rw [zZ,w1,bOk,Zb,bOk,eqI,beq_eq_false_iff_ne.mpr (by omega)]
 ·rw [wn,JC,jH,w0,bOk,Vt,bOk,W6,bOk]; rfl
 ·rw [zZ,jH,w0,bOk,qf,bOk,Zb,bOk,eqI,beq_eq_false_iff_ne.mpr (by rw [List.length_cons]; omega)]
theorem Xt {w:Str} (h:JB (.str w)=true):X8 (.str w):=by
 have h:(decide (1<=w.length) && decide (w.length<=3) && w.cps.toList.all Zs)=true:=h
 simp only [Bool.and_eq_true,decide_eq_true_eq] at h
 show w.length<=bnd
 exact Nat.le_trans h.1.2 (by decide)
end G
namespace G
open PySem L2 PV
theorem KU {f g h:En->R T} {ρ:En} {i j k:Int} (hf:f ρ= .ok (.int i)) (hg:g ρ= .ok (.int j)) (hh:h ρ= .ok (.int k)):chE leC leC f g h ρ= .ok (.bl (decide (i<=j) && decide (j<=k))):=by
 rw [Ku,hf,bOk,hg,bOk,QN,bOk]
 cases decide (i<=j) with
 | true=>rw [if_pos rfl,hh,bOk,QN,bOk,Bool.true_and]
 | false=>rw [if_neg Bool.false_ne_true,Bool.false_and]
theorem xl {r:Ru} {x:T} {d:Nat} (hd:d<=2) (h:W d x) (b:Bool) (hr:(match r with | .no _=>False | .all _ _=>False | .some _ _=>False | _=>True)):ZB [r.t,x]= .ok (.bl (kp r x)):=by
 have hn:=QW hd h
 have hp:=Xr h
 have hv:j0 8 [x]= .ok (.lst (lv x)):=U2 8 d (by omega) (by omega) x h
 have hi:(Jm (lv x)).length<=9:=Nat.le_trans (ym _) (w9 hd h)
 show zu (ZW wT (j0 8) Jy Jw Ju (en2 r.t x))=_
 rw [ZW]
 cases r with
 | sum a b=>
  rw [Ru.t,zN (t:= .bl (kp (.sum a b) x))]
  ·rfl
  ·rw [JM (ub true (by decide))]
   refine zB ?_
   show chE _ _ _ _ _ (en2 _ x)=_
   exact KU yh (by rw [jH,ZF,v1,bOk,hn,bOk,GV]) QU
 | size a b=>
  rw [Ru.t,zi (zz (ub false (by decide))),zN (t:= .bl (kp (.size a b) x))]
  ·rfl
  ·rw [JM (ub true (by decide))]
   refine zB ?_
   show chE _ _ _ _ _ (en2 _ x)=_
   exact KU yh (by rw [jH,ZF,v1,bOk,hp,bOk,qf]) QU
 | word w=>
  rw [Ru.t,zi (zz (ub false (by decide))),zi (zz (ub false (by decide))),zN (t:= .bl (kp (.word w) x))]
  ·rfl
  ·rw [JM (ub true (by decide))]
   refine zB ?_
   show jR _ _ _ (en2 _ x)=_
   rw [ZQ,yh,bOk,ZF,v1,bOk,hv,bOk]
   show ((match UW (fun y=>eqF 30 y (.str w)) (lv x) with | some b=>R.ok b | none=> .bad).bind _)=_
   rw [xj]
   rfl
 | rising=>
  rw [Ru.t,zi (zz (ub false (by decide))),zi (zz (ub false (by decide))),zi (zz (ub false (by decide))),zN (t:= .bl (kp .rising x))]
  ·rfl
  ·rw [JM (ub true (by decide))]
   refine zB ?_
   show zb 1 _ _ (en2 _ x)=_
   rw [ZF,ZF,v1,bOk,hn,bOk,x8 _ (by omega)]
   rfl
 | unlike=>
  rw [Ru.t,zi (zz (ub false (by decide))),zi (zz (ub false (by decide))),zi (zz (ub false (by decide))),zi (zz (ub false (by decide))),zB (t:= .bl (kp .unlike x))]
  ·rfl
  ·show zb 1 _ _ (en2 _ x)=_
   rw [ZF,ZF,v1,bOk,hp,bOk,xi (Qo h hd) (Nat.le_trans (Yn h) (by omega))]
   rfl
 | no=>exact hr.elim
 | all=>exact hr.elim
 | some=>exact hr.elim
theorem xm {f:En->R T} {ρ:En} {b:Bool} (h:f ρ= .ok (.bl b)):vY f ρ= .ok (.bl (!b)):=by unfold vY; rw [h]; rfl
theorem WQ {f g:En->R T} {ρ:En} {a b:Bool} (h:f ρ= .ok (.bl a)) (h' :g ρ= .ok (.bl b)):u7 f g ρ= .ok (.bl (a && b)):=by
 rw [Y8,h,h',y7]; cases a <;> rfl
theorem kj {f g:En->R T} {ρ:En} {a b:Bool} (h:f ρ= .ok (.bl a)) (h' :g ρ= .ok (.bl b)):orE f g ρ= .ok (.bl (a || b)):=by
 unfold orE; rw [h,bOk]; cases a with
 | true=>rfl
 | false=>exact h'
theorem WR {x:T} {e:Nat} (he:e<=2) (hx:W e x):∀ (n d:Nat),d<=n->∀ r:Ru,Um d r->ZS n 0 [r.t,x]= .ok (.bl (kp r x))
 | 0,d,h,r,hr=>by
  have:d=0:=by omega
  subst this; cases hr
 | n+1,d,h,r,hr=>by
  show zu (Wu (ZS n 0) ZB (en2 r.t x))=_
  rw [Wu]
  have fin:∀ (r:Ru) (s:Str) (q:List T),r.t= .tup (.str s :: q)->(s == "no")=false->(s == "all")=false->(s == "some")=false->(match r with | .no _=>False | .all _ _=>False | .some _ _=>False | _=>True)->
    zu (zE (ifS (zH eqC (ze ixT (vE 0) (cE (.int 0))) (cE (.str "no"))) (zV (vY (zb 2 (ZS n 0) (z0 (ze ixT (vE 0) (cE (.int 1))) (z0 (vE 1) (zd)))))) (nxS))
  (zE (ifS (zH eqC (ze ixT (vE 0) (cE (.int 0))) (cE (.str "all"))) (zV (u7 (zb 2 (ZS n 0) (z0 (ze ixT (vE 0) (cE (.int 1))) (z0 (vE 1) (zd)))) (zb 2 (ZS n 0) (z0 (ze ixT (vE 0) (cE (.int 2))) (z0 (vE 1) (zd)))))) (nxS))
  (zE (ifS (zH eqC (ze ixT (vE 0) (cE (.int 0))) (cE (.str "some"))) (zV (orE (zb 2 (ZS n 0) (z0 (ze ixT (vE 0) (cE (.int 1))) (z0 (vE 1) (zd)))) (zb 2 (ZS n 0) (z0 (ze ixT (vE 0) (cE (.int 2))) (z0 (vE 1) (zd)))))) (nxS))
  (zV (zb 2 ZB (z0 (vE 0) (z0 (vE 1) (zd))))))) (en2 r.t x))= .ok (.bl (kp r x)):=by
   intro r s q e h1 h2 h3 hm
   have hs:=xl he hx true hm
   rw [e] at hs ⊢
   rw [zi (zz (ub false h1)),zi (zz (ub false h2)),zi (zz (ub false h3)),zB (t:= .bl (kp r x))]
   ·rfl
   ·show zb 2 _ _ (en2 _ x)=_
    rw [jt,v0,bOk,v1,bOk,hs]
  cases hr with
  | @sum d a b ha hb=>exact fin (.sum a b) "sum" _ rfl (by decide) (by decide) (by decide) trivial
  | @size d a b ha hb=>exact fin (.size a b) "size" _ rfl (by decide) (by decide) (by decide) trivial
  | @word d w hw=>exact fin (.word w) "word" _ rfl (by decide) (by decide) (by decide) trivial
  | rising=>exact fin .rising "rising" _ rfl (by decide) (by decide) (by decide) trivial
  | unlike=>exact fin .unlike "unlike" _ rfl (by decide) (by decide) (by decide) trivial
  | @no d r hr=>
   have ih:=WR he hx n d (by omega) r hr
   rw [Ru.t,zN (t:= .bl (kp (.no r) x))]
   ·rfl
   ·rw [JM (ub true (by decide))]
    exact zB (xm (by show zb 2 _ _ (en2 _ x)=_; rw [jt,yh,bOk,v1,bOk,ih]))
  | @all d r s hr hs=>
   have ih:=WR he hx n d (by omega) r hr
   have ih' :=WR he hx n d (by omega) s hs
   rw [Ru.t,zi (zz (ub false (by decide))),zN (t:= .bl (kp (.all r s) x))]
   ·rfl
   ·rw [JM (ub true (by decide))]
    exact zB (WQ (by show zb 2 _ _ (en2 _ x)=_; rw [jt,yh,bOk,v1,bOk,ih]) (by show zb 2 _ _ (en2 _ x)=_; rw [jt,QU,bOk,v1,bOk,ih']))
  | @some d r s hr hs=>
   have ih:=WR he hx n d (by omega) r hr
   have ih' :=WR he hx n d (by omega) s hs
   rw [Ru.t,zi (zz (ub false (by decide))),zi (zz (ub false (by decide))),zN (t:= .bl (kp (.some r s) x))]
   ·rfl
   ·rw [JM (ub true (by decide))]
    exact zB (kj (by show zb 2 _ _ (en2 _ x)=_; rw [jt,yh,bOk,v1,bOk,ih]) (by show zb 2 _ _ (en2 _ x)=_; rw [jt,QU,bOk,v1,bOk,ih']))
end G
namespace G
open PySem L2 PV
noncomputable abbrev lk (r x a b:T):En:=[.vl r, .vl x, .vl a, .vl b, .un, .un, .un]
theorem lk0 {x w:Str} {r:List T} {y a b:T} (c:Bool) (h:(x == w)=c):zH eqC (ze ixT (vE 0) (cE (.int 0))) (cE (.str w)) (lk (.tup (.str x :: r)) y a b)= .ok c:=ub c h
theorem Qp {r x a b:T} {z:Sl}:∀ (is:List Int) (m:Int) (y:Sl),∃ y',jW (zD 5) (Z0 4 (ze zx (vE 4) (vE 5))) (is.map T.int) [.vl r, .vl x, .vl a, .vl b, .vl (.int m),y,z]= .nx [.vl r, .vl x, .vl a, .vl b, .vl (.int (m+is.sum)),y',z]
 | [],m,y=>⟨y,by rw [List.sum_nil,Int.add_zero]; rfl⟩
 | i :: is,m,y=>by
  obtain ⟨y',h⟩:=Qp (r:=r) (x:=x) (a:=a) (b:=b) (z:=z) is (m+i) (.vl (.int i))
  refine ⟨y', ?_⟩
  have s2:zD 5 (.int i) [.vl r, .vl x, .vl a, .vl b, .vl (.int m),y,z]= .ok [.vl r, .vl x, .vl a, .vl b, .vl (.int m), .vl (.int i),z]:=rfl
  have b2:Z0 4 (ze zx (vE 4) (vE 5)) [.vl r, .vl x, .vl a, .vl b, .vl (.int m), .vl (.int i),z]= .nx [.vl r, .vl x, .vl a, .vl b, .vl (.int (m+i)), .vl (.int i),z]:=rfl
  rw [List.map_cons,U0 s2 b2,h,List.sum_cons,Int.add_assoc]
theorem z1j {f g:En->R T} {ρ:En} {i j:Int} (hf:f ρ= .ok (.int i)) (hg:g ρ= .ok (.int j)):jR leC f g ρ= .ok (.bl (decide (i<=j))):=by rw [ZQ,hf,bOk,hg,bOk,QN,bOk]
theorem ge_E {f g:En->R T} {ρ:En} {i j:Int} (hf:f ρ= .ok (.int i)) (hg:g ρ= .ok (.int j)):jR geC f g ρ= .ok (.bl (decide (j<=i))):=by
 rw [ZQ,hf,bOk,hg,bOk]; rfl
theorem Yq {r x a b:T}:frz (lk r x a b)=lk r x a b:=rfl
theorem wY {x:T} {e:Nat} (he:e<=2) (hx:W e x):∀ (n d:Nat),d<=n->∀ r:Ru,Um d r->zr n 0 [r.t,x]= .ok (.bl (kp r x))
 | 0,d,h,r,hr=>by
  have:d=0:=by omega
  subst this; cases hr
 | n+1,d,h,r,hr=>by
  show zu (Jz (je 8) (zr n 0) [.vl r.t, .vl x, .un, .un, .un, .un, .un])=_
  have hv:je 8 [x]= .ok (.lst (lv x)):=Qm 8 e (by omega) (by omega) x hx
  have hl:=w9 he hx
  have hB:bnd=16777216:=rfl
  have hi:(Jm (lv x)).length<=9:=Nat.le_trans (ym _) hl
  have e1:Z0 2 (Zk (jS (zb 1 (je 8) (z0 (vE 1) (zd)))) (zD 0) (jk (ap1 (Jc "int") (vB 0))) (vE 0) 1 []) [.vl r.t, .vl x, .un, .un, .un, .un, .un]= .nx [.vl r.t, .vl x, .vl (.lst ((Jm (lv x)).map T.int)), .un, .un, .un, .un]:=by
   have ec:Z3 (zD 0) (jk (ap1 (Jc "int") (vB 0))) (vE 0) 1 [] [.vl r.t, .vl x, .un, .un, .un, .un, .un] (lv x)= .ok ((lv x).filter isW):=
    w6 _ (by omega) fun t ht=>⟨by cases z1i hx t ht <;> rfl,rfl⟩
   rw [ZL (t:= .lst ((Jm (lv x)).map T.int))]
   ·rfl
   ·rw [Zn,jT,ZF,v1,bOk,hv,bOk]
    show ((Z3 _ _ _ _ _ _ (lv x)).bind _)=_
    rw [ec,bOk,U3]
  have e2:Z0 3 (ifE (jk (ap1 (Jc "tuple") (vB 1))) (vE 1) (zG (z0 (vE 1) (zd)))) [.vl r.t, .vl x, .vl (.lst ((Jm (lv x)).map T.int)), .un, .un, .un, .un]= .nx (lk r.t x (.lst ((Jm (lv x)).map T.int)) (.tup (j4 x))):=by
   cases hx <;> rfl
  rw [Jz,zi e1,zi e2]
  cases hr with
  | @sum d a b ha hb=>
   obtain ⟨y',el⟩:=Qp (r:=(Ru.sum a b).t) (x:=x) (a:= .lst ((Jm (lv x)).map T.int)) (b:= .tup (j4 x)) (z:= .un) (Jm (lv x)) 0 .un
   rw [Int.zero_add] at el
   have e3:Z0 4 (cE (.int 0)) (lk (Ru.sum a b).t x (.lst ((Jm (lv x)).map T.int)) (.tup (j4 x)))= .nx [.vl (Ru.sum a b).t, .vl x, .vl (.lst ((Jm (lv x)).map T.int)), .vl (.tup (j4 x)), .vl (.int 0), .un, .un]:=rfl
   have e4:JY (jS (vE 2)) (zD 5) (Z0 4 (ze zx (vE 4) (vE 5))) [.vl (Ru.sum a b).t, .vl x, .vl (.lst ((Jm (lv x)).map T.int)), .vl (.tup (j4 x)), .vl (.int 0), .un, .un]= .nx [.vl (Ru.sum a b).t, .vl x, .vl (.lst ((Jm (lv x)).map T.int)), .vl (.tup (j4 x)), .vl (.int (Jm (lv x)).sum),y', .un]:=by
    unfold JY
    rw [jT,v2,bOk]
    exact el
   rw [zN (t:= .bl (kp (.sum a b) x))]
   ·rfl
   ·rw [JM (by rw [Ru.t]; exact lk0 true (by decide)),zi e3,zi e4,zB (t:= .bl (kp (.sum a b) x))]
    show u7 _ _ [.vl (Ru.sum a b).t, .vl x, .vl (.lst ((Jm (lv x)).map T.int)), .vl (.tup (j4 x)), .vl (.int (Jm (lv x)).sum),um y', .un]=_
    rw [Ru.t]
    exact WQ (z1j yh rfl) (z1j rfl QU)
  | @size d a b ha hb=>
   rw [Ru.t,zi (zz (lk0 false (by decide))),zN (t:= .bl (kp (.size a b) x))]
   ·rfl
   ·rw [JM (lk0 true (by decide)),zB (t:= .bl (kp (.size a b) x))]
    rw [Yq]
    exact WQ (ge_E (i:=((j4 x).length:Int)) rfl yh) (z1j (i:=((j4 x).length:Int)) rfl QU)
  | @word d w hw=>
   rw [Ru.t,zi (zz (lk0 false (by decide))),zi (zz (lk0 false (by decide))),zN (t:= .bl (kp (.word w) x))]
   ·rfl
   ·rw [JM (lk0 true (by decide)),zB (t:= .bl (kp (.word w) x))]
    rw [Yq]
    have ec:Z3 (zD 0) (zH eqC (vB 0) (ze ixT (vE 1) (cE (.int 1)))) (vE 0) 1 [0] (lk (.tup [.str "word", .str w]) x (.lst ((Jm (lv x)).map T.int)) (.tup (j4 x))) (lv x)= .ok ((lv x).filter (xA w)):=
     w6 _ (by omega) fun t ht=>⟨by
      show zH eqC (vB 0) (ze ixT (vE 1) (cE (.int 1))) [.vl t, .vl (.tup [.str "word", .str w])]=_
      rw [zZ,w0,bOk,zo,v1,bOk,Zb,bOk,at1,bOk]
      unfold eqC
      rw [GX],rfl⟩
    rw [ZQ,Zn,jT,ZF,v1,bOk,hv,bOk]
    show (((Z3 _ _ _ _ _ _ (lv x)).bind _).bind _)=_
    rw [ec,bOk,bOk,show J6 zd (lk (.tup [.str "word", .str w]) x (.lst ((Jm (lv x)).map T.int)) (.tup (j4 x)))= .ok (.lst []) from rfl,bOk]
    have en:neC (.lst ((lv x).filter (xA w))) (.lst [])= .ok (!((lv x).filter (xA w)).isEmpty):=by cases (lv x).filter (xA w) <;> rfl
    rw [en,bOk,KS,Bool.not_not]
    rfl
  | rising=>
   rw [Ru.t,zi (zz (lk0 false (by decide))),zi (zz (lk0 false (by decide))),zi (zz (lk0 false (by decide))),zN (t:= .bl (kp .rising x))]
   ·rfl
   ·rw [JM (lk0 true (by decide)),zB (t:= .bl (kp .rising x))]
    rw [Yq,ZQ,jH,w2,bOk,bOk,KR _ (by omega),bOk,xf,bOk]
    rfl
  | unlike=>
   rw [Ru.t,zi (zz (lk0 false (by decide))),zi (zz (lk0 false (by decide))),zi (zz (lk0 false (by decide))),zi (zz (lk0 false (by decide))),zN (t:= .bl (kp .unlike x))]
   ·rfl
   ·rw [JM (lk0 true (by decide)),zB (t:= .bl (kp .unlike x))]
    rw [Yq]
    have hp3:=Yn hx
    obtain ⟨q,eq,hq⟩:=Xs (Qo hx he) (by omega) (a:= .vl (.tup [.str "unlike"])) (b:= .vl x) (c:= .vl (.lst ((Jm (lv x)).map T.int))) (ρ:=[.un, .un, .un])
    have er:jM (ap1 jD (vB 3)) (lk (.tup [.str "unlike"]) x (.lst ((Jm (lv x)).map T.int)) (.tup (j4 x)))= .ok (rng 0 (j4 x).length):=by
     rw [VW (j:=((j4 x).length:Int)) rfl ⟨by omega,by omega⟩,Int.toNat_natCast]
    rw [ZQ,Zn,er,bOk,eq,bOk,bOk,show J6 zd (lk (.tup [.str "unlike"]) x (.lst ((Jm (lv x)).map T.int)) (.tup (j4 x)))= .ok (.lst []) from rfl,bOk,Vr,bOk,hq]
    rfl
  | @no d r hr=>
   have ih:=wY he hx n d (by omega) r hr
   rw [Ru.t,zi (zz (lk0 false (by decide))),zi (zz (lk0 false (by decide))),zi (zz (lk0 false (by decide))),zi (zz (lk0 false (by decide))),zi (zz (lk0 false (by decide))),zN (t:= .bl (kp (.no r) x))]
   ·rfl
   ·rw [JM (lk0 true (by decide)),zB (t:= .bl (kp (.no r) x))]
    rw [Yq]
    exact xm (by rw [jt,yh,bOk,v1,bOk,ih])
  | @all d r s hr hs=>
   have ih:=wY he hx n d (by omega) r hr
   have ih' :=wY he hx n d (by omega) s hs
   have e3:Z0 6 (Zk (jS (slE (vE 0) (ZJ (cE (.int 1))) (noO))) (zD 0) (ZP) (zb 2 (zr n 0) (z0 (vE 0) (z0 (vE 1) (zd)))) 1 [1]) (lk (.tup [.str "all",r.t,s.t]) x (.lst ((Jm (lv x)).map T.int)) (.tup (j4 x)))= .nx [.vl (.tup [.str "all",r.t,s.t]), .vl x, .vl (.lst ((Jm (lv x)).map T.int)), .vl (.tup (j4 x)), .un, .un, .vl (.lst [.bl (kp r x), .bl (kp s x)])]:=by
    rw [ZL (t:= .lst [.bl (kp r x), .bl (kp s x)])]
    ·rfl
    ·rw [Zn]
     show ((Z3 (zD 0) ZP (zb 2 (zr n 0) (z0 (vE 0) (z0 (vE 1) (zd)))) 1 [1] (lk (.tup [.str "all",r.t,s.t]) x (.lst ((Jm (lv x)).map T.int)) (.tup (j4 x))) [r.t,s.t]).bind _)=_
     have ec:Z3 (zD 0) ZP (zb 2 (zr n 0) (z0 (vE 0) (z0 (vE 1) (zd)))) 1 [1] (lk (.tup [.str "all",r.t,s.t]) x (.lst ((Jm (lv x)).map T.int)) (.tup (j4 x))) [r.t,s.t]= .ok [.bl (kp r x), .bl (kp s x)]:=by
      unfold Z3
      rw [if_pos (by show 2<=bnd; omega)]
      have c1:zb 2 (zr n 0) (z0 (vE 0) (z0 (vE 1) (zd))) [.vl r.t, .vl x]= .ok (.bl (kp r x)):=by rw [jt,v0,bOk,v1,bOk,ih]
      have c2:zb 2 (zr n 0) (z0 (vE 0) (z0 (vE 1) (zd))) [.vl s.t, .vl x]= .ok (.bl (kp s x)):=by rw [jt,v0,bOk,v1,bOk,ih']
      show quiet ((zb 2 (zr n 0) (z0 (vE 0) (z0 (vE 1) (zd))) [.vl r.t, .vl x]).bind fun v=>((zb 2 (zr n 0) (z0 (vE 0) (z0 (vE 1) (zd))) [.vl s.t, .vl x]).bind fun v=>(R.ok []).bind fun vs=> .ok (v :: vs)).bind fun vs=> .ok (v :: vs))=_
      rw [c1,c2]
      rfl
     rw [ec,bOk]
   rw [Ru.t,zi (zz (lk0 false (by decide))),zi (zz (lk0 false (by decide))),zi (zz (lk0 false (by decide))),zi (zz (lk0 false (by decide))),zi (zz (lk0 false (by decide))),zi (zz (lk0 false (by decide))),zi e3,zB (t:= .bl (kp (.all r s) x))]
   ·rfl
   ·show ifE _ _ _ [.vl (.tup [.str "all",r.t,s.t]), .vl x, .vl (.lst ((Jm (lv x)).map T.int)), .vl (.tup (j4 x)), .un, .un, .vl (.lst [.bl (kp r x), .bl (kp s x)])]=_
    unfold ifE
    rw [ub true (by decide),bOk,if_pos rfl]
    exact WQ rfl rfl
  | @some d r s hr hs=>
   have ih:=wY he hx n d (by omega) r hr
   have ih' :=wY he hx n d (by omega) s hs
   have e3:Z0 6 (Zk (jS (slE (vE 0) (ZJ (cE (.int 1))) (noO))) (zD 0) (ZP) (zb 2 (zr n 0) (z0 (vE 0) (z0 (vE 1) (zd)))) 1 [1]) (lk (.tup [.str "some",r.t,s.t]) x (.lst ((Jm (lv x)).map T.int)) (.tup (j4 x)))= .nx [.vl (.tup [.str "some",r.t,s.t]), .vl x, .vl (.lst ((Jm (lv x)).map T.int)), .vl (.tup (j4 x)), .un, .un, .vl (.lst [.bl (kp r x), .bl (kp s x)])]:=by
    rw [ZL (t:= .lst [.bl (kp r x), .bl (kp s x)])]
    ·rfl
    ·rw [Zn]
     show ((Z3 (zD 0) ZP (zb 2 (zr n 0) (z0 (vE 0) (z0 (vE 1) (zd)))) 1 [1] (lk (.tup [.str "some",r.t,s.t]) x (.lst ((Jm (lv x)).map T.int)) (.tup (j4 x))) [r.t,s.t]).bind _)=_
     have ec:Z3 (zD 0) ZP (zb 2 (zr n 0) (z0 (vE 0) (z0 (vE 1) (zd)))) 1 [1] (lk (.tup [.str "some",r.t,s.t]) x (.lst ((Jm (lv x)).map T.int)) (.tup (j4 x))) [r.t,s.t]= .ok [.bl (kp r x), .bl (kp s x)]:=by
      unfold Z3
      rw [if_pos (by show 2<=bnd; omega)]
      have c1:zb 2 (zr n 0) (z0 (vE 0) (z0 (vE 1) (zd))) [.vl r.t, .vl x]= .ok (.bl (kp r x)):=by rw [jt,v0,bOk,v1,bOk,ih]
      have c2:zb 2 (zr n 0) (z0 (vE 0) (z0 (vE 1) (zd))) [.vl s.t, .vl x]= .ok (.bl (kp s x)):=by rw [jt,v0,bOk,v1,bOk,ih']
      show quiet ((zb 2 (zr n 0) (z0 (vE 0) (z0 (vE 1) (zd))) [.vl r.t, .vl x]).bind fun v=>((zb 2 (zr n 0) (z0 (vE 0) (z0 (vE 1) (zd))) [.vl s.t, .vl x]).bind fun v=>(R.ok []).bind fun vs=> .ok (v :: vs)).bind fun vs=> .ok (v :: vs))=_
      rw [c1,c2]
      rfl
     rw [ec,bOk]
   rw [Ru.t,zi (zz (lk0 false (by decide))),zi (zz (lk0 false (by decide))),zi (zz (lk0 false (by decide))),zi (zz (lk0 false (by decide))),zi (zz (lk0 false (by decide))),zi (zz (lk0 false (by decide))),zi e3,zB (t:= .bl (kp (.some r s) x))]
   ·rfl
   ·show ifE _ _ _ [.vl (.tup [.str "some",r.t,s.t]), .vl x, .vl (.lst ((Jm (lv x)).map T.int)), .vl (.tup (j4 x)), .un, .un, .vl (.lst [.bl (kp r x), .bl (kp s x)])]=_
    unfold ifE
    rw [ub false (by decide),bOk,if_neg Bool.false_ne_true]
    exact kj rfl rfl
end G
namespace G
open PySem L2 PV
noncomputable abbrev lr (ns:List Int) (k:Int) (d:Nat) (p:Int) (a b:Sl):En:=[.vl (scr ns), .vl (.int k), .vl (.int (d:Int)), .vl (.int p),a,b]
theorem xn {ns:List Int} {k:Int} {d:Nat} {p:Int} {a b:Sl} {j m q:Int} (h:zk [scr ns, .int (k+j), .int m]= .ok (.int q)):zb 3 zk (z0 (vE 0) (z0 (ze zx (vE 1) (cE (.int j))) (z0 (cE (.int m)) (zd)))) (lr ns k d p a b)= .ok (.int q):=by
 rw [jg,v0,bOk,zo,v1,bOk,Zb,bOk,Zo,bOk,Zb,bOk,h]
theorem yn (ns:List Int):∀ (n d:Nat),d<=n->1<=d->∀ k:Int,0<=k->∃ r:Ru,ZK n 0 [scr ns, .int k, .int (d:Int)]= .ok r.t/\Um d r
 | 0,d,h,h1,k,hk=>by omega
 | n+1,d,h,h1,k,hk=>by
  obtain ⟨p,hp,p0,p9⟩:=Z6 ns k 9 hk (by omega)
  have e1:Z0 3 (zb 3 zk (z0 (vE 0) (z0 (vE 1) (z0 (cE (.int 9)) (zd))))) [.vl (scr ns), .vl (.int k), .vl (.int (d:Int)), .un, .un, .un]= .nx (lr ns k d p .un .un):=by
   rw [ZL (t:= .int p)]
   ·rfl
   ·rw [jg,v0,bOk,v1,bOk,Zb,bOk,hp]
  have e:ZK (n+1) 0 [scr ns, .int k, .int (d:Int)]=zu (wc zk (ZK n 0) [.vl (scr ns), .vl (.int k), .vl (.int (d:Int)), .un, .un, .un]):=rfl
  rw [e,wc,zi e1]
  have et:qS (zH gtC (vB 2) (cE (.int 1))) (zH gtC (vB 3) (cE (.int 5))) (lr ns k d p .un .un)= .ok (decide (1 < d) && decide (5 < p)):=by
   rw [Vs,zZ,w2,bOk,Zb,bOk,GS,bOk,show decide ((1:Int) < (d:Int))=decide (1 < d) by rw [Bool.eq_iff_iff,decide_eq_true_eq,decide_eq_true_eq]; omega]
   cases decide (1 < d) with
   | true=>rw [if_pos rfl,zZ,w3,bOk,Zb,bOk,GS,Bool.true_and]
   | false=>rfl
  by_cases hb:1 < d/\5 < p
  ·rw [decide_eq_true hb.1,decide_eq_true hb.2] at et
   obtain ⟨d,rfl⟩:∃ d',d=d' +1:=⟨d - 1,by omega⟩
   obtain ⟨r1,hr1,o1⟩:=yn ns n d (by omega) (by omega) (2*k+11) (by omega)
   obtain ⟨r2,hr2,o2⟩:=yn ns n d (by omega) (by omega) (2*k+24) (by omega)
   have m2:ZD (.int 2) (.int k)= .ok (.int (2*k)):=qi _ _ (.inl ⟨by decide,by decide⟩)
   have e2:Z0 4 (zb 3 (ZK n 0) (z0 (vE 0) (z0 (ze zx (ze ZD (cE (.int 2)) (vE 1)) (cE (.int 11))) (z0 (ze WC (vE 2) (cE (.int 1))) (zd))))) (lr ns k (d+1) p .un .un)= .nx (lr ns k (d+1) p (.vl r1.t) .un):=by
    rw [ZL (t:=r1.t)]
    ·rfl
    ·rw [jg,v0,bOk,zo,zo,Zb,bOk,v1,bOk,m2,bOk,Zb,bOk,Zo,bOk,zo,v2,bOk,Zb,bOk,Wy,bOk,show ((d+1:Nat):Int) - 1=(d:Int) by omega,hr1]
   have c2:zb 3 (ZK n 0) (z0 (vE 0) (z0 (ze zx (ze ZD (cE (.int 2)) (vE 1)) (cE (.int 24))) (z0 (ze WC (vE 2) (cE (.int 1))) (zd)))) (lr ns k (d+1) p (.vl r1.t) .un)= .ok r2.t:=by
    rw [jg,v0,bOk,zo,zo,Zb,bOk,v1,bOk,m2,bOk,Zb,bOk,Zo,bOk,zo,v2,bOk,Zb,bOk,Wy,bOk,show ((d+1:Nat):Int) - 1=(d:Int) by omega,hr2]
   by_cases h6:p=6
   ·subst h6
    refine ⟨.no r1, ?_, .no o1⟩
    rw [zN (t:=(Ru.no r1).t)]
    ·rfl
    ·rw [JM et,zi e2,zN (t:=(Ru.no r1).t)]
     rw [JM rfl,Ru.t]
     exact zB (vf rfl rfl)
   ·have h6' :zH eqC (vB 3) (cE (.int 6)) (lr ns k (d+1) p (.vl r1.t) .un)= .ok false:=by
     rw [zZ,w3,bOk,Zb,bOk,eqI,beq_eq_false_iff_ne.mpr h6]
    by_cases h7:p=7
    ·subst h7
     refine ⟨.all r1 r2, ?_, .all o1 o2⟩
     rw [zN (t:=(Ru.all r1 r2).t)]
     ·rfl
     ·rw [JM et,zi e2,zi (zz h6'),Ru.t]
      exact zB (GA rfl rfl c2)
    ·have h8:p=8:=by omega
     subst h8
     refine ⟨.some r1 r2, ?_, .some o1 o2⟩
     rw [zN (t:=(Ru.some r1 r2).t)]
     ·rfl
     ·rw [JM et,zi e2,zi (zz h6'),Ru.t]
      exact zB (GA rfl rfl c2)
  ·have et:qS (zH gtC (vB 2) (cE (.int 1))) (zH gtC (vB 3) (cE (.int 5))) (lr ns k d p .un .un)= .ok false:=by
    rw [et]
    congr 1
    rw [Bool.and_eq_false_iff,decide_eq_false_iff_not,decide_eq_false_iff_not]
    omega
   obtain ⟨d,rfl⟩:∃ d',d=d' +1:=⟨d - 1,by omega⟩
   obtain ⟨q,hq,q0,q9⟩:=Z6 ns (k+1) 9 (by omega) (by omega)
   have e2:Z0 5 (ze WC (zb 3 zk (z0 (vE 0) (z0 (ze zx (vE 1) (cE (.int 1))) (z0 (cE (.int 9)) (zd))))) (cE (.int 4))) (lr ns k (d+1) p .un .un)= .nx (lr ns k (d+1) p .un (.vl (.int (q - 4)))):=by
    rw [ZL (t:= .int (q - 4))]
    ·rfl
    ·rw [zo,xn hq,bOk,Zb,bOk,Wy]
   rw [zi (zz et),zi e2]
   have hm:∃ m:Nat,m < 6/\ze wx (vE 3) (cE (.int 6)) (lr ns k (d+1) p .un (.vl (.int (q - 4))))= .ok (.int (m:Int)):=by
    obtain ⟨w,rfl⟩:=Int.eq_ofNat_of_zero_le p0
    exact ⟨w % 6,Nat.mod_lt _ (by omega),by rw [zo,v3,bOk,Zb,bOk]; exact GR (c:=6) (by omega)⟩
   obtain ⟨m,m6,hm⟩:=hm
   have t2:zH ltC (ze wx (vE 3) (cE (.int 6))) (cE (.int 2)) (lr ns k (d+1) p .un (.vl (.int (q - 4))))= .ok (decide (m < 2)):=by
    rw [zZ,hm,bOk,Zb,bOk,ltI]; congr 1; rw [Bool.eq_iff_iff,decide_eq_true_eq,decide_eq_true_eq]; omega
   have tk:∀ j:Nat,zH eqC (ze wx (vE 3) (cE (.int 6))) (cE (.int (j:Int))) (lr ns k (d+1) p .un (.vl (.int (q - 4))))= .ok (m == j):=fun j=>by
    rw [zZ,hm,bOk,Zb,bOk,eqI,VP]
   have tk2:zH eqC (ze wx (vE 3) (cE (.int 6))) (cE (.int 2)) (lr ns k (d+1) p .un (.vl (.int (q - 4))))= .ok (m == 2):=tk 2
   have tk3:zH eqC (ze wx (vE 3) (cE (.int 6))) (cE (.int 3)) (lr ns k (d+1) p .un (.vl (.int (q - 4))))= .ok (m == 3):=tk 3
   have tk4:zH eqC (ze wx (vE 3) (cE (.int 6))) (cE (.int 4)) (lr ns k (d+1) p .un (.vl (.int (q - 4))))= .ok (m == 4):=tk 4
   by_cases h2:m < 2
   ·obtain ⟨u,hu,u0,u5⟩:=Z6 ns (k+2) 5 (by omega) (by omega)
    refine ⟨.sum (q - 4) (q - 4+u - 1), ?_, .sum ⟨by omega,by omega⟩ ⟨by omega,by omega⟩⟩
    rw [zN (t:=(Ru.sum (q - 4) (q - 4+u - 1)).t)]
    ·rfl
    ·rw [JM (by rw [t2,decide_eq_true h2]),Ru.t]
     refine zB (GA rfl rfl ?_)
     show ze WC _ _ (lr ns k (d+1) p .un (.vl (.int (q - 4))))=_
     rw [zo,zo,xn hu,show vE 5 (lr ns k (d+1) p .un (.vl (.int (q - 4))))= .ok (.int (q - 4)) from rfl,bOk,bOk,Zo,bOk,Zb,bOk,Wy]
   rw [zi (zz (by rw [t2,decide_eq_false h2]))]
   by_cases h3:m=2
   ·subst h3
    obtain ⟨q',hq',q'0,q'3⟩:=Z6 ns (k+1) 3 (by omega) (by omega)
    obtain ⟨u,hu,u0,u4⟩:=Z6 ns (k+2) 4 (by omega) (by omega)
    refine ⟨.size q' u, ?_, .size ⟨by omega,by omega⟩ ⟨by omega,by omega⟩⟩
    rw [zN (t:=(Ru.size q' u).t)]
    ·rfl
    ·rw [JM tk2,Ru.t]
     exact zB (GA rfl (xn hq') (xn hu))
   rw [zi (zz (by rw [tk2,beq_eq_false_iff_ne.mpr h3]))]
   by_cases h4:m=3
   ·subst h4
    obtain ⟨q',hq',q'0,q'3⟩:=Z6 ns (k+1) 4 (by omega) (by omega)
    have hw:∃ w:Str,JB (.str w)=true/\ixT (.lst [.str "a", .str "b", .str "ab", .str "zz"]) (.int q')= .ok (.str w):=by
     have hq4:q' =0\/q' =1\/q' =2\/q' =3:=by omega
     rcases hq4 with rfl | rfl | rfl | rfl
     ·exact ⟨"a",by decide,rfl⟩
     ·exact ⟨"b",by decide,rfl⟩
     ·exact ⟨"ab",by decide,rfl⟩
     ·exact ⟨"zz",by decide,rfl⟩
    obtain ⟨w,hw,hx⟩:=hw
    refine ⟨.word w, ?_, .word hw⟩
    rw [zN (t:=(Ru.word w).t)]
    ·rfl
    ·rw [JM tk3,Ru.t]
     refine zB (vf rfl ?_)
     show ze ixT _ _ (lr ns k (d+1) p .un (.vl (.int (q - 4))))=_
     rw [zo,xn hq']
     exact hx
   rw [zi (zz (by rw [tk3,beq_eq_false_iff_ne.mpr h4]))]
   by_cases h5:m=4
   ·subst h5
    refine ⟨.rising, ?_, .rising⟩
    rw [zB (t:=Ru.rising.t)]
    ·rfl
    ·show ifE _ _ _ (lr ns k (d+1) p .un (.vl (.int (q - 4))))=_
     unfold ifE
     rw [tk4,bOk]
     rfl
   ·refine ⟨.unlike, ?_, .unlike⟩
    rw [zB (t:=Ru.unlike.t)]
    ·rfl
    ·show ifE _ _ _ (lr ns k (d+1) p .un (.vl (.int (q - 4))))=_
     unfold ifE
     rw [tk4,bOk,beq_eq_false_iff_ne.mpr h5]
     rfl
end G
namespace G
open PySem L2 PV
noncomputable def GY:List T->Bool
 | [a,b]=>inR (-50) 50 a && inR (-50) 50 b
 | _=>false
noncomputable def GZ:List T->Bool
 | [w]=>JB w
 | _=>false
noncomputable def z0o (k:T->Bool):List T->Bool
 | [r]=>k r
 | _=>false
noncomputable def z0p (k:T->Bool):List T->Bool
 | [r,s]=>k r && k s
 | _=>false
noncomputable def KW (k:T->Bool):T->Bool
 | .tup (.str s :: xs)=>if s="sum"\/s="size" then GY xs else if s="word" then GZ xs else if s="rising"\/s="unlike" then xs.isEmpty else if s="no" then z0o k xs else if s="all"\/s="some" then z0p k xs else false
 | _=>false
noncomputable def isR:Nat->T->Bool
 | 0,_=>false
 | d+1,t=>KW (isR d) t
theorem Qq (t:T):J8 [t]= .ok (.bl (inR (-50) 50 t)):=by
 show zu (wS jp [.vl t])=_
 rw [wS,zB (t:= .bl (inR (-50) 50 t))]
 ·rfl
 ·show u7 _ _ [.vl t]=_
  rw [Y8,ZF,v0,bOk,Q3,y7]
  cases t with
  | int i=>
   rw [if_pos (show isW (.int i)=true from rfl)]
   exact KU (i:= -50) (j:=i) (k:=50) rfl rfl rfl
  | _=>rfl
theorem yo {ys:List T} {n:Int} {g:En->R T} {ρ:En} {b:Bool} (h:((ys.length:Int) == n)=true->g (.vl (.tup ys) :: ρ)= .ok (.bl b)) (hf:((ys.length:Int) == n)=false->b=false):u7 (jR eqC (ap1 jD (vB 0)) (cE (.int n))) g (.vl (.tup ys) :: ρ)= .ok (.bl b):=by
 have e:jR eqC (ap1 jD (vB 0)) (cE (.int n)) (.vl (.tup ys) :: ρ)= .ok (.bl ((ys.length:Int) == n)):=by rw [ZQ,jH,w0,bOk,qf,bOk,Zb,bOk,eqI,bOk]
 rw [Y8,e,y7]
 cases hb:((ys.length:Int) == n) with
 | true=>rw [if_pos rfl,h hb]
 | false=>rw [if_neg Bool.false_ne_true,hf hb]
theorem rh0 {h:T} {w:Str} {r:List T} {ρ:En}:zH eqC (ze ixT (vE 0) (cE (.int 0))) (cE (.str w)) (.vl (.tup (h :: r)) :: ρ)= .ok (isS w h):=by
 rw [zZ,zo,v0,bOk,Zb,bOk,at0,bOk,Zb,bOk,eqS]
theorem yq {h:T} {w:Str} {r:List T} {ρ:En} (e:isS w h=false):zH eqC (ze ixT (vE 0) (cE (.int 0))) (cE (.str w)) (.vl (.tup (h :: r)) :: ρ)= .ok false:=by rw [rh0,e]
theorem sne {s w:Str} (h:s ≠ w):isS w (.str s)=false:=beq_eq_false_iff_ne.mpr h
theorem Xu {s:Str}:isS s (.str s)=true:=beq_self_eq_true s
theorem z0q {xs:List T} {n:Nat} (h:((xs.length+1:Nat):Int) == ((n+1:Nat):Int)):xs.length=n:=by have:=beq_iff_eq.mp h; omega
theorem z1k {n d:Nat} {t:T} {f:En->R T} {ρ:En} {k:T->Bool} {x:T} (hf:f ρ= .ok x) (h1:vE 1 ρ= .ok (.int ((d+1:Nat):Int))) (hx:zy n 0 [x, .int (d:Int)]= .ok (.bl (k x))):zb 2 (zy n 0) (z0 f (z0 (ze WC (vE 1) (cE (.int 1))) (zd))) ρ= .ok (.bl (k x)):=by
 rw [jt,hf,bOk,zo,h1,bOk,Zb,bOk,Wy,bOk,show ((d+1:Nat):Int) - 1=(d:Int) by omega,hx]
theorem Xv {n d:Nat} {k:T->Bool} (H:∀ t,sOk t->zy n 0 [t, .int (d:Int)]= .ok (.bl (k t))) (t:T) (ht:sOk t):zy (n+1) 0 [t, .int ((d+1:Nat):Int)]= .ok (.bl (KW k t)):=by
 show zu (zM Jf (zy n 0) J8 (en2 t (.int ((d+1:Nat):Int))))=_
 have first:zH eqC (vB 1) (cE (.int 0)) (en2 t (.int ((d+1:Nat):Int)))= .ok false:=by
  rw [zZ,w1,bOk,Zb,bOk,eqI,beq_eq_false_iff_ne.mpr (by omega)]
 have notup:(∀ xs,t ≠ .tup xs)->zu (zM Jf (zy n 0) J8 (en2 t (.int ((d+1:Nat):Int))))= .ok (.bl false):=fun hn=>by
  have:orT (zH eqC (vB 1) (cE (.int 0))) (orT (JV (jk (ap1 (Jc "tuple") (vB 0)))) (zH eqC (ap1 jD (vB 0)) (cE (.int 0)))) (en2 t (.int ((d+1:Nat):Int)))= .ok true:=by
   refine WP first (xk ?_)
   rw [wn,JC,jH,w0,bOk,KA hn,bOk,W6,bOk]; rfl
  rw [zM,zN (t:= .bl false)]
  ·rfl
  ·rw [JM this]; rfl
 cases t with
 | tup ys=>
  cases ys with
  | nil=>
   have:orT (zH eqC (vB 1) (cE (.int 0))) (orT (JV (jk (ap1 (Jc "tuple") (vB 0)))) (zH eqC (ap1 jD (vB 0)) (cE (.int 0)))) (en2 (.tup []) (.int ((d+1:Nat):Int)))= .ok true:=WP first (WP rfl rfl)
   rw [zM,zN (t:= .bl false)]
   ·rfl
   ·rw [JM this]; rfl
  | cons h xs=>
   have hxs:=uV ht
   have hm:∀ u∈xs,sOk u:=fun u hu=>uw hxs (List.mem_cons_of_mem _ hu)
   rw [zM,zi (zz KT)]
   cases h with
   | str s=>
    show _=R.ok (T.bl (if s="sum"\/s="size" then GY xs else if s="word" then GZ xs else if s="rising"\/s="unlike" then xs.isEmpty else if s="no" then z0o k xs else if s="all"\/s="some" then z0p k xs else false))
    by_cases h1:s="sum"\/s="size"
    ·rw [if_pos h1,zN (t:= .bl (GY xs))]
     ·rfl
     ·rw [JM (by rcases h1 with rfl | rfl; exact xk (by rw [rh0,Xu]); exact WP (yq (by decide)) (by rw [rh0,Xu]))]
      refine zB (yo (fun hl=> ?_) (fun hl=> ?_))
      ·have:=z0q (n:=2) hl
       match xs,this with
       | [a,b],_=>exact WQ (by rw [ZF,yh,bOk,Qq]) (by show zb 1 _ _ (en2 _ _)=_; rw [ZF,QU,bOk,Qq])
      ·match xs,hl with
       | [],_=>rfl
       | [_],_=>rfl
       | _ :: _ :: _ :: _,_=>rfl
    rw [if_neg h1,zi (zz (WP (yq (sne fun e=>h1 (.inl e))) (yq (sne fun e=>h1 (.inr e)))))]
    by_cases h2:s="word"
    ·rw [if_pos h2,zN (t:= .bl (GZ xs))]
     ·rfl
     ·rw [JM (by rw [rh0,h2,Xu])]
      refine zB (yo (fun hl=> ?_) (fun hl=> ?_))
      ·have:=z0q (n:=1) hl
       match xs,this,hm with
       | [a],_,hm=>show zb 1 _ _ (en2 _ _)=_; rw [ZF,yh,bOk,Kt _ (hm a List.mem_cons_self).str]; rfl
      ·match xs,hl with
       | [],_=>rfl
       | _ :: _ :: _,_=>rfl
    rw [if_neg h2,zi (zz (yq (sne h2)))]
    by_cases h3:s="rising"\/s="unlike"
    ·rw [if_pos h3,zN (t:= .bl xs.isEmpty)]
     ·rfl
     ·rw [JM (by rcases h3 with rfl | rfl; exact xk (by rw [rh0,Xu]); exact WP (yq (by decide)) (by rw [rh0,Xu]))]
      refine zB ?_
      show jR eqC _ _ (en2 _ _)=_
      rw [ZQ,jH,w0,bOk,qf,bOk,Zb,bOk,eqI,bOk]
      cases xs with
      | nil=>rfl
      | cons a r=>
       rw [beq_eq_false_iff_ne.mpr (by rw [List.length_cons,List.length_cons]; omega)]; rfl
    rw [if_neg h3,zi (zz (WP (yq (sne fun e=>h3 (.inl e))) (yq (sne fun e=>h3 (.inr e)))))]
    by_cases h4:s="no"
    ·rw [if_pos h4,zN (t:= .bl (z0o k xs))]
     ·rfl
     ·rw [JM (by rw [rh0,h4,Xu])]
      refine zB (yo (fun hl=> ?_) (fun hl=> ?_))
      ·have:=z0q (n:=1) hl
       match xs,this,hm with
       | [a],_,hm=>exact z1k (t:=a) (k:=k) yh rfl (H a (hm a List.mem_cons_self))
      ·match xs,hl with
       | [],_=>rfl
       | _ :: _ :: _,_=>rfl
    rw [if_neg h4,zi (zz (yq (sne h4)))]
    by_cases h5:s="all"\/s="some"
    ·rw [if_pos h5,zN (t:= .bl (z0p k xs))]
     ·rfl
     ·rw [JM (by rcases h5 with rfl | rfl; exact xk (by rw [rh0,Xu]); exact WP (yq (by decide)) (by rw [rh0,Xu]))]
      refine zB (yo (fun hl=> ?_) (fun hl=> ?_))
      ·have:=z0q (n:=2) hl
       match xs,this,hm with
       | [a,b],_,hm=>exact WQ (z1k (t:=a) (k:=k) yh rfl (H a (hm a List.mem_cons_self))) (z1k (t:=b) (k:=k) QU rfl (H b (hm b (List.mem_cons_of_mem _ List.mem_cons_self))))
      ·match xs,hl with
       | [],_=>rfl
       | [_],_=>rfl
       | _ :: _ :: _ :: _,_=>rfl
    rw [if_neg h5,zi (zz (WP (yq (sne fun e=>h5 (.inl e))) (yq (sne fun e=>h5 (.inr e)))))]
    rfl
   | _=>
    rw [zi (zz (WP (yq rfl) (yq rfl))),zi (zz (yq rfl)),zi (zz (WP (yq rfl) (yq rfl))),zi (zz (yq rfl)),zi (zz (WP (yq rfl) (yq rfl)))]
    rfl
 | _=>rw [notup (fun _ h=>nomatch h)]; rfl
theorem xo:∀ (d n:Nat),d+1<=n->∀ t,sOk t->zy n 0 [t, .int (d:Int)]= .ok (.bl (isR d t))
 | 0,n+1,_,t,_=>by
  show zu (zM Jf (zy n 0) J8 (en2 t (.int 0)))=_
  rw [zM,zN (t:= .bl false)]
  ·rfl
  ·rw [JM (xk rfl)]; rfl
 | d+1,n+1,h,t,ht=>Xv (fun t ht=>xo d n (by omega) t ht) t ht
theorem w8 (t:T) (ht:sOk t):Za [t]= .ok (.bl (isR 3 t)):=by
 show zu (Wt (jN 8) [.vl t])=_
 rw [Wt,zB (t:= .bl (isR 3 t))]
 ·rfl
 ·show zb 2 _ _ [.vl t]=_
  rw [jt,v0,bOk,Zb,bOk]
  exact xo 3 8 (by omega) t ht
end G
namespace G
open PySem L2 PV
noncomputable abbrev lq (s:Str) (xs:List T) (d:Int):En:=[.vl (.tup (.str s :: xs)), .vl (.int d), .vl (.str s), .vl (.tup xs)]
theorem z00 (s a b:Str):inC (.str s) (.tup [.str a, .str b])= .ok (decide (s∈[a,b])):=by
 show (match UW (fun y=>eqF 30 y (.str s)) ([a,b].map T.str) with | some b=>R.ok b | none=> .bad)=_
 rw [y8]
theorem inq {s a b:Str} {xs:List T} {d:Int} (c:Bool) (h:decide (s∈[a,b])=c):zH inC (vB 2) (zG (z0 (cE (.str a)) (z0 (cE (.str b)) (zd)))) (lq s xs d)= .ok c:=by
 rw [zZ,w2,bOk,vf Zb Zb,bOk,z00,h]
theorem KY (xs:List T):eqC (.tup xs) (.tup [])= .ok xs.isEmpty:=by cases xs <;> rfl
theorem nin3 (s:Str) (n:Int):qR (.tup [.str s, .int n]) (.tup [.tup [.str "no", .int 1], .tup [.str "all", .int 2], .tup [.str "some", .int 2]])= .ok (!((("no":Str) == s && ((1:Int) == n && true)) || ((("all":Str) == s && ((2:Int) == n && true)) || ((("some":Str) == s && ((2:Int) == n && true)) || false)))):=rfl
theorem wh_E {t:T}:JV (jk (zb 3 Zr (z0 (vE 0) (z0 (yV (cE (.int 50))) (z0 (cE (.int 50)) (zd)))))) [.vl t]= .ok (!inR (-50) 50 t):=by
 have e:zb 3 Zr (z0 (vE 0) (z0 (yV (cE (.int 50))) (z0 (cE (.int 50)) (zd)))) [.vl t]= .ok (.bl (inR (-50) 50 t)):=by
  rw [jg,v0,bOk,show yV (cE (.int 50)) [.vl t]= .ok (.int (-50)) from rfl,bOk,Zb,bOk,Ya]
 rw [wn,JC,e,bOk,W6,bOk]
theorem Qr {ft:En->R Bool} {p:T->Bool} {js:List Nat} {ρ:En} {xs:List T} (h3:vE 3 ρ= .ok (.tup xs)) (hl:xs.length<=100) (H:∀ t∈xs,ft ((yG 1 js ρ).set 0 (.vl t))= .ok (!p t)/\vE 0 ((yG 1 js ρ).set 0 (.vl t))= .ok t):jR eqC (Zk (jS (vE 3)) (zD 0) ft (vE 0) 1 js) (J6 (zd)) ρ= .ok (.bl (xs.all p)):=by
 rw [ZQ,Zn,jT,h3,bOk]
 show (((Z3 _ _ _ _ _ _ xs).bind _).bind _)=_
 rw [w6 (p:=fun t=> !p t) xs (Nat.le_trans hl (by decide)) H,bOk,bOk]
 show ((eqC (.lst (xs.filter fun t=> !p t)) (.lst [])).bind _)=_
 rw [Vr,bOk,wC]
theorem len3 {s:Str} {xs:List T} {d n:Int}:jR eqC (ap1 jD (vB 3)) (cE (.int n)) (lq s xs d)= .ok (.bl ((xs.length:Int) == n)):=by
 rw [ZQ,jH,w3,bOk,qf,bOk,Zb,bOk,eqI,bOk]
theorem and3 {s:Str} {xs:List T} {d n:Int} {g:En->R T} {b:Bool} (h:((xs.length:Int) == n)=true->g (lq s xs d)= .ok (.bl b)) (hf:((xs.length:Int) == n)=false->b=false):u7 (jR eqC (ap1 jD (vB 3)) (cE (.int n))) g (lq s xs d)= .ok (.bl b):=by
 rw [Y8,len3,y7]
 cases hb:((xs.length:Int) == n) with
 | true=>rw [if_pos rfl,h hb]
 | false=>rw [if_neg Bool.false_ne_true,hf hb]
theorem lenq {xs:List T} {n:Nat} (h:((xs.length:Int) == (n:Int))=true):xs.length=n:=by have:=beq_iff_eq.mp h; omega
theorem lrec {n d:Nat} {k:T->Bool} {s:Str} {xs:List T} (H:∀ t∈xs,zA n 0 [t, .int (d:Int)]= .ok (.bl (k t))) (hl:xs.length<=100):jR eqC (Zk (jS (vE 3)) (zD 0) (JV (jk (zb 2 (zA n 0) (z0 (vE 0) (z0 (ze WC (vE 1) (cE (.int 1))) (zd)))))) (vE 0) 1 [1]) (J6 (zd)) (lq s xs ((d+1:Nat):Int))= .ok (.bl (xs.all k)):=
 Qr (p:=k) rfl hl fun t ht=>⟨by
  show JV _ [.vl t, .vl (.int ((d+1:Nat):Int))]=_
  rw [wn,JC,jt,v0,bOk,zo,v1,bOk,Zb,bOk,Wy,bOk,show ((d+1:Nat):Int) - 1=(d:Int) by omega,H t ht,bOk,W6,bOk],rfl⟩
theorem Xw {n d:Nat} {k:T->Bool} (H:∀ t,sOk t->zA n 0 [t, .int (d:Int)]= .ok (.bl (k t))) (t:T) (ht:sOk t):zA (n+1) 0 [t, .int ((d+1:Nat):Int)]= .ok (.bl (KW k t)):=by
 show zu (Z7 Zr Zj (zA n 0) [.vl t, .vl (.int ((d+1:Nat):Int)), .un, .un])=_
 have quit:orT (JV (jk (ap1 (Jc "tuple") (vB 0)))) (orT (zH eqC (vB 0) (zG (zd))) (orT (JV (jk (ap1 (Jc "str") (ze ixT (vE 0) (cE (.int 0)))))) (zH ltC (vB 1) (cE (.int 1))))) [.vl t, .vl (.int ((d+1:Nat):Int)), .un, .un]= .ok true->zu (Z7 Zr Zj (zA n 0) [.vl t, .vl (.int ((d+1:Nat):Int)), .un, .un])= .ok (.bl false):=fun q=>by
  rw [Z7,zN (t:= .bl false)]
  ·rfl
  ·rw [JM q]; rfl
 cases t with
 | tup ys=>
  cases ys with
  | nil=>rw [quit (WP rfl (xk rfl))]; rfl
  | cons h xs=>
   have hxs:=uV ht
   have hm:∀ u∈xs,sOk u:=fun u hu=>uw hxs (List.mem_cons_of_mem _ hu)
   have i0:ze ixT (vE 0) (cE (.int 0)) [.vl (.tup (h :: xs)), .vl (.int ((d+1:Nat):Int)), .un, .un]= .ok h:=by rw [zo,v0,bOk,Zb,bOk,at0]
   cases h with
   | str s=>
    have q0:orT (JV (jk (ap1 (Jc "tuple") (vB 0)))) (orT (zH eqC (vB 0) (zG (zd))) (orT (JV (jk (ap1 (Jc "str") (ze ixT (vE 0) (cE (.int 0)))))) (zH ltC (vB 1) (cE (.int 1))))) [.vl (.tup (.str s :: xs)), .vl (.int ((d+1:Nat):Int)), .un, .un]= .ok false:=by
     refine WP rfl (WP rfl (WP ?_ ?_))
     ·rw [wn,JC,jH,i0,bOk]; rfl
     ·rw [zZ,w1,bOk,Zb,bOk,ltI,decide_eq_false (by omega)]
    have e1:Gg 2 3 (z0 (ze ixT (vE 0) (cE (.int 0))) (z0 (slE (vE 0) (ZJ (cE (.int 1))) (noO)) (zd))) [.vl (.tup (.str s :: xs)), .vl (.int ((d+1:Nat):Int)), .un, .un]= .nx (lq s xs ((d+1:Nat):Int)):=by
     rw [Gx,i0,jL,y9,v0,bOk,k7,bOk,k8,bOk,cut1,jL]; rfl
    rw [Z7,zi (zz q0),zi e1]
    show _=R.ok (T.bl (if s="sum"\/s="size" then GY xs else if s="word" then GZ xs else if s="rising"\/s="unlike" then xs.isEmpty else if s="no" then z0o k xs else if s="all"\/s="some" then z0p k xs else false))
    by_cases h3:s="rising"\/s="unlike"
    ·have n1:¬ (s="sum"\/s="size"):=by rcases h3 with rfl | rfl <;> decide
     have n2:¬ s="word":=by rcases h3 with rfl | rfl <;> decide
     rw [if_neg n1,if_neg n2,if_pos h3,zN (t:= .bl xs.isEmpty)]
     ·rfl
     ·rw [JM (inq true (decide_eq_true (by rcases h3 with rfl | rfl <;> simp)))]
      refine zB ?_
      show jR eqC _ _ (lq s xs _)=_
      rw [ZQ,w3,bOk]
      show ((eqC (.tup xs) (.tup [])).bind _)=_
      rw [KY,bOk]
    rw [zi (zz (inq false (decide_eq_false (by simpa using h3))))]
    by_cases h1:s="sum"\/s="size"
    ·rw [if_pos h1,zN (t:= .bl (GY xs))]
     ·rfl
     ·rw [JM (inq true (decide_eq_true (by rcases h1 with rfl | rfl <;> simp)))]
      refine zB (and3 (fun hl=> ?_) (fun hl=> ?_))
      ·have:=lenq (n:=2) hl
       rw [Qr (p:=inR (-50) 50) rfl (by omega) fun t ht=>⟨wh_E,rfl⟩]
       match xs,this with
       | [a,b],_=>show R.ok (T.bl (inR (-50) 50 a && (inR (-50) 50 b && true)))=_; rw [Bool.and_true]; rfl
      ·match xs,hl with
       | [],_=>rfl
       | [_],_=>rfl
       | _ :: _ :: _ :: _,_=>rfl
    rw [if_neg h1,zi (zz (inq false (decide_eq_false (by simpa using h1))))]
    by_cases h2:s="word"
    ·rw [if_pos h2,zN (t:= .bl (GZ xs))]
     ·rfl
     ·rw [JM (by rw [zZ,w2,bOk,Zb,bOk,eqS,h2,Xu])]
      refine zB (and3 (fun hl=> ?_) (fun hl=> ?_))
      ·have:=lenq (n:=1) hl
       match xs,this,hm with
       | [a],_,hm=>rw [ZF,zo,v3,bOk,Zb,bOk,at0,bOk,qg _ (hm a List.mem_cons_self).str]; rfl
      ·match xs,hl with
       | [],_=>rfl
       | _ :: _ :: _,_=>rfl
    rw [if_neg h2,if_neg h3,zi (zz (by rw [zZ,w2,bOk,Zb,bOk,eqS,sne h2]))]
    have nin:zH qR (zG (z0 (vE 2) (z0 (ap1 jD (vB 3)) (zd)))) (zG (z0 (zG (z0 (cE (.str "no")) (z0 (cE (.int 1)) (zd)))) (z0 (zG (z0 (cE (.str "all")) (z0 (cE (.int 2)) (zd)))) (z0 (zG (z0 (cE (.str "some")) (z0 (cE (.int 2)) (zd)))) (zd))))) (lq s xs ((d+1:Nat):Int))= .ok (!((("no":Str) == s && ((1:Int) == (xs.length:Int) && true)) || ((("all":Str) == s && ((2:Int) == (xs.length:Int) && true)) || ((("some":Str) == s && ((2:Int) == (xs.length:Int) && true)) || false)))):=nin3 s (xs.length:Int)
    have quit2:∀ c:Bool,(!((("no":Str) == s && ((1:Int) == (xs.length:Int) && true)) || ((("all":Str) == s && ((2:Int) == (xs.length:Int) && true)) || ((("some":Str) == s && ((2:Int) == (xs.length:Int) && true)) || false))))=true->c=false->zu (zE (ifS (zH qR (zG (z0 (vE 2) (z0 (ap1 jD (vB 3)) (zd)))) (zG (z0 (zG (z0 (cE (.str "no")) (z0 (cE (.int 1)) (zd)))) (z0 (zG (z0 (cE (.str "all")) (z0 (cE (.int 2)) (zd)))) (z0 (zG (z0 (cE (.str "some")) (z0 (cE (.int 2)) (zd)))) (zd)))))) (zV (cE (.bl false))) (nxS)) (zV (jR eqC (Zk (jS (vE 3)) (zD 0) (JV (jk (zb 2 (zA n 0) (z0 (vE 0) (z0 (ze WC (vE 1) (cE (.int 1))) (zd)))))) (vE 0) 1 [1]) (J6 (zd)))) (lq s xs ((d+1:Nat):Int)))= .ok (.bl c):=fun c q hc=>by
     rw [zN (t:= .bl false),hc]
     ·rfl
     ·rw [JM (by rw [nin,q])]; rfl
    have pass:∀ c:Bool,(!((("no":Str) == s && ((1:Int) == (xs.length:Int) && true)) || ((("all":Str) == s && ((2:Int) == (xs.length:Int) && true)) || ((("some":Str) == s && ((2:Int) == (xs.length:Int) && true)) || false))))=false->xs.length<=100->xs.all k=c->zu (zE (ifS (zH qR (zG (z0 (vE 2) (z0 (ap1 jD (vB 3)) (zd)))) (zG (z0 (zG (z0 (cE (.str "no")) (z0 (cE (.int 1)) (zd)))) (z0 (zG (z0 (cE (.str "all")) (z0 (cE (.int 2)) (zd)))) (z0 (zG (z0 (cE (.str "some")) (z0 (cE (.int 2)) (zd)))) (zd)))))) (zV (cE (.bl false))) (nxS)) (zV (jR eqC (Zk (jS (vE 3)) (zD 0) (JV (jk (zb 2 (zA n 0) (z0 (vE 0) (z0 (ze WC (vE 1) (cE (.int 1))) (zd)))))) (vE 0) 1 [1]) (J6 (zd)))) (lq s xs ((d+1:Nat):Int)))= .ok (.bl c):=fun c q hl hc=>by
     rw [zi (zz (by rw [nin,q])),zB (t:= .bl c)]
     ·rfl
     ·rw [← hc]
      exact lrec (s:=s) (fun t ht=>H t (hm t ht)) hl
    by_cases h4:s="no"
    ·rw [if_pos h4]
     subst h4
     match xs,hm,quit2,pass with
     | [a],_,_,pass=>exact pass _ rfl (by decide:1<=100) (by show (k a && true)=k a; rw [Bool.and_true])
     | [],_,quit2,_=>exact quit2 _ rfl rfl
     | a :: b :: r,_,quit2,_=>
      refine quit2 _ ?_ rfl
      rw [show ((1:Int) == ((a :: b :: r).length:Int))=false from beq_eq_false_iff_ne.mpr (by simp only [List.length_cons]; omega)]
      rw [show (("all":Str) == "no")=false by decide,show (("some":Str) == "no")=false by decide]
      simp
    rw [if_neg h4]
    by_cases h5:s="all"\/s="some"
    ·rw [if_pos h5]
     match xs,hm,quit2,pass with
     | [a,b],_,_,pass=>exact pass _ (by rcases h5 with rfl | rfl <;> rfl) (by decide:2<=100) (by show (k a && (k b && true))=(k a && k b); rw [Bool.and_true])
     | [],_,quit2,_=>exact quit2 _ (by rcases h5 with rfl | rfl <;> rfl) rfl
     | [a],_,quit2,_=>exact quit2 _ (by rcases h5 with rfl | rfl <;> rfl) rfl
     | a :: b :: c :: r,_,quit2,_=>
      refine quit2 _ ?_ rfl
      rw [show ((2:Int) == ((a :: b :: c :: r).length:Int))=false from beq_eq_false_iff_ne.mpr (by simp only [List.length_cons]; omega)]
      rw [show (("no":Str) == s)=false from beq_eq_false_iff_ne.mpr (fun e=>h4 e.symm)]
      simp
    rw [if_neg h5]
    refine quit2 _ ?_ rfl
    rw [show (("no":Str) == s)=false from beq_eq_false_iff_ne.mpr (fun e=>h4 e.symm),show (("all":Str) == s)=false from beq_eq_false_iff_ne.mpr (fun e=>h5 (.inl e.symm)),show (("some":Str) == s)=false from beq_eq_false_iff_ne.mpr (fun e=>h5 (.inr e.symm))]
    rfl
   | _=>
    rw [quit (WP rfl (WP rfl (xk (by rw [wn,JC,jH,i0,bOk]; rfl))))]; rfl
 | _=>rw [quit (xk rfl)]; rfl
theorem Qs:∀ (d n:Nat),d+1<=n->∀ t,sOk t->zA n 0 [t, .int (d:Int)]= .ok (.bl (isR d t))
 | 0,n+1,_,t,_=>by
  show zu (Z7 Zr Zj (zA n 0) [.vl t, .vl (.int 0), .un, .un])=_
  have q:orT (JV (jk (ap1 (Jc "tuple") (vB 0)))) (orT (zH eqC (vB 0) (zG (zd))) (orT (JV (jk (ap1 (Jc "str") (ze ixT (vE 0) (cE (.int 0)))))) (zH ltC (vB 1) (cE (.int 1))))) [.vl t, .vl (.int 0), .un, .un]= .ok true:=by
   cases t with
   | tup ys=>
    cases ys with
    | nil=>exact WP rfl (xk rfl)
    | cons h xs=>
     have i0:ze ixT (vE 0) (cE (.int 0)) [.vl (.tup (h :: xs)), .vl (.int 0), .un, .un]= .ok h:=by rw [zo,v0,bOk,Zb,bOk,at0]
     refine WP rfl (WP rfl ?_)
     cases h with
     | str s=>exact WP (by rw [wn,JC,jH,i0,bOk]; rfl) rfl
     | _=>exact xk (by rw [wn,JC,jH,i0,bOk]; rfl)
   | _=>exact xk rfl
  rw [Z7,zN (t:= .bl false)]
  ·rfl
  ·rw [JM q]; rfl
 | d+1,n+1,h,t,ht=>Xw (fun t ht=>Qs d n (by omega) t ht) t ht
theorem jz (t:T) (ht:sOk t):zF 12 [t, .int 3]= .ok (.bl (isR 3 t)):=Qs 3 12 (by omega) t ht
end G
namespace G
open PySem L2 PV
theorem kl {d:Nat} {r:Ru} (h:Um d r):isR d r.t=true:=by
 induction h with
 | @sum d a b ha hb=>
  show (inR (-50) 50 (.int a) && inR (-50) 50 (.int b))=true
  show ((decide (-50<=a) && decide (a<=50)) && (decide (-50<=b) && decide (b<=50)))=true
  rw [decide_eq_true ha.1,decide_eq_true ha.2,decide_eq_true hb.1,decide_eq_true hb.2]; rfl
 | @size d a b ha hb=>
  show (inR (-50) 50 (.int a) && inR (-50) 50 (.int b))=true
  show ((decide (-50<=a) && decide (a<=50)) && (decide (-50<=b) && decide (b<=50)))=true
  rw [decide_eq_true ha.1,decide_eq_true ha.2,decide_eq_true hb.1,decide_eq_true hb.2]; rfl
 | @word d w h=>exact h
 | rising=>rfl
 | unlike=>rfl
 | @no d r h ih=>exact ih
 | @all d r s h h' ih ih' =>
  show (isR d r.t && isR d s.t)=true
  rw [ih,ih']; rfl
 | @some d r s h h' ih ih' =>
  show (isR d r.t && isR d s.t)=true
  rw [ih,ih']; rfl
noncomputable def fz:Nat->Nat
 | 0=>0
 | d+1=>4+2*fz d
theorem Qt {d:Nat} {r:Ru} (h:Um d r):Fit (d+1) (fz d) r.t:=by
 induction h with
 | @sum d a b ha hb=>refine ⟨?_, ?_, ?_⟩ <;> simp [Ru.t,sOk,W5,dep,wU,siz,ww,fz] <;> first | decide | omega
 | @size d a b ha hb=>refine ⟨?_, ?_, ?_⟩ <;> simp [Ru.t,sOk,W5,dep,wU,siz,ww,fz] <;> first | decide | omega
 | @word d w h=>
  have hw:w.length<=bnd:=Xt h
  refine ⟨⟨by simp only [sOk]; decide,hw,trivial⟩, ?_, ?_⟩ <;> simp [Ru.t,dep,wU,siz,ww,fz] <;> omega
 | rising=>refine ⟨?_, ?_, ?_⟩ <;> simp [Ru.t,sOk,W5,dep,wU,siz,ww,fz] <;> first | decide | omega
 | unlike=>refine ⟨?_, ?_, ?_⟩ <;> simp [Ru.t,sOk,W5,dep,wU,siz,ww,fz] <;> first | decide | omega
 | @no d r h ih=>
  obtain ⟨i1,i2,i3⟩:=ih
  refine ⟨⟨by simp only [sOk]; decide,i1,trivial⟩, ?_, ?_⟩ <;> simp [Ru.t,dep,wU,siz,ww,fz] <;> omega
 | @all d r s h h' ih ih' =>
  obtain ⟨i1,i2,i3⟩:=ih
  obtain ⟨j1,j2,j3⟩:=ih'
  refine ⟨⟨by simp only [sOk]; decide,i1,j1,trivial⟩, ?_, ?_⟩ <;> simp [Ru.t,dep,wU,siz,ww,fz] <;> omega
 | @some d r s h h' ih ih' =>
  obtain ⟨i1,i2,i3⟩:=ih
  obtain ⟨j1,j2,j3⟩:=ih'
  refine ⟨⟨by simp only [sOk]; decide,i1,j1,trivial⟩, ?_, ?_⟩ <;> simp [Ru.t,dep,wU,siz,ww,fz] <;> omega
theorem uc (t:T) (ht:sOk t):jr [t]=if isR 3 t=true then .ok .non else .ex 2:=by
 show zu (wf Za [.vl t])=_
 have e:JV (jk (zb 1 Za (z0 (vE 0) (zd)))) [.vl t]= .ok (!isR 3 t):=by
  rw [wn,JC,ZF,v0,bOk,w8 t ht,bOk,W6,bOk]
 rw [wf]
 cases h:isR 3 t with
 | true=>rw [h] at e; rw [if_f e]; rfl
 | false=>rw [h] at e; rw [JM e]; rfl
theorem Xx (t:T) (ht:sOk t) (hi:isR 3 t=false) (x:T):JL [t,x]= .ex 2:=by
 show zu (WM jr (Wv 8) (en2 t x))=_
 have e1:V8 (zb 1 jr (z0 (vE 0) (zd))) (en2 t x)= .ex 2:=by
  show (zb 1 _ _ _).s _=_
  rw [ZF,v0,bOk,uc _ ht,hi]; rfl
 rw [WM,GP e1]
 rfl
theorem xp {r:Ru} (hr:Um 3 r) {x:T} (hx:W 2 x):JL [r.t,x]= .ok (.bl (kp r x)):=by
 show zu (WM jr (Wv 8) (en2 r.t x))=_
 rw [WM,zi (KP (t:= .non) (by rw [ZF,v0,bOk,uc _ (Qt hr).1,kl hr]; rfl)),zB (t:= .bl (kp r x))]
 ·rfl
 ·show zb 2 _ _ (en2 _ x)=_
  rw [jt,v0,bOk,v1,bOk]
  exact WR (by omega) hx 8 3 (by omega) r hr
theorem z01:jq 2= .ok (.str "no rule"):=by rfl
theorem Xy {r:Ru} (hr:Um 3 r) {x:T} (hx:W 2 x):Z2 [r.t,x]= .ok (.bl (kp r x)):=by
 have e:Z2 [r.t,x]=zu (j9 jq JL [.vl r.t, .vl x, .un, .un, .un]):=rfl
 have e1:Z0 2 (cE .non) [.vl r.t, .vl x, .un, .un, .un]= .nx [.vl r.t, .vl x, .vl .non, .un, .un]:=rfl
 have e2:Z0 3 (cE .non) [.vl r.t, .vl x, .vl .non, .un, .un]= .nx [.vl r.t, .vl x, .vl .non, .vl .non, .un]:=rfl
 have e3:Z0 3 (zb 2 JL (z0 (vE 0) (z0 (vE 1) (zd)))) [.vl r.t, .vl x, .vl .non, .vl .non, .un]= .nx [.vl r.t, .vl x, .vl .non, .vl (.bl (kp r x)), .un]:=by
  rw [ZL (t:= .bl (kp r x))]
  ·rfl
  ·rw [jt,v0,bOk,v1,bOk,xp hr hx]
 have e4:K8 2 okX (Z0 3 (zb 2 JL (z0 (vE 0) (z0 (vE 1) (zd))))) [.vl r.t, .vl x, .vl .non, .vl .non, .un]= .nx [.vl r.t, .vl x, .vl .non, .vl (.bl (kp r x)), .un]:=by
  unfold K8
  rw [e3]
 have e5:Gj 2 [.vl r.t, .vl x, .vl .non, .vl (.bl (kp r x)), .un]= .ok true:=rfl
 rw [e,j9,zi e1,zi e2,zi e4,zN (t:= .bl (kp r x))]
 ·rfl
 ·rw [JM e5]; rfl
theorem Xz (t:T) (ht:sOk t) (hi:isR 3 t=false) (x:T):Z2 [t,x]= .ok (.str "no rule"):=by
 have e:Z2 [t,x]=zu (j9 jq JL [.vl t, .vl x, .un, .un, .un]):=rfl
 have e1:Z0 2 (cE .non) [.vl t, .vl x, .un, .un, .un]= .nx [.vl t, .vl x, .vl .non, .un, .un]:=rfl
 have e2:Z0 3 (cE .non) [.vl t, .vl x, .vl .non, .un, .un]= .nx [.vl t, .vl x, .vl .non, .vl .non, .un]:=rfl
 have e3:Z0 3 (zb 2 JL (z0 (vE 0) (z0 (vE 1) (zd)))) [.vl t, .vl x, .vl .non, .vl .non, .un]= .ex 2:=by
  rw [JD,jt,v0,bOk,v1,bOk,Xx t ht hi x]; rfl
 have e4:K8 2 okX (Z0 3 (zb 2 JL (z0 (vE 0) (z0 (vE 1) (zd))))) [.vl t, .vl x, .vl .non, .vl .non, .un]= .nx [.un, .un, .xc 2, .un, .un]:=by
  unfold K8
  rw [e3]
  rfl
 have e5:Gj 2 [.un, .un, .xc 2, .un, .un]= .ok false:=rfl
 rw [e,j9,zi e1,zi e2,zi e4,zi (zz e5),zB (t:= .str "no rule")]
 ·rfl
 ·show jq 2=_
  exact z01
end G
namespace G
open PySem L2 PV
theorem KZ {f g:En->R T} {ρ:En} {a b:Bool} (hf:f ρ= .ok (.bl a)) (hg:g ρ= .ok (.bl b)) (h:a=b):zH neC f g ρ= .ok false:=by
 subst h
 rw [zZ,hf,bOk,hg,bOk]
 cases a <;> rfl
theorem z1l {k:Kd} (hk:k.Ok 3) {x:T} (hx:x∈k.all):W 2 x:=z1h 2 k x hk ((yk k x).mp hx)
noncomputable abbrev e40 (ns:List Int) (r:Ru) (k:Kd) (a b c d e f g:Sl):En:=[.vl (scr ns), .vl r.t, .vl (Ru.no (.no r)).t, .vl k.t, .vl (.lst k.all),a,b,c,d,e,f,g]
noncomputable abbrev w1B:En->RS:=zE (Z0 6 (zb 2 Z2 (z0 (vE 1) (z0 (vE 5) (zd)))))
  (ifS (orT (zH neC (vB 6) (zb 2 (jG 8) (z0 (vE 1) (z0 (vE 5) (zd))))) (JV (jk (ap1 (Jc "bool") (vB 6))))) (zV (cE (.bl false))) (nxS))
theorem xr (ns:List Int) {r:Ru} (hr:Um 3 r) {k:Kd} {c d e f g:Sl}:∀ (xs:List T) (a b:Sl),(∀ x∈xs,W 2 x)->∃ a' b',jW (zD 5) w1B xs (e40 ns r k a b c d e f g)= .nx (e40 ns r k a' b' c d e f g)
 | [],a,b,_=>⟨a,b,rfl⟩
 | x :: xs,a,b,H=>by
  have hx:=H x List.mem_cons_self
  obtain ⟨a',b',h⟩:=xr ns hr (k:=k) (c:=c) (d:=d) (e:=e) (f:=f) (g:=g) xs (.vl x) (.vl (.bl (kp r x))) fun y hy=>H y (List.mem_cons_of_mem _ hy)
  refine ⟨a',b', ?_⟩
  have s5:zD 5 x (e40 ns r k a b c d e f g)= .ok (e40 ns r k (.vl x) b c d e f g):=rfl
  have e1:Z0 6 (zb 2 Z2 (z0 (vE 1) (z0 (vE 5) (zd)))) (e40 ns r k (.vl x) b c d e f g)= .nx (e40 ns r k (.vl x) (.vl (.bl (kp r x))) c d e f g):=by
   rw [ZL (t:= .bl (kp r x))]
   ·rfl
   ·rw [jt,v1,bOk,show vE 5 (e40 ns r k (.vl x) b c d e f g)= .ok x from rfl,bOk,Xy hr hx]
  have e2:orT (zH neC (vB 6) (zb 2 (jG 8) (z0 (vE 1) (z0 (vE 5) (zd))))) (JV (jk (ap1 (Jc "bool") (vB 6)))) (e40 ns r k (.vl x) (.vl (.bl (kp r x))) c d e f g)= .ok false:=by
   refine WP (KZ (a:=kp r x) (b:=kp r x) rfl ?_ rfl) rfl
   rw [jt,v1,bOk,show vE 5 (e40 ns r k (.vl x) (.vl (.bl (kp r x))) c d e f g)= .ok x from rfl,bOk]
   exact wY (by omega) hx 8 3 (by omega) r hr
  have eb:w1B (e40 ns r k (.vl x) b c d e f g)= .nx (e40 ns r k (.vl x) (.vl (.bl (kp r x))) c d e f g):=by
   unfold w1B
   rw [zi e1,zz e2]
  rw [U0 s5 eb,h]
noncomputable abbrev w2B:En->RS:=zE (Z0 8 (zb 3 zP (z0 (vE 0) (z0 (ze zx (cE (.int 6000)) (ze ZD (cE (.int 20)) (vE 7))) (z0 (vE 1) (zd))))))
  (zE (ifS (orT (zH neC (zb 1 Za (z0 (vE 8) (zd))) (zb 2 (zF 12) (z0 (vE 8) (z0 (cE (.int 3)) (zd))))) (JV (jk (ap1 (Jc "bool") (zb 1 Za (z0 (vE 8) (zd))))))) (zV (cE (.bl false))) (nxS))
  (ifS (qS (JV (jk (zb 2 (zF 12) (z0 (vE 8) (z0 (cE (.int 3)) (zd)))))) (zH neC (zb 2 Z2 (z0 (vE 8) (z0 (ze ixT (vE 4) (cE (.int 0))) (zd)))) (cE (.str "no rule")))) (zV (cE (.bl false))) (nxS)))
theorem z02 (j:Int):ZD (.int 20) (.int j)= .ok (.int (20*j)):=qi _ _ (.inl ⟨by decide,by decide⟩)
theorem xt (ns:List Int) {r:Ru} (hr:Um 3 r) {k:Kd} (hk:k.Ok 3) {a b e f g:Sl}:∀ (js:List Nat) (c d:Sl),∃ c' d',jW (zD 7) w2B (js.map fun (j:Nat)=>T.int (0+(j:Int))) (e40 ns r k a b c d e f g)= .nx (e40 ns r k a b c' d' e f g)
 | [],c,d=>⟨c,d,rfl⟩
 | j :: js,c,d=>by
  obtain ⟨t,et,hF⟩:=VG ns (6000+20*(0+(j:Int))) (by omega) (D:=4) (S:=fz 3) (by omega) (by decide) (Qt hr)
  have hs:=hF.1
  obtain ⟨x0,hx0⟩:=GQ (WN 3 k hk)
  obtain ⟨c',d',h⟩:=xt ns hr hk (a:=a) (b:=b) (e:=e) (f:=f) (g:=g) js (.vl (.int (0+(j:Int)))) (.vl t)
  refine ⟨c',d', ?_⟩
  have s7:zD 7 (T.int (0+(j:Int))) (e40 ns r k a b c d e f g)= .ok (e40 ns r k a b (.vl (.int (0+(j:Int)))) d e f g):=rfl
  have e1:Z0 8 (zb 3 zP (z0 (vE 0) (z0 (ze zx (cE (.int 6000)) (ze ZD (cE (.int 20)) (vE 7))) (z0 (vE 1) (zd))))) (e40 ns r k a b (.vl (.int (0+(j:Int)))) d e f g)= .nx (e40 ns r k a b (.vl (.int (0+(j:Int)))) (.vl t) e f g):=by
   rw [ZL (t:=t)]
   ·rfl
   ·rw [jg,v0,bOk,zo,Zb,bOk,zo,Zb,bOk,show vE 7 (e40 ns r k a b (.vl (.int (0+(j:Int)))) d e f g)= .ok (.int (0+(j:Int))) from rfl,bOk,z02,bOk,Zo,bOk,v1,bOk,et]
  have v8:vE 8 (e40 ns r k a b (.vl (.int (0+(j:Int)))) (.vl t) e f g)= .ok t:=rfl
  have p1:zb 1 Za (z0 (vE 8) (zd)) (e40 ns r k a b (.vl (.int (0+(j:Int)))) (.vl t) e f g)= .ok (.bl (isR 3 t)):=by rw [ZF,v8,bOk,w8 t hs]
  have p2:zb 2 (zF 12) (z0 (vE 8) (z0 (cE (.int 3)) (zd))) (e40 ns r k a b (.vl (.int (0+(j:Int)))) (.vl t) e f g)= .ok (.bl (isR 3 t)):=by rw [jt,v8,bOk,Zb,bOk,jz t hs]
  have e2:orT (zH neC (zb 1 Za (z0 (vE 8) (zd))) (zb 2 (zF 12) (z0 (vE 8) (z0 (cE (.int 3)) (zd))))) (JV (jk (ap1 (Jc "bool") (zb 1 Za (z0 (vE 8) (zd)))))) (e40 ns r k a b (.vl (.int (0+(j:Int)))) (.vl t) e f g)= .ok false:=by
   refine WP (KZ p1 p2 rfl) ?_
   rw [wn,JC,jH,p1,bOk]
   rfl
  have e3:qS (JV (jk (zb 2 (zF 12) (z0 (vE 8) (z0 (cE (.int 3)) (zd)))))) (zH neC (zb 2 Z2 (z0 (vE 8) (z0 (ze ixT (vE 4) (cE (.int 0))) (zd)))) (cE (.str "no rule"))) (e40 ns r k a b (.vl (.int (0+(j:Int)))) (.vl t) e f g)= .ok false:=by
   rw [Vs,wn,JC,p2,bOk,W6,bOk,bOk]
   cases hi:isR 3 t with
   | true=>rfl
   | false=>
    rw [if_pos (show (!false)=true from rfl),zZ,jt,v8,bOk,zo,show vE 4 (e40 ns r k a b (.vl (.int (0+(j:Int)))) (.vl t) e f g)= .ok (.lst k.all) from rfl,bOk,Zb,bOk,show ixT (.lst k.all) (.int 0)= .ok x0 from VD (j:=0) hx0,bOk,Xz t hs hi x0,bOk,Zb,bOk]
    rfl
  have eb:w2B (e40 ns r k a b (.vl (.int (0+(j:Int)))) d e f g)= .nx (e40 ns r k a b (.vl (.int (0+(j:Int)))) (.vl t) e f g):=by
   unfold w2B
   rw [zi e1,zi (zz e2),zz e3]
  rw [List.map_cons,U0 s7 eb,h]
theorem XA:∀ bs:List Bool,eqC (.lst (bs.map T.bl)) (.lst (bs.map T.bl))= .ok true:=fun bs=>Xq (fun x hx=>by obtain ⟨b,_,rfl⟩:=List.mem_map.mp hx; exact trivial)
end G
namespace G
open PySem L2 PV
noncomputable def inn (w:Str):T:= .tup [.str w, .tup [.str "rising"], .tup [.str w, .tup [.str "unlike"], .tup [.str "sum", .int 50, .int 50]]]
noncomputable def z1m (w:Str):List T:=[inn w, .tup [.str w,inn w, .tup [.str "rising"]], .tup [.str w, .tup [.str "rising"],inn w], .tup [.str "no",inn w], .tup [.str w,inn w]]
noncomputable def six:List T:=[.tup [.str "sum", .int (-50), .int 50], .tup [.str "sum", .int (-51), .int 0], .tup [.str "size", .int 0, .int 51], .tup [.str "word", .str "zzz"], .tup [.str "word", .str "zzzz"], .tup [.str "rising", .int 1]]
noncomputable def bds:List T:=six++z1m "all"++z1m "some"
theorem z03:∀ t∈bds,sOk t:=by
 have h:W5 bds:=by
  simp only [bds,six,z1m,inn,List.cons_append,List.nil_append,W5,sOk,and_true,true_and]
  repeat' apply And.intro
  all_goals decide
 exact fun t ht=>uw h ht
theorem law_ok (ns:List Int) (hn:ns.length<=63):y6 [.fz (ns.map T.int)]= .ok (.bl true):=by
 obtain ⟨r,er,hr⟩:=yn ns 8 3 (by omega) (by omega) 0 (by omega)
 obtain ⟨k,hk,hl,hs0⟩:=Xp ns 1000 (by omega) 40 (by omega)
 have hall:zL 8 [k.t]= .ok (.lst k.all):=VO 3 8 (by omega) (by omega) k hk (by omega)
 have hsr:sOk r.t:=(Qt hr).1
 have hR:=kl hr
 have hsd:sOk (Ru.no (.no r)).t:=(Qt (.no (.no hr))).1
 show zu (X7 (zL 8) j8 zP Z2 Za (wd 8) (jG 8) (zF 12) [.vl (scr ns), .un, .un, .un, .un, .un, .un, .un, .un, .un, .un, .un])=_
 have e1:Z0 1 (zb 3 (wd 8) (z0 (vE 0) (z0 (cE (.int 0)) (z0 (cE (.int 3)) (zd))))) [.vl (scr ns), .un, .un, .un, .un, .un, .un, .un, .un, .un, .un, .un]= .nx [.vl (scr ns), .vl r.t, .un, .un, .un, .un, .un, .un, .un, .un, .un, .un]:=by
  rw [ZL (t:=r.t)]
  ·rfl
  ·rw [jg,v0,bOk,Zb,bOk,Zb,bOk]; exact er
 have t1:orT (zH Uq (zb 1 Za (z0 (vE 1) (zd))) (cE (.bl true))) (zH Uq (zb 2 (zF 12) (z0 (vE 1) (z0 (cE (.int 3)) (zd)))) (cE (.bl true))) [.vl (scr ns), .vl r.t, .un, .un, .un, .un, .un, .un, .un, .un, .un, .un]= .ok false:=by
  refine WP ?_ ?_
  ·rw [zZ,ZF,v1,bOk,w8 r.t hsr,hR,bOk]; rfl
  ·rw [zZ,jt,v1,bOk,Zb,bOk,jz r.t hsr,hR,bOk]; rfl
 have e2:Z0 2 (zG (z0 (cE (.str "no")) (z0 (zG (z0 (cE (.str "no")) (z0 (vE 1) (zd)))) (zd)))) [.vl (scr ns), .vl r.t, .un, .un, .un, .un, .un, .un, .un, .un, .un, .un]= .nx [.vl (scr ns), .vl r.t, .vl (Ru.no (.no r)).t, .un, .un, .un, .un, .un, .un, .un, .un, .un]:=rfl
 have t2:zH neC (zb 1 Za (z0 (vE 2) (zd))) (zb 2 (zF 12) (z0 (vE 2) (z0 (cE (.int 3)) (zd)))) [.vl (scr ns), .vl r.t, .vl (Ru.no (.no r)).t, .un, .un, .un, .un, .un, .un, .un, .un, .un]= .ok false:=
  KZ (by rw [ZF,v2,bOk,w8 _ hsd]) (by rw [jt,v2,bOk,Zb,bOk,jz _ hsd]) rfl
 have e3:Z0 3 (zb 3 j8 (z0 (vE 0) (z0 (cE (.int 1000)) (z0 (cE (.int 40)) (zd))))) [.vl (scr ns), .vl r.t, .vl (Ru.no (.no r)).t, .un, .un, .un, .un, .un, .un, .un, .un, .un]= .nx [.vl (scr ns), .vl r.t, .vl (Ru.no (.no r)).t, .vl k.t, .un, .un, .un, .un, .un, .un, .un, .un]:=by
  rw [ZL (t:=k.t)]
  ·rfl
  ·rw [jg,v0,bOk,Zb,bOk,Zb,bOk]; exact hs0
 have e4:Z0 4 (zb 1 (zL 8) (z0 (vE 3) (zd))) [.vl (scr ns), .vl r.t, .vl (Ru.no (.no r)).t, .vl k.t, .un, .un, .un, .un, .un, .un, .un, .un]= .nx (e40 ns r k .un .un .un .un .un .un .un):=by
  rw [ZL (t:= .lst k.all)]
  ·rfl
  ·rw [ZF,v3,bOk,hall]
 obtain ⟨a,b,l1⟩:=xr ns hr (k:=k) (c:= .un) (d:= .un) (e:= .un) (f:= .un) (g:= .un) k.all .un .un fun x hx=>z1l hk hx
 have e5:JY (jS (vE 4)) (zD 5) w1B (e40 ns r k .un .un .un .un .un .un .un)= .nx (e40 ns r k a b .un .un .un .un .un):=by
  unfold JY
  rw [jT,show vE 4 (e40 ns r k .un .un .un .un .un .un .un)= .ok (.lst k.all) from rfl,bOk]
  exact l1
 obtain ⟨c,d,l2⟩:=xt ns hr hk (a:=a) (b:=b) (e:= .un) (f:= .un) (g:= .un) (List.range 5) .un .un
 have e6:JY (jM (cE (.int 5))) (zD 7) w2B (e40 ns r k a b .un .un .un .un .un)= .nx (e40 ns r k a b c d .un .un .un):=by
  unfold JY
  rw [VW (j:=5) rfl (by decide),jL]
  exact l2
 have e9:YY 9 (z0 (zG (z0 (cE (.str "sum")) (z0 (yV (cE (.int 50))) (z0 (cE (.int 50)) (zd))))) (z0 (zG (z0 (cE (.str "sum")) (z0 (yV (cE (.int 51))) (z0 (cE (.int 0)) (zd))))) (z0 (zG (z0 (cE (.str "size")) (z0 (cE (.int 0)) (z0 (cE (.int 51)) (zd))))) (z0 (zG (z0 (cE (.str "word")) (z0 (cE (.str "zzz")) (zd)))) (z0 (zG (z0 (cE (.str "word")) (z0 (cE (.str "zzzz")) (zd)))) (z0 (zG (z0 (cE (.str "rising")) (z0 (cE (.int 1)) (zd)))) (zd))))))) (e40 ns r k a b c d .un .un .un)= .nx (e40 ns r k a b c d (.ow six) .un .un):=rfl
 have e10:JY (jS (zG (z0 (cE (.str "all")) (z0 (cE (.str "some")) (zd))))) (zD 10) (zE (Z0 11 (zG (z0 (vE 10) (z0 (zG (z0 (cE (.str "rising")) (zd))) (z0 (zG (z0 (vE 10) (z0 (zG (z0 (cE (.str "unlike")) (zd))) (z0 (zG (z0 (cE (.str "sum")) (z0 (cE (.int 50)) (z0 (cE (.int 50)) (zd))))) (zd))))) (zd)))))) (YZ 9 (J6 (z0 (vE 11) (z0 (zG (z0 (vE 10) (z0 (vE 11) (z0 (zG (z0 (cE (.str "rising")) (zd))) (zd))))) (z0 (zG (z0 (vE 10) (z0 (zG (z0 (cE (.str "rising")) (zd))) (z0 (vE 11) (zd))))) (z0 (zG (z0 (cE (.str "no")) (z0 (vE 11) (zd)))) (z0 (zG (z0 (vE 10) (z0 (vE 11) (zd)))) (zd))))))))) (e40 ns r k a b c d (.ow six) .un .un)= .nx (e40 ns r k a b c d (.ow bds) (.vl (.str "some")) (.vl (inn "some"))):=rfl
 rw [X7,zi e1,zi (zz t1),zi e2,zi (zz t2),zi e3,zi e4,zi e5,zi e6,zi e9,zi e10]
 rw [zB (t:= .bl true)]
 ·rfl
 ·have c1:Z3 (zD 0) ZP (zb 1 Za (z0 (vE 0) (zd))) 1 [] (e40 ns r k (um a) (um b) (um c) (um d) (.vl (.lst bds)) (.vl (.str "some")) (.vl (inn "some"))) bds= .ok (bds.map fun t=> .bl (isR 3 t)):=
   Jg _ (by decide) fun t ht=>by
    show zb 1 _ _ [.vl t]=_
    rw [ZF,v0,bOk,w8 t (z03 t ht)]
  have c2:Z3 (zD 0) ZP (zb 2 (zF 12) (z0 (vE 0) (z0 (cE (.int 3)) (zd)))) 1 [] (e40 ns r k (um a) (um b) (um c) (um d) (.vl (.lst bds)) (.vl (.str "some")) (.vl (inn "some"))) bds= .ok (bds.map fun t=> .bl (isR 3 t)):=
   Jg _ (by decide) fun t ht=>by
    show zb 2 _ _ [.vl t]=_
    rw [jt,v0,bOk,Zb,bOk,jz t (z03 t ht)]
  show jR eqC _ _ (e40 ns r k (um a) (um b) (um c) (um d) (.vl (.lst bds)) (.vl (.str "some")) (.vl (inn "some")))=_
  rw [ZQ,Zn,jT,show vE 9 (e40 ns r k (um a) (um b) (um c) (um d) (.vl (.lst bds)) (.vl (.str "some")) (.vl (inn "some")))= .ok (.lst bds) from rfl,bOk,show Y0 (.lst bds)= .ok bds from rfl,bOk,c1,bOk,bOk,Zn,jT,show vE 9 (e40 ns r k (um a) (um b) (um c) (um d) (.vl (.lst bds)) (.vl (.str "some")) (.vl (inn "some")))= .ok (.lst bds) from rfl,bOk,show Y0 (.lst bds)= .ok bds from rfl,bOk,c2,bOk,bOk]
  have:=XA (bds.map (isR 3))
  rw [List.map_map] at this
  show (eqC (.lst (bds.map (T.bl ∘ isR 3))) (.lst (bds.map (T.bl ∘ isR 3)))).bind _=_
  rw [this,bOk]
end G
namespace G
open PySem PySem.Spec PyProof.Rows L2 PV
noncomputable def top (i:Nat):Stmt:=PySem.Challenge.pw_worthkinds_k40_rules.main.body.getD i (.Pass ⟨0,0,0,0⟩)
noncomputable abbrev U4:Stmt:=top 27
noncomputable abbrev qu:List Str:=["_law_script","_law_k"]
theorem Yr:zt qu ["_law_script","_law_k"] (zf U4):=by refine ⟨rfl,rfl,rfl, ?_,rfl, ?_, ?_⟩ <;> decide+kernel
noncomputable abbrev U5:Stmt:=top 28
noncomputable abbrev qv:List Str:=["_law_script","_law_k","_law_many","_law_drawn"]
theorem ud:zt qv ["_law_script","_law_k","_law_many"] (zf U5):=by refine ⟨rfl,rfl,rfl, ?_,rfl, ?_, ?_⟩ <;> decide+kernel
noncomputable abbrev U6:Stmt:=top 43
noncomputable abbrev qw:List Str:=["_law_script","_law_at_here","_law_deep","_law_way","_law_one","_law_low"]
theorem JE:zt qw ["_law_script","_law_at_here","_law_deep"] (zf U6):=by refine ⟨rfl,rfl,rfl, ?_,rfl, ?_, ?_⟩ <;> decide+kernel
noncomputable abbrev JN:Stmt:=top 29
noncomputable abbrev W7:List Str:=["_law_script","_law_at_here","_law_letters"]
theorem wE:zt W7 ["_law_script","_law_at_here"] (zf JN):=by refine ⟨rfl,rfl,rfl, ?_,rfl, ?_, ?_⟩ <;> decide+kernel
noncomputable abbrev jO:Stmt:=top 30
noncomputable abbrev wo:List Str:=["_law_script","_law_at_here","_law_low","_law_words","_law_k","_law_word_here"]
theorem Z8:zt wo ["_law_script","_law_at_here"] (zf jO):=by refine ⟨rfl,rfl,rfl, ?_,rfl, ?_, ?_⟩ <;> decide+kernel
noncomputable abbrev Wf:Stmt:=top 31
noncomputable abbrev U7:List Str:=["_law_script","_law_at_here","_law_deep","_law_way","_law_some","_law_low"]
theorem JF:zt U7 ["_law_script","_law_at_here","_law_deep"] (zf Wf):=by refine ⟨rfl,rfl,rfl, ?_,rfl, ?_, ?_⟩ <;> decide+kernel
noncomputable abbrev JO:Stmt:=top 33
noncomputable abbrev W8:List Str:=["_law_lists","_law_made","_law_some","_law_longer","_law_ahead"]
theorem Zp:zt W8 ["_law_lists"] (zf JO):=by refine ⟨rfl,rfl,rfl, ?_,rfl, ?_, ?_⟩ <;> decide+kernel
noncomputable abbrev wZ:Stmt:=top 32
noncomputable abbrev WS:List Str:=["_law_kind_here","_law_made","_law_size_here"]
theorem Wg:zt WS ["_law_kind_here"] (zf wZ):=by refine ⟨rfl,rfl,rfl, ?_,rfl, ?_, ?_⟩ <;> decide+kernel
noncomputable abbrev Wh:Stmt:=top 34
noncomputable abbrev U8:List Str:=["_law_kind_here","_law_sizes","_law_made","_law_size_here","_law_inner"]
theorem Zh:zt U8 ["_law_kind_here"] (zf Wh):=by refine ⟨rfl,rfl,rfl, ?_,rfl, ?_, ?_⟩ <;> decide+kernel
noncomputable abbrev ue:Stmt:=top 35
noncomputable abbrev Ys:List Str:=["_law_script","_law_at_here","_law_most","_law_kind_here","_law_k"]
theorem J4:zt Ys ["_law_script","_law_at_here","_law_most"] (zf ue):=by refine ⟨rfl,rfl,rfl, ?_,rfl, ?_, ?_⟩ <;> decide+kernel
noncomputable abbrev UL:Stmt:=top 9
noncomputable abbrev QX:List Str:=["thing"]
theorem qx:zt QX ["thing"] (zf UL):=by refine ⟨rfl,rfl,rfl, ?_,rfl, ?_, ?_⟩ <;> decide+kernel
noncomputable abbrev UM:Stmt:=top 18
noncomputable abbrev QY:List Str:=["thing"]
theorem qy:zt QY ["thing"] (zf UM):=by refine ⟨rfl,rfl,rfl, ?_,rfl, ?_, ?_⟩ <;> decide+kernel
noncomputable abbrev U9:Stmt:=top 10
noncomputable abbrev Yt:List Str:=["thing"]
theorem QZ:zt Yt ["thing"] (zf U9):=by refine ⟨rfl,rfl,rfl, ?_,rfl, ?_, ?_⟩ <;> decide+kernel
noncomputable abbrev wp:Stmt:=top 17
noncomputable abbrev uo:List Str:=["thing","levels"]
theorem WT:zt uo ["thing","levels"] (zf wp):=by refine ⟨rfl,rfl,rfl, ?_,rfl, ?_, ?_⟩ <;> decide+kernel
noncomputable abbrev Yu:Stmt:=top 14
noncomputable abbrev xu:List Str:=["thing"]
theorem v6:zt xu ["thing"] (zf Yu):=by refine ⟨rfl,rfl,rfl, ?_,rfl, ?_, ?_⟩ <;> decide+kernel
noncomputable abbrev JP:Stmt:=top 37
noncomputable abbrev W9:List Str:=["_law_thing"]
theorem Ua:zt W9 ["_law_thing"] (zf JP):=by refine ⟨rfl,rfl,rfl, ?_,rfl, ?_, ?_⟩ <;> decide+kernel
noncomputable abbrev uf:Stmt:=top 36
noncomputable abbrev Yv:List Str:=["_law_thing","_law_low","_law_high"]
theorem yr:zt Yv ["_law_thing","_law_low","_law_high"] (zf uf):=by refine ⟨rfl,rfl,rfl, ?_,rfl, ?_, ?_⟩ <;> decide+kernel
noncomputable abbrev jA:Stmt:=top 48
noncomputable abbrev JQ:List Str:=["_law_thing","_law_deep","_law_word_here","_law_rest"]
theorem wF:zt JQ ["_law_thing","_law_deep"] (zf jA):=by refine ⟨rfl,rfl,rfl, ?_,rfl, ?_, ?_⟩ <;> decide+kernel
noncomputable abbrev Ub:Stmt:=top 46
noncomputable abbrev qz:List Str:=["_law_kept","_law_kinds"]
theorem ug:zt qz ["_law_kept"] (zf Ub):=by refine ⟨rfl,rfl,rfl, ?_,rfl, ?_, ?_⟩ <;> decide+kernel
noncomputable abbrev Uc:Stmt:=top 16
noncomputable abbrev qA:List Str:=["rule"]
theorem Yw:zt qA ["rule"] (zf Uc):=by refine ⟨rfl,rfl,rfl, ?_,rfl, ?_, ?_⟩ <;> decide+kernel
noncomputable abbrev wG:Stmt:=top 25
noncomputable abbrev uh:List Str:=["parts"]
theorem yt:zt uh ["parts"] (zf wG):=by refine ⟨rfl,rfl,rfl, ?_,rfl, ?_, ?_⟩ <;> decide+kernel
noncomputable abbrev wH:Stmt:=top 24
noncomputable abbrev ui:List Str:=["numbers"]
theorem yu:zt ui ["numbers"] (zf wH):=by refine ⟨rfl,rfl,rfl, ?_,rfl, ?_, ?_⟩ <;> decide+kernel
noncomputable abbrev UN:Stmt:=top 21
noncomputable abbrev v7:List Str:=["worth"]
theorem qB:zt v7 ["worth"] (zf UN):=by refine ⟨rfl,rfl,rfl, ?_,rfl, ?_, ?_⟩ <;> decide+kernel
noncomputable abbrev Ud:Stmt:=top 22
noncomputable abbrev qC:List Str:=["worth","leaves","part"]
theorem wI:zt qC ["worth"] (zf Ud):=by refine ⟨rfl,rfl,rfl, ?_,rfl, ?_, ?_⟩ <;> decide+kernel
noncomputable abbrev wJ:Stmt:=top 23
noncomputable abbrev uj:List Str:=["worth"]
theorem yv:zt uj ["worth"] (zf wJ):=by refine ⟨rfl,rfl,rfl, ?_,rfl, ?_, ?_⟩ <;> decide+kernel
noncomputable abbrev wq:Stmt:=top 20
noncomputable abbrev uq:List Str:=["rule","worth"]
theorem WU:zt uq ["rule","worth"] (zf wq):=by refine ⟨rfl,rfl,rfl, ?_,rfl, ?_, ?_⟩ <;> decide+kernel
noncomputable abbrev Yx:Stmt:=top 19
noncomputable abbrev xv:List Str:=["rule","worth"]
theorem v9:zt xv ["rule","worth"] (zf Yx):=by refine ⟨rfl,rfl,rfl, ?_,rfl, ?_, ?_⟩ <;> decide+kernel
noncomputable abbrev xw:Stmt:=top 15
noncomputable abbrev g6:List Str:=["rule","worth"]
theorem XB:zt g6 ["rule","worth"] (zf xw):=by refine ⟨rfl,rfl,rfl, ?_,rfl, ?_, ?_⟩ <;> decide+kernel
noncomputable abbrev uk:Stmt:=top 47
noncomputable abbrev Yy:List Str:=["_law_rule_here","_law_worth","_law_kept","_law_answer","e"]
theorem jh:zt Yy ["_law_rule_here","_law_worth"] (zf uk):=by refine ⟨rfl,rfl,rfl, ?_,rfl, ?_, ?_⟩ <;> decide+kernel
noncomputable abbrev wj:Stmt:=top 39
noncomputable abbrev Wz:List Str:=["_law_thing","_law_made","_law_k"]
theorem JR:zt Wz ["_law_thing"] (zf wj):=by refine ⟨rfl,rfl,rfl, ?_,rfl, ?_, ?_⟩ <;> decide+kernel
noncomputable abbrev Yz:Stmt:=top 40
noncomputable abbrev xx:List Str:=["_law_thing","_law_place","_law_k"]
theorem WV:zt xx ["_law_thing","_law_place"] (zf Yz):=by refine ⟨rfl,rfl,rfl, ?_,rfl, ?_, ?_⟩ <;> decide+kernel
noncomputable abbrev UO:Stmt:=top 41
noncomputable abbrev va:List Str:=["_law_thing","_law_place","_law_new","_law_k"]
theorem Ue:zt va ["_law_thing","_law_place","_law_new"] (zf UO):=by refine ⟨rfl,rfl,rfl, ?_,rfl, ?_, ?_⟩ <;> decide+kernel
noncomputable abbrev Jh:Stmt:=top 42
noncomputable abbrev Wi:List Str:=["_law_script","_law_at_here","_law_thing","_law_places_here","_law_place","_law_here","_law_some","_law_way","_law_k"]
theorem zI:zt Wi ["_law_script","_law_at_here","_law_thing"] (zf Jh):=by refine ⟨rfl,rfl,rfl, ?_,rfl, ?_, ?_⟩ <;> decide+kernel
noncomputable abbrev WA:Stmt:=top 44
noncomputable abbrev yw:List Str:=["_law_worth","_law_made","_law_part"]
theorem jB:zt yw ["_law_worth"] (zf WA):=by refine ⟨rfl,rfl,rfl, ?_,rfl, ?_, ?_⟩ <;> decide+kernel
noncomputable abbrev ja:Stmt:=top 45
noncomputable abbrev jJ:List Str:=["_law_rule_here","_law_worth","_law_numbers","_law_parts","_law_total","_law_number","_law_some"]
theorem Zz:zt jJ ["_law_rule_here","_law_worth"] (zf ja):=by refine ⟨rfl,rfl,rfl, ?_,rfl, ?_, ?_⟩ <;> decide+kernel
noncomputable abbrev XD:Stmt:=top 49
noncomputable abbrev g9:List Str:=["_law_script","_law_rule_here","_law_deep","_law_kind_here","_law_every","_law_worth","_law_told","_law_k","_law_thing","_law_bounds","_law_word_here","_law_inner"]
theorem wt:zt g9 ["_law_script"] (zf XD):=by refine ⟨rfl,rfl,rfl, ?_,rfl, ?_, ?_⟩ <;> decide+kernel
structure Fn (K:PySem.W.Frag) (mg:Str->Option Value) (x:Str) (st:Stmt) (ps:List Str) (f:Addr) (fd:FuncData):Prop where
 F:Fun K x x st f fd
 b:L2.Binds K fd ps []
 m:mg x=some (.ref f)
noncomputable abbrev bmVE:List Value:=[.type "ValueError", .type "Exception", .type "BaseException", .type "object"]
set_option genInjectivity false in
set_option genSizeOf false in
structure Tx (K:PySem.W.Frag) (mg:Str->Option Value) where
 a__law_cell:Addr
 d__law_cell:FuncData
 C__law_cell:Fn K mg "_law_cell" U4 ["_law_script","_law_k"] a__law_cell d__law_cell
 a__law_pick:Addr
 d__law_pick:FuncData
 C__law_pick:Fn K mg "_law_pick" U5 ["_law_script","_law_k","_law_many"] a__law_pick d__law_pick
 a__law_rule:Addr
 d__law_rule:FuncData
 C__law_rule:Fn K mg "_law_rule" U6 ["_law_script","_law_at_here","_law_deep"] a__law_rule d__law_rule
 a__law_word_of:Addr
 d__law_word_of:FuncData
 C__law_word_of:Fn K mg "_law_word_of" JN ["_law_script","_law_at_here"] a__law_word_of d__law_word_of
 a__law_leaf_kind:Addr
 d__law_leaf_kind:FuncData
 C__law_leaf_kind:Fn K mg "_law_leaf_kind" jO ["_law_script","_law_at_here"] a__law_leaf_kind d__law_leaf_kind
 a__law_kind:Addr
 d__law_kind:FuncData
 C__law_kind:Fn K mg "_law_kind" Wf ["_law_script","_law_at_here","_law_deep"] a__law_kind d__law_kind
 a__law_rows_of:Addr
 d__law_rows_of:FuncData
 C__law_rows_of:Fn K mg "_law_rows_of" JO ["_law_lists"] a__law_rows_of d__law_rows_of
 a__law_all:Addr
 d__law_all:FuncData
 C__law_all:Fn K mg "_law_all" wZ ["_law_kind_here"] a__law_all d__law_all
 a__law_size:Addr
 d__law_size:FuncData
 C__law_size:Fn K mg "_law_size" Wh ["_law_kind_here"] a__law_size d__law_size
 a__law_small:Addr
 d__law_small:FuncData
 C__law_small:Fn K mg "_law_small" ue ["_law_script","_law_at_here","_law_most"] a__law_small d__law_small
 a_is_whole:Addr
 d_is_whole:FuncData
 C_is_whole:Fn K mg "is_whole" UL ["thing"] a_is_whole d_is_whole
 a_is_bound:Addr
 d_is_bound:FuncData
 C_is_bound:Fn K mg "is_bound" UM ["thing"] a_is_bound d_is_bound
 a_is_word:Addr
 d_is_word:FuncData
 C_is_word:Fn K mg "is_word" U9 ["thing"] a_is_word d_is_word
 a_is_rule_within:Addr
 d_is_rule_within:FuncData
 C_is_rule_within:Fn K mg "is_rule_within" wp ["thing","levels"] a_is_rule_within d_is_rule_within
 a_is_rule:Addr
 d_is_rule:FuncData
 C_is_rule:Fn K mg "is_rule" Yu ["thing"] a_is_rule d_is_rule
 a__law_is_word:Addr
 d__law_is_word:FuncData
 C__law_is_word:Fn K mg "_law_is_word" JP ["_law_thing"] a__law_is_word d__law_is_word
 a__law_whole:Addr
 d__law_whole:FuncData
 C__law_whole:Fn K mg "_law_whole" uf ["_law_thing","_law_low","_law_high"] a__law_whole d__law_whole
 a__law_is_rule:Addr
 d__law_is_rule:FuncData
 C__law_is_rule:Fn K mg "_law_is_rule" jA ["_law_thing","_law_deep"] a__law_is_rule d__law_is_rule
 a__law_word:Addr
 d__law_word:FuncData
 C__law_word:Fn K mg "_law_word" Ub ["_law_kept"] a__law_word d__law_word
 a_need_rule:Addr
 d_need_rule:FuncData
 C_need_rule:Fn K mg "need_rule" Uc ["rule"] a_need_rule d_need_rule
 a_are_unlike:Addr
 d_are_unlike:FuncData
 C_are_unlike:Fn K mg "are_unlike" wG ["parts"] a_are_unlike d_are_unlike
 a_are_rising:Addr
 d_are_rising:FuncData
 C_are_rising:Fn K mg "are_rising" wH ["numbers"] a_are_rising d_are_rising
 a_parts_of:Addr
 d_parts_of:FuncData
 C_parts_of:Fn K mg "parts_of" UN ["worth"] a_parts_of d_parts_of
 a_leaves_of:Addr
 d_leaves_of:FuncData
 C_leaves_of:Fn K mg "leaves_of" Ud ["worth"] a_leaves_of d_leaves_of
 a_numbers_in:Addr
 d_numbers_in:FuncData
 C_numbers_in:Fn K mg "numbers_in" wJ ["worth"] a_numbers_in d_numbers_in
 a_is_single_kept:Addr
 d_is_single_kept:FuncData
 C_is_single_kept:Fn K mg "is_single_kept" wq ["rule","worth"] a_is_single_kept d_is_single_kept
 a_is_kept:Addr
 d_is_kept:FuncData
 C_is_kept:Fn K mg "is_kept" Yx ["rule","worth"] a_is_kept d_is_kept
 a_keeps:Addr
 d_keeps:FuncData
 C_keeps:Fn K mg "keeps" xw ["rule","worth"] a_keeps d_keeps
 a__law_tried:Addr
 d__law_tried:FuncData
 C__law_tried:Fn K mg "_law_tried" uk ["_law_rule_here","_law_worth"] a__law_tried d__law_tried
 a__law_places:Addr
 d__law_places:FuncData
 C__law_places:Fn K mg "_law_places" wj ["_law_thing"] a__law_places d__law_places
 a__law_at:Addr
 d__law_at:FuncData
 C__law_at:Fn K mg "_law_at" Yz ["_law_thing","_law_place"] a__law_at d__law_at
 a__law_put:Addr
 d__law_put:FuncData
 C__law_put:Fn K mg "_law_put" UO ["_law_thing","_law_place","_law_new"] a__law_put d__law_put
 a__law_spoilt_thing:Addr
 d__law_spoilt_thing:FuncData
 C__law_spoilt_thing:Fn K mg "_law_spoilt_thing" Jh ["_law_script","_law_at_here","_law_thing"] a__law_spoilt_thing d__law_spoilt_thing
 a__law_leaves:Addr
 d__law_leaves:FuncData
 C__law_leaves:Fn K mg "_law_leaves" WA ["_law_worth"] a__law_leaves d__law_leaves
 a__law_keeps:Addr
 d__law_keeps:FuncData
 C__law_keeps:Fn K mg "_law_keeps" ja ["_law_rule_here","_law_worth"] a__law_keeps d__law_keeps
 a_law:Addr
 d_law:FuncData
 C_law:Fn K mg "law" XD ["_law_script"] a_law d_law
 z_ValueError:mg "ValueError"=none
 z_all:mg "all"=none
 z_any:mg "any"=none
 z_bool:mg "bool"=none
 z_enumerate:mg "enumerate"=none
 z_int:mg "int"=none
 z_isinstance:mg "isinstance"=none
 z_len:mg "len"=none
 z_list:mg "list"=none
 z_min:mg "min"=none
 z_range:mg "range"=none
 z_sorted:mg "sorted"=none
 z_str:mg "str"=none
 z_sum:mg "sum"=none
 z_tuple:mg "tuple"=none
 z_zip:mg "zip"=none
 c_DEEPEST_RULE:∃ u,mg "DEEPEST_RULE"=some u/\∃ t,u=Value.int 3 t
 c_FARTHEST_BOUND:∃ u,mg "FARTHEST_BOUND"=some u/\∃ t,u=Value.int 50 t
set_option genInjectivity false in
set_option genSizeOf false in
structure Tq (K:PySem.W.Frag) (mg:Str->Option Value) (base:Heap) (cl:Nat->Value) where
 q_Ended:Addr
 q_NoKind:Addr
 q_NoRule:Addr
 q_NoText:Addr
 q_NoWorth:Addr
 q_TooMany:Addr
 q_WorthError:Addr
 X_k:XK1 K cl okX
 e_WorthError:∀ c,okX c=true->PySem.W.exmOne K (cl c) (.ref q_WorthError)=some true
 l_NoRule:cl 2= .ref q_NoRule
 m_Ended:mg "Ended"=some (.ref q_Ended)
 m_NoKind:mg "NoKind"=some (.ref q_NoKind)
 m_NoRule:mg "NoRule"=some (.ref q_NoRule)
 m_NoText:mg "NoText"=some (.ref q_NoText)
 m_NoWorth:mg "NoWorth"=some (.ref q_NoWorth)
 m_TooMany:mg "TooMany"=some (.ref q_TooMany)
 m_WorthError:mg "WorthError"=some (.ref q_WorthError)
 o_NoRule:OwnCls "NoRule" q_NoRule bmVE "ValueError.__new__" mg base
 t_Ended:∀ c,okX c=true->PySem.W.kitOne K (cl c) (.ref q_Ended)=some (uQ c)
 t_NoKind:∀ c,okX c=true->PySem.W.kitOne K (cl c) (.ref q_NoKind)=some (WJ c)
 t_NoRule:∀ c,okX c=true->PySem.W.kitOne K (cl c) (.ref q_NoRule)=some (WK c)
 t_NoText:∀ c,okX c=true->PySem.W.kitOne K (cl c) (.ref q_NoText)=some (WL c)
 t_NoWorth:∀ c,okX c=true->PySem.W.kitOne K (cl c) (.ref q_NoWorth)=some (Wc c)
 t_TooMany:∀ c,okX c=true->PySem.W.kitOne K (cl c) (.ref q_TooMany)=some (Wd c)
 t_ValueError:∀ c,okX c=true->PySem.W.kitOne K (cl c) (.type "ValueError")=some (JK c)
section
variable (P:Program) (w:World) {K:PySem.W.Frag} {mg:Str->Option Value} (base:Heap) (cl:Nat->Value) (tx:Tx K mg) (k:Nat) (c:List T->R T)
noncomputable abbrev Wj:Prop:=jm P w K mg base CX0 k tx.a__law_cell tx.d__law_cell ["_law_script","_law_k"] (spP cl 2 c)
noncomputable abbrev j5:Prop:=jm P w K mg base CX0 k tx.a__law_pick tx.d__law_pick ["_law_script","_law_k","_law_many"] (spP cl 3 c)
noncomputable abbrev Ji:Prop:=jm P w K mg base CX0 k tx.a__law_rule tx.d__law_rule ["_law_script","_law_at_here","_law_deep"] (spP cl 3 c)
noncomputable abbrev JS:Prop:=jm P w K mg base CX0 k tx.a__law_word_of tx.d__law_word_of ["_law_script","_law_at_here"] (spP cl 2 c)
noncomputable abbrev jP:Prop:=jm P w K mg base CX0 k tx.a__law_leaf_kind tx.d__law_leaf_kind ["_law_script","_law_at_here"] (spP cl 2 c)
noncomputable abbrev Jj:Prop:=jm P w K mg base CX0 k tx.a__law_kind tx.d__law_kind ["_law_script","_law_at_here","_law_deep"] (spP cl 3 c)
noncomputable abbrev JT:Prop:=jm P w K mg base CX0 k tx.a__law_rows_of tx.d__law_rows_of ["_law_lists"] (spP cl 1 c)
noncomputable abbrev Ja:Prop:=jm P w K mg base CX0 k tx.a__law_all tx.d__law_all ["_law_kind_here"] (spP cl 1 c)
noncomputable abbrev Jk:Prop:=jm P w K mg base CX0 k tx.a__law_size tx.d__law_size ["_law_kind_here"] (spP cl 1 c)
noncomputable abbrev wK:Prop:=jm P w K mg base CX0 k tx.a__law_small tx.d__law_small ["_law_script","_law_at_here","_law_most"] (spP cl 3 c)
noncomputable abbrev W0:Prop:=jm P w K mg base CX0 k tx.a_is_whole tx.d_is_whole ["thing"] (spP cl 1 c)
noncomputable abbrev WW:Prop:=jm P w K mg base CX0 k tx.a_is_bound tx.d_is_bound ["thing"] (spP cl 1 c)
noncomputable abbrev Uf:Prop:=jm P w K mg base CX0 k tx.a_is_word tx.d_is_word ["thing"] (spP cl 1 c)
noncomputable abbrev ZC:Prop:=jm P w K mg base CX0 k tx.a_is_rule_within tx.d_is_rule_within ["thing","levels"] (spP cl 2 c)
noncomputable abbrev WB:Prop:=jm P w K mg base CX0 k tx.a_is_rule tx.d_is_rule ["thing"] (spP cl 1 c)
noncomputable abbrev JU:Prop:=jm P w K mg base CX0 k tx.a__law_is_word tx.d__law_is_word ["_law_thing"] (spP cl 1 c)
noncomputable abbrev wL:Prop:=jm P w K mg base CX0 k tx.a__law_whole tx.d__law_whole ["_law_thing","_law_low","_law_high"] (spP cl 3 c)
noncomputable abbrev ZT:Prop:=jm P w K mg base CX0 k tx.a__law_is_rule tx.d__law_is_rule ["_law_thing","_law_deep"] (spP cl 2 c)
noncomputable abbrev Wk (c:Nat->R T):Prop:=jm P w K mg base CX0 k tx.a__law_word tx.d__law_word ["_law_kept"] (spC cl c)
noncomputable abbrev Wl:Prop:=jm P w K mg base (CX1 P w) k tx.a_need_rule tx.d_need_rule ["rule"] (spP cl 1 c)
noncomputable abbrev wM:Prop:=jm P w K mg base CX0 k tx.a_are_unlike tx.d_are_unlike ["parts"] (spP cl 1 c)
noncomputable abbrev wN:Prop:=jm P w K mg base CX0 k tx.a_are_rising tx.d_are_rising ["numbers"] (spP cl 1 c)
noncomputable abbrev WX:Prop:=jm P w K mg base CX0 k tx.a_parts_of tx.d_parts_of ["worth"] (spP cl 1 c)
noncomputable abbrev ju:Prop:=jm P w K mg base CX0 k tx.a_leaves_of tx.d_leaves_of ["worth"] (spP cl 1 c)
noncomputable abbrev wO:Prop:=jm P w K mg base CX0 k tx.a_numbers_in tx.d_numbers_in ["worth"] (spP cl 1 c)
noncomputable abbrev jQ:Prop:=jm P w K mg base CX0 k tx.a_is_single_kept tx.d_is_single_kept ["rule","worth"] (spP cl 2 c)
noncomputable abbrev wP:Prop:=jm P w K mg base CX0 k tx.a_is_kept tx.d_is_kept ["rule","worth"] (spP cl 2 c)
noncomputable abbrev qD:Prop:=jm P w K mg base (CX1 P w) k tx.a_keeps tx.d_keeps ["rule","worth"] (spP cl 2 c)
noncomputable abbrev wQ:Prop:=jm P w K mg base CX0 k tx.a__law_tried tx.d__law_tried ["_law_rule_here","_law_worth"] (spP cl 2 c)
noncomputable abbrev ji:Prop:=jm P w K mg base CX0 k tx.a__law_places tx.d__law_places ["_law_thing"] (spP cl 1 c)
noncomputable abbrev Ug:Prop:=jm P w K mg base CX0 k tx.a__law_at tx.d__law_at ["_law_thing","_law_place"] (spP cl 2 c)
noncomputable abbrev wa:Prop:=jm P w K mg base CX0 k tx.a__law_put tx.d__law_put ["_law_thing","_law_place","_law_new"] (spP cl 3 c)
noncomputable abbrev j6:Prop:=jm P w K mg base CX0 k tx.a__law_spoilt_thing tx.d__law_spoilt_thing ["_law_script","_law_at_here","_law_thing"] (spP cl 3 c)
noncomputable abbrev jj:Prop:=jm P w K mg base CX0 k tx.a__law_leaves tx.d__law_leaves ["_law_worth"] (spP cl 1 c)
noncomputable abbrev jK:Prop:=jm P w K mg base CX0 k tx.a__law_keeps tx.d__law_keeps ["_law_rule_here","_law_worth"] (spP cl 2 c)
noncomputable abbrev gc:Prop:=jm P w K mg base CX0 k tx.a_law tx.d_law ["_law_script"] (spP cl 1 c)
end
theorem cZ {X:Cx} {Y:Fx} {cl:Nat->Value} {k j n:Nat} {f:Addr} {fd:FuncData} {ps:List Str} {g:List T->R T} {x:Str} {st:Stmt} {a:Expr} {es:List Expr} {ga:En->R (List T)} {p pos:Pos} (hy:Y.cl=cl) (F:jm X.prog X.w X.K X.mg X.base CX0 j f fd ps (spP cl n g)) (hr:WD k X.A) (C:Fn X.K X.mg x st ps f fd) (ha:YS X Y (a :: es) ga) (hj:j<=k:=by omega) (gl:Gl X x:=by rfl) (hd:(x == ("__debug__":Str))=false:=by decide)
  (hs:starEach (a :: es) X.env=(false,eval a X.env) :: starEach es X.env:=by exact ZH rfl) (hz:((backTo pos (starEach es X.env)).any fun x=>x.fst)=false:=by exact jU rfl):Snd X Y (.Call (.Name x p) (a :: es) [] pos) (zb n g ga):=K4 hy F hr hj gl C.m C.F.kp C.b ha hd hs hz
theorem cX {X:Cx} {Y:Fx} {cl:Nat->Value} {k j n:Nat} {f:Addr} {fd:FuncData} {ps:List Str} {g:List T->R T} {x:Str} {st:Stmt} {a:Expr} {es:List Expr} {ga:En->R (List T)} {p pos:Pos} (hy:Y.cl=cl) (hp:W3 (CX1 X.prog X.w) X Y.E) (F:jm X.prog X.w X.K X.mg X.base (CX1 X.prog X.w) j f fd ps (spP cl n g)) (hr:WD k X.A) (C:Fn X.K X.mg x st ps f fd) (ha:YS X Y (a :: es) ga) (hj:j<=k:=by omega) (gl:Gl X x:=by rfl) (hd:(x == ("__debug__":Str))=false:=by decide)
  (hs:starEach (a :: es) X.env=(false,eval a X.env) :: starEach es X.env:=by exact ZH rfl) (hz:((backTo pos (starEach es X.env)).any fun x=>x.fst)=false:=by exact jU rfl):Snd X Y (.Call (.Name x p) (a :: es) [] pos) (zb n g ga):=K6 hy hp F hr hj gl C.m C.F.kp C.b ha hd hs hz
section
variable {P:Program} {w:World} {K:PySem.W.Frag} {mg:Str->Option Value} {base:Heap} {cl:Nat->Value} {tx:Tx K mg}
end
end G
namespace G
open PySem PySem.Spec PyProof.Rows L2 PV
section
variable {P:Program} {w:World} {K:PySem.W.Frag} {mg:Str->Option Value} {base:Heap} {cl:Nat->Value} {tx:Tx K mg}
theorem YA:Wj P w base cl tx 1 (fun ts=>zu (uR  (en0 2 ts))):=by
 refine ZO tx.C__law_cell.F Yr rfl (fun cdv A outer s H E Y hy hr=> ?_) (fun ts h=>rfl)
 refine zj ?_ ?_
 refine zU ?_ ?_ ?_
 exact zK QF UC (zm 1 (pv 1)) (Snd.b (Jb (by rfl) tx.z_len (zm 0 (pv 0)))) (zl _)
 exact zn (zq (Ze (za 0 (pv 0)) (za 1 (pv 1))))
 exact zT
 refine zj ?_ ?_
 refine zU ?_ ?_ ?_
 exact zK zX (zv hr.units) (zm 0 (pv 0)) (Snd.b (Jl zg)) (zl _)
 exact zn (zq zc)
 exact zT
 refine zn ?_
 refine zq ?_
 refine zQ ?_ ?_
 refine JJ ?_ ?_
 exact Ze (za 0 (pv 0)) (Up (za 1 (pv 1)) (Jb (by rfl) tx.z_len (zm 0 (pv 0))))
 exact zc
 exact za 1 (pv 1)
end
end G
namespace G
open PySem PySem.Spec PyProof.Rows L2 PV
section
variable {P:Program} {w:World} {K:PySem.W.Frag} {mg:Str->Option Value} {base:Heap} {cl:Nat->Value} {tx:Tx K mg}
theorem YB {c__law_cell:List T->R T} (O__law_cell:Wj P w base cl tx 1 c__law_cell):j5 P w base cl tx 2 (fun ts=>zu (uS c__law_cell (en0 4 ts))):=by
 refine ZO tx.C__law_pick.F ud rfl (fun cdv A outer s H E Y hy hr=> ?_) (fun ts h=>rfl)
 refine zj ?_ ?_
 refine Zi (i:=3) ud.nd (by rfl) (.inl (by rfl)) ?_
 refine Up ?_ ?_
 refine JJ ?_ ?_
 refine zQ ?_ ?_
 exact cZ hy O__law_cell hr tx.C__law_cell (z9 (za 0 (pv 0)) (z9 (za 1 (pv 1)) zg))
 exact JJ zc (zQ (za 1 (pv 1)) zc)
 exact zc
 exact zc
 refine zn ?_
 refine zq ?_
 refine Up ?_ ?_
 refine Up ?_ ?_
 exact zQ (JJ (za 3 (pv 3)) (za 3 (pv 3))) (G1 (za 3 (pv 3)) zc)
 exact zc
 exact za 2 (pv 2)
end
end G
namespace G
open PySem PySem.Spec PyProof.Rows L2 PV
section
variable {P:Program} {w:World} {K:PySem.W.Frag} {mg:Str->Option Value} {base:Heap} {cl:Nat->Value} {tx:Tx K mg}
theorem YC {j:Nat} (hj:2<=j) {c__law_pick c__law_rule:List T->R T} (O__law_pick:j5 P w base cl tx 2 c__law_pick) (O__law_rule:Ji P w base cl tx j c__law_rule):Ji P w base cl tx (j+1) (fun ts=>zu (wc c__law_pick c__law_rule (en0 6 ts))):=by
 refine ZO tx.C__law_rule.F JE rfl (fun cdv A outer s H E Y hy hr=> ?_) (fun ts h=>rfl)
 refine zj ?_ ?_
 refine Zi (i:=3) JE.nd (by rfl) (.inl (by rfl)) ?_
 refine cZ hy O__law_pick hr tx.C__law_pick ?_
 exact z9 (za 0 (pv 0)) (z9 (za 1 (pv 1)) (z9 zc zg))
 refine zj ?_ ?_
 refine zU ?_ ?_ ?_
 refine ur.t ?_
 refine kS ?_ ?_
 exact zK xQ qQ (zm 2 (pv 2)) (Snd.b zc) (zl _)
 exact V0 (zK xQ qQ (zm 3 (pv 3)) (Snd.b zc) (zl _))
 refine zj ?_ ?_
 refine Zi (i:=4) JE.nd (by rfl) (.inl (by rfl)) ?_
 refine cZ hy O__law_rule hr tx.C__law_rule ?_
 refine z9 ?_ ?_
 exact za 0 (pv 0)
 refine z9 ?_ ?_
 exact zQ (JJ zc (za 1 (pv 1))) zc
 exact z9 (WG (za 2 (pv 2)) zc) zg
 refine zj ?_ ?_
 refine zU ?_ ?_ ?_
 exact zK zX (zv hr.units) (zm 3 (pv 3)) (Snd.b zc) (zl _)
 refine zn ?_
 exact zq (zW (z9 zp (z9 (za 4 (pv 4)) zg)))
 exact zT
 refine zn ?_
 refine zq ?_
 refine zW ?_
 refine z9 ?_ ?_
 refine Ze ?_ ?_
 exact Jl (z9 zp (z9 zp zg))
 exact WG (za 3 (pv 3)) zc
 refine z9 ?_ ?_
 exact za 4 (pv 4)
 refine z9 ?_ ?_
 refine cZ hy O__law_rule hr tx.C__law_rule ?_
 refine z9 ?_ ?_
 exact za 0 (pv 0)
 refine z9 ?_ ?_
 exact zQ (JJ zc (za 1 (pv 1))) zc
 exact z9 (WG (za 2 (pv 2)) zc) zg
 exact zg
 exact zT
 refine zj ?_ ?_
 refine Zi (i:=5) JE.nd (by rfl) (.inl (by rfl)) ?_
 refine WG ?_ ?_
 refine cZ hy O__law_pick hr tx.C__law_pick ?_
 refine z9 ?_ ?_
 exact za 0 (pv 0)
 exact z9 (zQ (za 1 (pv 1)) zc) (z9 zc zg)
 exact zc
 refine zj ?_ ?_
 refine zU ?_ ?_ ?_
 exact zK QF UC (Snd.b (Up (za 3 (pv 3)) zc)) (Snd.b zc) (zl _)
 refine zn ?_
 refine zq ?_
 refine zW ?_
 refine z9 ?_ ?_
 exact zp
 refine z9 ?_ ?_
 exact za 5 (pv 5)
 refine z9 ?_ ?_
 refine WG ?_ ?_
 refine zQ ?_ ?_
 exact za 5 (pv 5)
 refine cZ hy O__law_pick hr tx.C__law_pick ?_
 refine z9 ?_ ?_
 exact za 0 (pv 0)
 exact z9 (zQ (za 1 (pv 1)) zc) (z9 zc zg)
 exact zc
 exact zg
 exact zT
 refine zj ?_ ?_
 refine zU ?_ ?_ ?_
 exact zK zX (zv hr.units) (Snd.b (Up (za 3 (pv 3)) zc)) (Snd.b zc) (zl _)
 refine zn ?_
 refine zq ?_
 refine zW ?_
 refine z9 ?_ ?_
 exact zp
 refine z9 ?_ ?_
 refine cZ hy O__law_pick hr tx.C__law_pick ?_
 refine z9 ?_ ?_
 exact za 0 (pv 0)
 exact z9 (zQ (za 1 (pv 1)) zc) (z9 zc zg)
 refine z9 ?_ ?_
 refine cZ hy O__law_pick hr tx.C__law_pick ?_
 refine z9 ?_ ?_
 exact za 0 (pv 0)
 exact z9 (zQ (za 1 (pv 1)) zc) (z9 zc zg)
 exact zg
 exact zT
 refine zj ?_ ?_
 refine zU ?_ ?_ ?_
 exact zK zX (zv hr.units) (Snd.b (Up (za 3 (pv 3)) zc)) (Snd.b zc) (zl _)
 refine zn ?_
 refine zq ?_
 refine zW ?_
 refine z9 ?_ ?_
 exact zp
 refine z9 ?_ ?_
 refine Ze ?_ ?_
 refine Jl ?_
 refine z9 ?_ ?_
 exact zp
 exact z9 zp (z9 zp (z9 zp zg))
 refine cZ hy O__law_pick hr tx.C__law_pick ?_
 refine z9 ?_ ?_
 exact za 0 (pv 0)
 exact z9 (zQ (za 1 (pv 1)) zc) (z9 zc zg)
 exact zg
 exact zT
 refine zn ?_
 refine zq ?_
 refine gh ?_ ?_ ?_
 exact zK zX (zv hr.units) (Snd.b (Up (za 3 (pv 3)) zc)) (Snd.b zc) (zl _)
 exact zW (z9 zp zg)
 exact zW (z9 zp zg)
end
end G
namespace G
open PySem PySem.Spec PyProof.Rows L2 PV
section
variable {P:Program} {w:World} {K:PySem.W.Frag} {mg:Str->Option Value} {base:Heap} {cl:Nat->Value} {tx:Tx K mg}
theorem Uh {c__law_pick:List T->R T} (O__law_pick:j5 P w base cl tx 2 c__law_pick):JS P w base cl tx 3 (fun ts=>zu (jw c__law_pick (en0 3 ts))):=by
 refine ZO tx.C__law_word_of.F wE rfl (fun cdv A outer s H E Y hy hr=> ?_) (fun ts h=>rfl)
 refine zj ?_ ?_
 exact Zi (i:=2) wE.nd (by rfl) (.inr (by rfl)) zp
 refine zj ?_ ?_
 refine zU ?_ ?_ ?_
 refine zK xQ qQ ?_ ?_ (zl _)
 refine Snd.b ?_
 refine cZ hy O__law_pick hr tx.C__law_pick ?_
 exact z9 (za 0 (pv 0)) (z9 (za 1 (pv 1)) (z9 zc zg))
 exact Snd.b zc
 refine zn ?_
 refine zq ?_
 refine Ze ?_ ?_
 refine Jl ?_
 refine z9 ?_ ?_
 exact zp
 exact z9 zp (z9 zp (z9 zp zg))
 refine cZ hy O__law_pick hr tx.C__law_pick ?_
 refine z9 ?_ ?_
 exact za 0 (pv 0)
 exact z9 (zQ (za 1 (pv 1)) zc) (z9 zc zg)
 exact zT
 refine zn ?_
 refine zq ?_
 refine Gf ?_
 refine Snd.b ?_
 refine jl (ZR ["_law_k","_law_script","_law_at_here","_law_letters"] W7 (zf JN) (by rfl) (by rfl) (by decide+kernel) (by rfl) ?_ (fun _ _ _ _ _ _=>Z1 (show List.Nodup (["_law_k","_law_script","_law_at_here","_law_letters"]:List Str) by decide+kernel) (by rfl) (.inl (by rfl)) (.inr (by rfl))) (Zf 0) (Zg 0) (fun Y' hy' _ _ _ _ _ _=> ?_) (fun Y' hy' _ _ _ _ _ _=> ?_))
 refine uJ (by rfl) tx.z_range ?_
 refine zQ ?_ ?_
 exact zc
 refine cZ hy O__law_pick hr tx.C__law_pick ?_
 refine z9 ?_ ?_
 exact za 0 (pv 0)
 exact z9 (zQ (za 1 (pv 1)) zc) (z9 zc zg)
 exact Jr
 refine Ze ?_ ?_
 exact za 3 (pv 3)
 refine cZ (hy'.trans hy) O__law_pick hr tx.C__law_pick ?_
 refine z9 ?_ ?_
 exact za 1 (pv 1)
 refine z9 ?_ ?_
 exact zQ (zQ (za 2 (pv 2)) zc) (za 0 (pv 0))
 exact z9 zc zg
end
end G
namespace G
open PySem PySem.Spec PyProof.Rows L2 PV
section
variable {P:Program} {w:World} {K:PySem.W.Frag} {mg:Str->Option Value} {base:Heap} {cl:Nat->Value} {tx:Tx K mg}
theorem WY {c__law_pick c__law_word_of:List T->R T} (O__law_pick:j5 P w base cl tx 2 c__law_pick) (O__law_word_of:JS P w base cl tx 3 c__law_word_of):jP P w base cl tx 4 (fun ts=>zu (ZV c__law_pick c__law_word_of (en0 6 ts))):=by
 refine ZO tx.C__law_leaf_kind.F Z8 rfl (fun cdv A outer s H E Y hy hr=> ?_) (fun ts h=>rfl)
 refine zj ?_ ?_
 refine zU ?_ ?_ ?_
 refine zK xQ qQ ?_ ?_ (zl _)
 refine Snd.b ?_
 refine cZ hy O__law_pick hr tx.C__law_pick ?_
 exact z9 (za 0 (pv 0)) (z9 (za 1 (pv 1)) (z9 zc zg))
 exact Snd.b zc
 refine zj ?_ ?_
 refine Zi (i:=2) Z8.nd (by rfl) (.inl (by rfl)) ?_
 refine WG ?_ ?_
 refine cZ hy O__law_pick hr tx.C__law_pick ?_
 refine z9 ?_ ?_
 exact za 0 (pv 0)
 exact z9 (zQ (za 1 (pv 1)) zc) (z9 zc zg)
 exact zc
 refine zj ?_ ?_
 refine zU ?_ ?_ ?_
 refine zK zX (zv hr.units) ?_ ?_ (zl _)
 refine Snd.b ?_
 refine cZ hy O__law_pick hr tx.C__law_pick ?_
 refine z9 ?_ ?_
 exact za 0 (pv 0)
 exact z9 (zQ (za 1 (pv 1)) zc) (z9 zc zg)
 exact Snd.b zc
 refine zn ?_
 refine Zi (i:=2) Z8.nd (by rfl) (.inl (by rfl)) ?_
 refine Ze ?_ ?_
 refine Jl ?_
 refine z9 ?_ ?_
 exact YU zc
 exact z9 zc (z9 zc zg)
 refine cZ hy O__law_pick hr tx.C__law_pick ?_
 refine z9 ?_ ?_
 exact za 0 (pv 0)
 exact z9 (zQ (za 1 (pv 1)) zc) (z9 zc zg)
 exact zT
 refine zn ?_
 refine zq ?_
 refine zW ?_
 refine z9 ?_ ?_
 exact zp
 refine z9 ?_ ?_
 exact za 2 (pv 2)
 refine z9 ?_ ?_
 refine XR (by rfl) (by rfl) tx.z_min ?_ ?_
 exact zc
 refine zQ ?_ ?_
 exact za 2 (pv 2)
 refine cZ hy O__law_pick hr tx.C__law_pick ?_
 refine z9 ?_ ?_
 exact za 0 (pv 0)
 exact z9 (zQ (za 1 (pv 1)) zc) (z9 zc zg)
 exact zg
 exact zT
 refine zj ?_ ?_
 exact uI (i:=3) Z8.nd (by rfl) (.inl (by rfl)) zg
 refine zj ?_ ?_
 refine Wr PassesOwn.never (by rfl) ?_ ?_ ?_
 refine uJ (by rfl) tx.z_range ?_
 refine zQ ?_ ?_
 exact zc
 refine cZ hy O__law_pick hr tx.C__law_pick ?_
 refine z9 ?_ ?_
 exact za 0 (pv 0)
 exact z9 (zQ (za 1 (pv 1)) zc) (z9 zc zg)
 exact Jq (i:=4) Z8.nd (by rfl) (.inl (by rfl))
 refine zj ?_ ?_
 refine Zi (i:=5) Z8.nd (by rfl) (.inl (by rfl)) ?_
 refine cZ hy O__law_word_of hr tx.C__law_word_of ?_
 refine z9 ?_ ?_
 exact za 0 (pv 0)
 refine z9 ?_ ?_
 exact zQ (zQ (za 1 (pv 1)) zc) (JJ zc (za 4 (pv 4)))
 exact zg
 refine zn ?_
 refine zU ?_ ?_ ?_
 exact zK XN (vT hr.units) (zm 5 (pv 5)) (zm 3 (pv 3)) (by rfl)
 exact zn (z0V (i:=3) (pv 3) (za 5 (pv 5)))
 exact zT
 refine zn ?_
 refine zq ?_
 refine zW ?_
 refine z9 ?_ ?_
 exact zp
 refine z9 ?_ ?_
 refine V1 (by rfl) tx.z_tuple ?_
 refine jl (ZR ["_law_k","_law_word_here","_law_script","_law_at_here"] wo (zf jO) (by rfl) (by rfl) (by decide+kernel) (by rfl) ?_ (fun _ _ _ _ _ _=>qK (by rfl) (Jn (Z1 (show List.Nodup (["_law_k","_law_word_here","_law_script","_law_at_here"]:List Str) by decide+kernel) (by rfl) (.inl (by rfl)) (.inr (by rfl))) (Jn (Z1 (show List.Nodup (["_law_k","_law_word_here","_law_script","_law_at_here"]:List Str) by decide+kernel) (by rfl) (.inl (by rfl)) (.inr (by rfl))) UR))) (uu _ 0 1) (uv 0 1) (fun Y' hy' _ _ _ _ _ _=> ?_) (fun Y' hy' _ _ _ _ _ _=> ?_))
 exact Gd (by rfl) tx.z_enumerate (za 3 (pv 3))
 exact Jr
 refine zW ?_
 refine z9 ?_ ?_
 exact za 1 (pv 1)
 refine z9 ?_ ?_
 refine zQ ?_ ?_
 exact zc
 refine cZ (hy'.trans hy) O__law_pick hr tx.C__law_pick ?_
 refine z9 ?_ ?_
 exact za 2 (pv 2)
 refine z9 ?_ ?_
 exact zQ (zQ (za 3 (pv 3)) zc) (za 0 (pv 0))
 exact z9 zc zg
 exact zg
 exact zg
end
end G
namespace G
open PySem PySem.Spec PyProof.Rows L2 PV
section
variable {P:Program} {w:World} {K:PySem.W.Frag} {mg:Str->Option Value} {base:Heap} {cl:Nat->Value} {tx:Tx K mg}
theorem YD {j:Nat} (hj:4<=j) {c__law_pick c__law_leaf_kind c__law_kind:List T->R T} (O__law_pick:j5 P w base cl tx 2 c__law_pick) (O__law_leaf_kind:jP P w base cl tx 4 c__law_leaf_kind) (O__law_kind:Jj P w base cl tx j c__law_kind):Jj P w base cl tx (j+1) (fun ts=>zu (we c__law_pick c__law_leaf_kind c__law_kind (en0 6 ts))):=by
 refine ZO tx.C__law_kind.F JF rfl (fun cdv A outer s H E Y hy hr=> ?_) (fun ts h=>rfl)
 refine zj ?_ ?_
 refine Zi (i:=3) JF.nd (by rfl) (.inl (by rfl)) ?_
 refine cZ hy O__law_pick hr tx.C__law_pick ?_
 exact z9 (za 0 (pv 0)) (z9 (za 1 (pv 1)) (z9 zc zg))
 refine zj ?_ ?_
 refine zU ?_ ?_ ?_
 refine ur.t ?_
 refine qT ?_ ?_
 exact zK zX (zv hr.units) (zm 2 (pv 2)) (Snd.b zc) (zl _)
 exact uH (zK QF UC (zm 3 (pv 3)) (Snd.b zc) (zl _))
 refine zn ?_
 refine zq ?_
 refine cZ hy O__law_leaf_kind hr tx.C__law_leaf_kind ?_
 exact z9 (za 0 (pv 0)) (z9 (zQ (za 1 (pv 1)) zc) zg)
 exact zT
 refine zj ?_ ?_
 refine zU ?_ ?_ ?_
 exact zK QF UC (zm 3 (pv 3)) (Snd.b zc) (zl _)
 refine zj ?_ ?_
 refine Vd (i:=4) (ZR ["_law_k","_law_script","_law_at_here","_law_deep"] U7 (zf Wf) (by rfl) (by rfl) (by decide+kernel) (by rfl) ?_ (fun _ _ _ _ _ _=>Z1 (show List.Nodup (["_law_k","_law_script","_law_at_here","_law_deep"]:List Str) by decide+kernel) (by rfl) (.inl (by rfl)) (.inr (by rfl))) (Zf 0) (Zg 0) (fun Y' hy' _ _ _ _ _ _=> ?_) (fun Y' hy' _ _ _ _ _ _=> ?_)) JF.nd (by rfl) (.inl (by rfl)) (by rfl)
 refine uJ (by rfl) tx.z_range ?_
 refine zQ ?_ ?_
 exact zc
 refine cZ hy O__law_pick hr tx.C__law_pick ?_
 refine z9 ?_ ?_
 exact za 0 (pv 0)
 exact z9 (zQ (za 1 (pv 1)) zc) (z9 zc zg)
 exact Jr
 refine cZ (hy'.trans hy) O__law_kind hr tx.C__law_kind ?_
 refine z9 ?_ ?_
 exact za 1 (pv 1)
 refine z9 ?_ ?_
 refine zQ ?_ ?_
 exact zQ (JJ zc (za 2 (pv 2))) zc
 exact JJ zc (za 0 (pv 0))
 exact z9 (WG (za 3 (pv 3)) zc) zg
 refine zn ?_
 refine zq ?_
 exact zW (z9 zp (z9 (V1 (by rfl) tx.z_tuple (za 4 (pv 4))) zg))
 exact zT
 refine zj ?_ ?_
 refine Zi (i:=5) JF.nd (by rfl) (.inl (by rfl)) ?_
 refine cZ hy O__law_pick hr tx.C__law_pick ?_
 refine z9 ?_ ?_
 exact za 0 (pv 0)
 exact z9 (zQ (za 1 (pv 1)) zc) (z9 zc zg)
 refine zn ?_
 refine zq ?_
 refine zW ?_
 refine z9 ?_ ?_
 exact zp
 refine z9 ?_ ?_
 refine cZ hy O__law_kind hr tx.C__law_kind ?_
 refine z9 ?_ ?_
 exact za 0 (pv 0)
 refine z9 ?_ ?_
 exact zQ (JJ zc (za 1 (pv 1))) zc
 exact z9 (WG (za 2 (pv 2)) zc) zg
 refine z9 ?_ ?_
 exact za 5 (pv 5)
 refine z9 ?_ ?_
 refine XR (by rfl) (by rfl) tx.z_min ?_ ?_
 exact zc
 refine zQ ?_ ?_
 exact za 5 (pv 5)
 refine cZ hy O__law_pick hr tx.C__law_pick ?_
 refine z9 ?_ ?_
 exact za 0 (pv 0)
 exact z9 (zQ (za 1 (pv 1)) zc) (z9 zc zg)
 exact zg
end
end G
namespace G
open PySem PySem.Spec PyProof.Rows L2 PV
section
variable {P:Program} {w:World} {K:PySem.W.Frag} {mg:Str->Option Value} {base:Heap} {cl:Nat->Value} {tx:Tx K mg}
theorem Ui:JT P w base cl tx 1 (fun ts=>zu (jx  (en0 5 ts))):=by
 refine ZO tx.C__law_rows_of.F Zp rfl (fun cdv A outer s H E Y hy hr=> ?_) (fun ts h=>rfl)
 refine zj ?_ ?_
 exact Zi (i:=1) Zp.nd (by rfl) (.inl (by rfl)) (Jl (z9 (zW zg) zg))
 refine zj ?_ ?_
 refine Wr PassesOwn.never (by rfl) ?_ ?_ ?_
 exact jX (za 0 (pv 0))
 exact Jq (i:=2) Zp.nd (by rfl) (.inl (by rfl))
 refine zj ?_ ?_
 exact uI (i:=3) Zp.nd (by rfl) (.inl (by rfl)) zg
 refine zj ?_ ?_
 refine Wr PassesOwn.never (by rfl) ?_ ?_ ?_
 exact jX (za 1 (pv 1))
 exact Jq (i:=4) Zp.nd (by rfl) (.inr (by rfl))
 refine zn ?_
 refine QI (i:=3) (pv 3) ?_
 refine jl (ZR ["_law_one","_law_ahead"] W8 (zf JO) (by rfl) (by rfl) (by decide+kernel) (by rfl) ?_ (fun _ _ _ _ _ _=>Z1 (show List.Nodup (["_law_one","_law_ahead"]:List Str) by decide+kernel) (by rfl) (.inl (by rfl)) (.inr (by rfl))) (Zf 0) (Zg 0) (fun Y' hy' _ _ _ _ _ _=> ?_) (fun Y' hy' _ _ _ _ _ _=> ?_))
 exact jX (za 2 (pv 2))
 exact Jr
 exact zQ (za 1 (pv 1)) (zW (z9 (za 0 (pv 0)) zg))
 exact zn (s_mv (i:=1) (j:=3) (pv 3) Zp.nd (by rfl) (.inl (by rfl)))
 exact zn (zq (za 1 (pv 1)))
end
end G
namespace G
open PySem PySem.Spec PyProof.Rows L2 PV
section
variable {P:Program} {w:World} {K:PySem.W.Frag} {mg:Str->Option Value} {base:Heap} {cl:Nat->Value} {tx:Tx K mg}
theorem qE {j:Nat} (hj:1<=j) {c__law_all c__law_rows_of:List T->R T} (O__law_all:Ja P w base cl tx j c__law_all) (O__law_rows_of:JT P w base cl tx 1 c__law_rows_of):Ja P w base cl tx (j+1) (fun ts=>zu (zC c__law_all c__law_rows_of (en0 3 ts))):=by
 refine ZO tx.C__law_all.F Wg rfl (fun cdv A outer s H E Y hy hr=> ?_) (fun ts h=>rfl)
 refine zj ?_ ?_
 refine zU ?_ ?_ ?_
 exact zK zX (zv hr.units) (Snd.b (Ze (za 0 (pv 0)) zc)) (Snd.b zp) (zl _)
 refine zn ?_
 refine zq ?_
 refine Kn hr.hd (by rfl) tx.z_list (by rfl) tx.z_range ?_ ?_
 exact Ze (za 0 (pv 0)) zc
 exact zQ (Ze (za 0 (pv 0)) zc) zc
 exact zT
 refine zj ?_ ?_
 refine zU ?_ ?_ ?_
 exact zK zX (zv hr.units) (Snd.b (Ze (za 0 (pv 0)) zc)) (Snd.b zp) (zl _)
 refine zn ?_
 refine zq ?_
 refine jl (ZR ["_law_word_here","_law_heavy"] WS (zf wZ) (by rfl) (by rfl) (by decide+kernel) (by rfl) ?_ (fun _ _ _ _ _ _=>qK (by rfl) (Jn (Z1 (show List.Nodup (["_law_word_here","_law_heavy"]:List Str) by decide+kernel) (by rfl) (.inl (by rfl)) (.inr (by rfl))) (Jn (Z1 (show List.Nodup (["_law_word_here","_law_heavy"]:List Str) by decide+kernel) (by rfl) (.inl (by rfl)) (.inr (by rfl))) UR))) (uu _ 0 1) (uv 0 1) (fun Y' hy' _ _ _ _ _ _=> ?_) (fun Y' hy' _ _ _ _ _ _=> ?_))
 exact jX (Ze (za 0 (pv 0)) zc)
 exact Jr
 exact za 0 (pv 0)
 exact zT
 refine zj ?_ ?_
 refine zU ?_ ?_ ?_
 exact zK zX (zv hr.units) (Snd.b (Ze (za 0 (pv 0)) zc)) (Snd.b zp) (zl _)
 refine zn ?_
 refine zq ?_
 refine cZ hy O__law_rows_of hr tx.C__law_rows_of ?_
 refine z9 ?_ ?_
 refine jl (ZR ["_law_one"] WS (zf wZ) (by rfl) (by rfl) (by decide+kernel) (by rfl) ?_ (fun _ _ _ _ _ _=>Z1 (show List.Nodup (["_law_one"]:List Str) by decide+kernel) (by rfl) (.inl (by rfl)) (.inr (by rfl))) (Zf 0) (Zg 0) (fun Y' hy' _ _ _ _ _ _=> ?_) (fun Y' hy' _ _ _ _ _ _=> ?_))
 exact jX (Ze (za 0 (pv 0)) zc)
 exact Jr
 exact cZ (hy'.trans hy) O__law_all hr tx.C__law_all (z9 (za 0 (pv 0)) zg)
 exact zg
 exact zT
 refine zj ?_ ?_
 exact uI (i:=1) Wg.nd (by rfl) (.inl (by rfl)) zg
 refine zj ?_ ?_
 refine Wr PassesOwn.never (by rfl) ?_ ?_ ?_
 refine Gb (by rfl) tx.z_range ?_ ?_
 exact Ze (za 0 (pv 0)) zc
 exact zQ (Ze (za 0 (pv 0)) zc) zc
 exact Jq (i:=2) Wg.nd (by rfl) (.inl (by rfl))
 refine zn ?_
 refine QI (i:=1) (pv 1) ?_
 refine cZ hy O__law_rows_of hr tx.C__law_rows_of ?_
 refine z9 ?_ ?_
 refine JJ ?_ ?_
 refine Jl ?_
 refine z9 ?_ ?_
 exact cZ hy O__law_all hr tx.C__law_all (z9 (Ze (za 0 (pv 0)) zc) zg)
 exact zg
 exact za 2 (pv 2)
 exact zg
 exact zn (zq (za 1 (pv 1)))
end
end G
namespace G
open PySem PySem.Spec PyProof.Rows L2 PV
section
variable {P:Program} {w:World} {K:PySem.W.Frag} {mg:Str->Option Value} {base:Heap} {cl:Nat->Value} {tx:Tx K mg}
theorem YE {j:Nat} (hj:9<=j) {c__law_all c__law_size:List T->R T} (O__law_all:Ja P w base cl tx 9 c__law_all) (O__law_size:Jk P w base cl tx j c__law_size):Jk P w base cl tx (j+1) (fun ts=>zu (zO c__law_all c__law_size (en0 5 ts))):=by
 refine ZO tx.C__law_size.F Zh rfl (fun cdv A outer s H E Y hy hr=> ?_) (fun ts h=>rfl)
 refine zj ?_ ?_
 refine zU ?_ ?_ ?_
 refine zK yW (UD hr.units) ?_ ?_ (by rfl)
 exact Snd.b (Ze (za 0 (pv 0)) zc)
 exact Snd.b (zW (z9 zp (z9 zp zg)))
 refine zn ?_
 exact zq (Jb (by rfl) tx.z_len (Snd.b (cZ hy O__law_all hr tx.C__law_all (z9 (za 0 (pv 0)) zg))))
 exact zT
 refine zj ?_ ?_
 refine Zi (i:=1) Zh.nd (by rfl) (.inl (by rfl)) ?_
 refine gh ?_ ?_ ?_
 exact zK zX (zv hr.units) (Snd.b (Ze (za 0 (pv 0)) zc)) (Snd.b zp) (zl _)
 refine jl (ZR ["_law_one"] U8 (zf Wh) (by rfl) (by rfl) (by decide+kernel) (by rfl) ?_ (fun _ _ _ _ _ _=>Z1 (show List.Nodup (["_law_one"]:List Str) by decide+kernel) (by rfl) (.inl (by rfl)) (.inr (by rfl))) (Zf 0) (Zg 0) (fun Y' hy' _ _ _ _ _ _=> ?_) (fun Y' hy' _ _ _ _ _ _=> ?_))
 exact jX (Ze (za 0 (pv 0)) zc)
 exact Jr
 exact cZ (hy'.trans hy) O__law_size hr tx.C__law_size (z9 (za 0 (pv 0)) zg)
 exact Jl zg
 refine zj ?_ ?_
 exact Zi (i:=2) Zh.nd (by rfl) (.inl (by rfl)) zc
 refine zj ?_ ?_
 refine Wr PassesOwn.never (by rfl) ?_ ?_ ?_
 exact jX (za 1 (pv 1))
 exact Jq (i:=3) Zh.nd (by rfl) (.inl (by rfl))
 exact zn (Zi (i:=2) Zh.nd (by rfl) (.inl (by rfl)) (JJ (za 2 (pv 2)) (za 3 (pv 3))))
 refine zj ?_ ?_
 refine zU ?_ ?_ ?_
 exact zK zX (zv hr.units) (Snd.b (Ze (za 0 (pv 0)) zc)) (Snd.b zp) (zl _)
 refine zj ?_ ?_
 exact Zi (i:=4) Zh.nd (by rfl) (.inl (by rfl)) (cZ hy O__law_size hr tx.C__law_size (z9 (Ze (za 0 (pv 0)) zc) zg))
 refine zj ?_ ?_
 refine Zi (i:=2) Zh.nd (by rfl) (.inl (by rfl)) ?_
 refine zQ ?_ ?_
 refine qZ (by rfl) tx.z_int ?_
 exact jV zX (zv hr.units) (Snd.b (Ze (za 0 (pv 0)) zc)) (Snd.b zc) (zl _)
 refine JJ ?_ ?_
 exact za 4 (pv 4)
 refine qZ (by rfl) tx.z_int ?_
 refine wA jC jC Zq Zq ?_ ?_ ?_
 exact Snd.b (Ze (za 0 (pv 0)) zc)
 exact Snd.b zc
 exact Snd.b (Ze (za 0 (pv 0)) zc)
 refine zj ?_ ?_
 refine Zi (i:=2) Zh.nd (by rfl) (.inl (by rfl)) ?_
 refine zQ ?_ ?_
 exact za 2 (pv 2)
 refine JJ ?_ ?_
 exact JJ (za 4 (pv 4)) (za 4 (pv 4))
 refine qZ (by rfl) tx.z_int ?_
 refine wA jC jC Zq Zq ?_ ?_ ?_
 exact Snd.b (Ze (za 0 (pv 0)) zc)
 exact Snd.b zc
 exact Snd.b (Ze (za 0 (pv 0)) zc)
 refine zn ?_
 refine Zi (i:=2) Zh.nd (by rfl) (.inl (by rfl)) ?_
 refine zQ ?_ ?_
 exact za 2 (pv 2)
 refine JJ ?_ ?_
 exact JJ (JJ (za 4 (pv 4)) (za 4 (pv 4))) (za 4 (pv 4))
 refine qZ (by rfl) tx.z_int ?_
 exact jV zX (zv hr.units) (Snd.b (Ze (za 0 (pv 0)) zc)) (Snd.b zc) (zl _)
 exact zT
 exact zn (zq (za 2 (pv 2)))
end
end G
namespace G
open PySem PySem.Spec PyProof.Rows L2 PV
section
variable {P:Program} {w:World} {K:PySem.W.Frag} {mg:Str->Option Value} {base:Heap} {cl:Nat->Value} {tx:Tx K mg}
theorem yx {c__law_kind c__law_size:List T->R T} (O__law_kind:Jj P w base cl tx 12 c__law_kind) (O__law_size:Jk P w base cl tx 17 c__law_size):wK P w base cl tx 18 (fun ts=>zu (Js c__law_kind c__law_size (en0 5 ts))):=by
 refine ZO tx.C__law_small.F J4 rfl (fun cdv A outer s H E Y hy hr=> ?_) (fun ts h=>rfl)
 refine zj ?_ ?_
 refine Zi (i:=3) J4.nd (by rfl) (.inl (by rfl)) ?_
 refine cZ hy O__law_kind hr tx.C__law_kind ?_
 exact z9 (za 0 (pv 0)) (z9 (za 1 (pv 1)) (z9 zc zg))
 refine zj ?_ ?_
 refine Wr PassesOwn.never (by rfl) ?_ ?_ ?_
 exact uJ (by rfl) tx.z_range zc
 exact Jq (i:=4) J4.nd (by rfl) (.inl (by rfl))
 refine zj ?_ ?_
 refine zU ?_ ?_ ?_
 exact zK jC Zq (Snd.b (cZ hy O__law_size hr tx.C__law_size (z9 (za 3 (pv 3)) zg))) (zm 2 (pv 2)) (zl _)
 exact zn (zq (za 3 (pv 3)))
 exact zT
 refine zn ?_
 refine Zi (i:=3) J4.nd (by rfl) (.inl (by rfl)) ?_
 refine cZ hy O__law_kind hr tx.C__law_kind ?_
 refine z9 ?_ ?_
 exact za 0 (pv 0)
 refine z9 ?_ ?_
 exact zQ (zQ (za 1 (pv 1)) zc) (JJ zc (za 4 (pv 4)))
 exact z9 zc zg
 refine zn ?_
 refine zq ?_
 refine gh ?_ ?_ ?_
 exact zK jC Zq (Snd.b (cZ hy O__law_size hr tx.C__law_size (z9 (za 3 (pv 3)) zg))) (zm 2 (pv 2)) (zl _)
 exact za 3 (pv 3)
 refine zW ?_
 refine z9 ?_ ?_
 exact zp
 exact z9 (YU zc) (z9 zc zg)
end
end G
namespace G
open PySem PySem.Spec PyProof.Rows L2 PV
section
variable {P:Program} {w:World} {K:PySem.W.Frag} {mg:Str->Option Value} {base:Heap} {cl:Nat->Value} {tx:Tx K mg}
theorem qF:W0 P w base cl tx 1 (fun ts=>zu (UF  (en0 1 ts))):=by
 refine ZO tx.C_is_whole.F qx rfl (fun cdv A outer s H E Y hy hr=> ?_) (fun ts h=>rfl)
 refine zn ?_
 refine zq ?_
 exact wv (wb (n:="int") (UX _) (by rfl) tx.z_isinstance (by rfl) tx.z_int PyProof.Rows.Boot.«int» (zm 0 (pv 0))) (W1 (vZ (wb (n:="bool") (ut _) (by rfl) tx.z_isinstance (by rfl) tx.z_bool PyProof.Rows.Boot.«bool» (zm 0 (pv 0)))))
end
end G
namespace G
open PySem PySem.Spec PyProof.Rows L2 PV
section
variable {P:Program} {w:World} {K:PySem.W.Frag} {mg:Str->Option Value} {base:Heap} {cl:Nat->Value} {tx:Tx K mg}
theorem qG {c_is_whole:List T->R T} (O_is_whole:W0 P w base cl tx 1 c_is_whole):WW P w base cl tx 2 (fun ts=>zu (wS c_is_whole (en0 1 ts))):=by
 obtain ⟨u_FARTHEST_BOUND,c_FARTHEST_BOUND⟩:=tx.c_FARTHEST_BOUND
 refine ZO tx.C_is_bound.F qy rfl (fun cdv A outer s H E Y hy hr=> ?_) (fun ts h=>rfl)
 refine zn ?_
 refine zq ?_
 refine wv ?_ ?_
 exact cZ hy O_is_whole hr tx.C_is_whole (z9 (za 0 (pv 0)) zg)
 refine W1 ?_
 exact wA jC jC Zq Zq (Snd.b (YU (qa (by rfl) c_FARTHEST_BOUND.1 c_FARTHEST_BOUND.2))) (zm 0 (pv 0)) (Snd.b (qa (by rfl) c_FARTHEST_BOUND.1 c_FARTHEST_BOUND.2))
end
end G
namespace G
open PySem PySem.Spec PyProof.Rows L2 PV
section
variable {P:Program} {w:World} {K:PySem.W.Frag} {mg:Str->Option Value} {base:Heap} {cl:Nat->Value} {tx:Tx K mg}
theorem vb:Uf P w base cl tx 1 (fun ts=>zu (Y7  (en0 1 ts))):=by
 refine ZO tx.C_is_word.F QZ rfl (fun cdv A outer s H E Y hy hr=> ?_) (fun ts h=>rfl)
 refine zj ?_ ?_
 refine zU ?_ ?_ ?_
 refine ur.t ?_
 refine qT ?_ ?_
 exact Wb (JX (Snd.b (wb (n:="str") (YX _) (by rfl) tx.z_isinstance (by rfl) tx.z_str PyProof.Rows.Boot.«str» (zm 0 (pv 0)))))
 refine uH ?_
 refine Wb ?_
 refine vX jC jC Zq Zq ?_ ?_ ?_
 exact Snd.b zc
 exact Snd.b (Jb (by rfl) tx.z_len (zm 0 (pv 0)))
 exact Snd.b zc
 exact zn (zq YT)
 exact zT
 refine zn ?_
 refine zq ?_
 refine G5 hr.hd (by rfl) tx.z_all ?_
 refine Snd.b ?_
 refine jl (ZR ["sign"] Yt (zf U9) (by rfl) (by rfl) (by decide+kernel) (by rfl) ?_ (fun _ _ _ _ _ _=>Z1 (show List.Nodup (["sign"]:List Str) by decide+kernel) (by rfl) (.inl (by rfl)) (.inr (by rfl))) (Zf 0) (Zg 0) (fun Y' hy' _ _ _ _ _ _=> ?_) (fun Y' hy' _ _ _ _ _ _=> ?_))
 exact jX (za 0 (pv 0))
 exact Jr
 exact wA jC jC Zq Zq (Snd.b zp) (zm 0 (pv 0)) (Snd.b zp)
end
end G
namespace G
open PySem PySem.Spec PyProof.Rows L2 PV
section
variable {P:Program} {w:World} {K:PySem.W.Frag} {mg:Str->Option Value} {base:Heap} {cl:Nat->Value} {tx:Tx K mg}
theorem WZ {j:Nat} (hj:2<=j) {c_is_word c_is_rule_within c_is_bound:List T->R T} (O_is_word:Uf P w base cl tx 1 c_is_word) (O_is_rule_within:ZC P w base cl tx j c_is_rule_within) (O_is_bound:WW P w base cl tx 2 c_is_bound):ZC P w base cl tx (j+1) (fun ts=>zu (zM c_is_word c_is_rule_within c_is_bound (en0 2 ts))):=by
 refine ZO tx.C_is_rule_within.F WT rfl (fun cdv A outer s H E Y hy hr=> ?_) (fun ts h=>rfl)
 refine zj ?_ ?_
 refine zU ?_ ?_ ?_
 refine ur.t ?_
 refine qT ?_ ?_
 exact zK zX (zv hr.units) (zm 1 (pv 1)) (Snd.b zc) (zl _)
 refine qT ?_ ?_
 exact Wb (JX (Snd.b (wb (n:="tuple") (jE _) (by rfl) tx.z_isinstance (by rfl) tx.z_tuple PyProof.Rows.Boot.«tuple» (zm 0 (pv 0)))))
 exact uH (zK zX (zv hr.units) (Snd.b (Jb (by rfl) tx.z_len (zm 0 (pv 0)))) (Snd.b zc) (zl _))
 exact zn (zq YT)
 exact zT
 refine zj ?_ ?_
 refine zU ?_ ?_ ?_
 refine ur.t ?_
 refine qT ?_ ?_
 exact zK zX (zv hr.units) (Snd.b (Ze (za 0 (pv 0)) zc)) (Snd.b zp) (zl _)
 refine uH ?_
 exact zK zX (zv hr.units) (Snd.b (Ze (za 0 (pv 0)) zc)) (Snd.b zp) (zl _)
 refine zn ?_
 refine zq ?_
 refine wv ?_ ?_
 exact jV zX (zv hr.units) (Snd.b (Jb (by rfl) tx.z_len (zm 0 (pv 0)))) (Snd.b zc) (zl _)
 refine wv ?_ ?_
 exact cZ hy O_is_bound hr tx.C_is_bound (z9 (Ze (za 0 (pv 0)) zc) zg)
 exact W1 (cZ hy O_is_bound hr tx.C_is_bound (z9 (Ze (za 0 (pv 0)) zc) zg))
 exact zT
 refine zj ?_ ?_
 refine zU ?_ ?_ ?_
 exact zK zX (zv hr.units) (Snd.b (Ze (za 0 (pv 0)) zc)) (Snd.b zp) (zl _)
 refine zn ?_
 refine zq ?_
 refine wv ?_ ?_
 exact jV zX (zv hr.units) (Snd.b (Jb (by rfl) tx.z_len (zm 0 (pv 0)))) (Snd.b zc) (zl _)
 exact W1 (cZ hy O_is_word hr tx.C_is_word (z9 (Ze (za 0 (pv 0)) zc) zg))
 exact zT
 refine zj ?_ ?_
 refine zU ?_ ?_ ?_
 refine ur.t ?_
 refine qT ?_ ?_
 exact zK zX (zv hr.units) (Snd.b (Ze (za 0 (pv 0)) zc)) (Snd.b zp) (zl _)
 refine uH ?_
 exact zK zX (zv hr.units) (Snd.b (Ze (za 0 (pv 0)) zc)) (Snd.b zp) (zl _)
 refine zn ?_
 exact zq (jV zX (zv hr.units) (Snd.b (Jb (by rfl) tx.z_len (zm 0 (pv 0)))) (Snd.b zc) (zl _))
 exact zT
 refine zj ?_ ?_
 refine zU ?_ ?_ ?_
 exact zK zX (zv hr.units) (Snd.b (Ze (za 0 (pv 0)) zc)) (Snd.b zp) (zl _)
 refine zn ?_
 refine zq ?_
 refine wv ?_ ?_
 exact jV zX (zv hr.units) (Snd.b (Jb (by rfl) tx.z_len (zm 0 (pv 0)))) (Snd.b zc) (zl _)
 refine W1 ?_
 refine cZ hy O_is_rule_within hr tx.C_is_rule_within ?_
 refine z9 ?_ ?_
 exact Ze (za 0 (pv 0)) zc
 exact z9 (WG (za 1 (pv 1)) zc) zg
 exact zT
 refine zj ?_ ?_
 refine zU ?_ ?_ ?_
 refine ur.t ?_
 refine qT ?_ ?_
 exact zK zX (zv hr.units) (Snd.b (Ze (za 0 (pv 0)) zc)) (Snd.b zp) (zl _)
 refine uH ?_
 exact zK zX (zv hr.units) (Snd.b (Ze (za 0 (pv 0)) zc)) (Snd.b zp) (zl _)
 refine zn ?_
 refine zq ?_
 refine wv ?_ ?_
 exact jV zX (zv hr.units) (Snd.b (Jb (by rfl) tx.z_len (zm 0 (pv 0)))) (Snd.b zc) (zl _)
 refine wv ?_ ?_
 refine cZ hy O_is_rule_within hr tx.C_is_rule_within ?_
 refine z9 ?_ ?_
 exact Ze (za 0 (pv 0)) zc
 exact z9 (WG (za 1 (pv 1)) zc) zg
 refine W1 ?_
 refine cZ hy O_is_rule_within hr tx.C_is_rule_within ?_
 refine z9 ?_ ?_
 exact Ze (za 0 (pv 0)) zc
 exact z9 (WG (za 1 (pv 1)) zc) zg
 exact zT
 exact zn (zq YT)
end
end G
namespace G
open PySem PySem.Spec PyProof.Rows L2 PV
section
variable {P:Program} {w:World} {K:PySem.W.Frag} {mg:Str->Option Value} {base:Heap} {cl:Nat->Value} {tx:Tx K mg}
theorem vc {c_is_rule_within:List T->R T} (O_is_rule_within:ZC P w base cl tx 10 c_is_rule_within):WB P w base cl tx 11 (fun ts=>zu (Wt c_is_rule_within (en0 1 ts))):=by
 obtain ⟨u_DEEPEST_RULE,c_DEEPEST_RULE⟩:=tx.c_DEEPEST_RULE
 refine ZO tx.C_is_rule.F v6 rfl (fun cdv A outer s H E Y hy hr=> ?_) (fun ts h=>rfl)
 refine zn ?_
 exact zq (cZ hy O_is_rule_within hr tx.C_is_rule_within (z9 (za 0 (pv 0)) (z9 (qa (by rfl) c_DEEPEST_RULE.1 c_DEEPEST_RULE.2) zg)))
end
end G
namespace G
open PySem PySem.Spec PyProof.Rows L2 PV
section
variable {P:Program} {w:World} {K:PySem.W.Frag} {mg:Str->Option Value} {base:Heap} {cl:Nat->Value} {tx:Tx K mg}
theorem Uj:JU P w base cl tx 1 (fun ts=>zu (jy  (en0 1 ts))):=by
 refine ZO tx.C__law_is_word.F Ua rfl (fun cdv A outer s H E Y hy hr=> ?_) (fun ts h=>rfl)
 refine zn ?_
 refine zq ?_
 refine wv ?_ ?_
 exact wb (n:="str") (YX _) (by rfl) tx.z_isinstance (by rfl) tx.z_str PyProof.Rows.Boot.«str» (zm 0 (pv 0))
 refine wv ?_ ?_
 refine wA jC jC Zq Zq ?_ ?_ ?_
 exact Snd.b zc
 exact Snd.b (Jb (by rfl) tx.z_len (zm 0 (pv 0)))
 exact Snd.b zc
 refine W1 ?_
 refine jV zX (zv hr.units) ?_ ?_ (zl _)
 refine Snd.b ?_
 refine jl (ZR ["_law_sign"] W9 (zf JP) (by rfl) (by rfl) (by decide+kernel) (by rfl) ?_ (fun _ _ _ _ _ _=>Z1 (show List.Nodup (["_law_sign"]:List Str) by decide+kernel) (by rfl) (.inl (by rfl)) (.inr (by rfl))) (Zf 0) (Zg 0) (fun Y' hy' _ _ _ _ _ _=> ?_) (fun Y' hy' _ _ _ _ _ _=> ?_))
 exact jX (za 0 (pv 0))
 refine uL ?_
 exact Wb (vX jC jC Zq Zq (Snd.b zp) (zm 0 (pv 0)) (Snd.b zp))
 exact za 0 (pv 0)
 exact Snd.b (Jl zg)
end
end G
namespace G
open PySem PySem.Spec PyProof.Rows L2 PV
section
variable {P:Program} {w:World} {K:PySem.W.Frag} {mg:Str->Option Value} {base:Heap} {cl:Nat->Value} {tx:Tx K mg}
theorem yy:wL P w base cl tx 1 (fun ts=>zu (u9  (en0 3 ts))):=by
 refine ZO tx.C__law_whole.F yr rfl (fun cdv A outer s H E Y hy hr=> ?_) (fun ts h=>rfl)
 refine zn ?_
 refine zq ?_
 refine wv ?_ ?_
 exact wb (n:="int") (UX _) (by rfl) tx.z_isinstance (by rfl) tx.z_int PyProof.Rows.Boot.«int» (zm 0 (pv 0))
 refine wv ?_ ?_
 exact vZ (wb (n:="bool") (ut _) (by rfl) tx.z_isinstance (by rfl) tx.z_bool PyProof.Rows.Boot.«bool» (zm 0 (pv 0)))
 exact W1 (wA jC jC Zq Zq (zm 1 (pv 1)) (zm 0 (pv 0)) (zm 2 (pv 2)))
end
end G
namespace G
open PySem PySem.Spec PyProof.Rows L2 PV
section
variable {P:Program} {w:World} {K:PySem.W.Frag} {mg:Str->Option Value} {base:Heap} {cl:Nat->Value} {tx:Tx K mg}
theorem Uk {j:Nat} (hj:1<=j) {c__law_whole c__law_is_word c__law_is_rule:List T->R T} (O__law_whole:wL P w base cl tx 1 c__law_whole) (O__law_is_word:JU P w base cl tx 1 c__law_is_word) (O__law_is_rule:ZT P w base cl tx j c__law_is_rule):ZT P w base cl tx (j+1) (fun ts=>zu (Z7 c__law_whole c__law_is_word c__law_is_rule (en0 4 ts))):=by
 refine ZO tx.C__law_is_rule.F wF rfl (fun cdv A outer s H E Y hy hr=> ?_) (fun ts h=>rfl)
 refine zj ?_ ?_
 refine zU ?_ ?_ ?_
 refine ur.t ?_
 refine qT ?_ ?_
 exact Wb (JX (Snd.b (wb (n:="tuple") (jE _) (by rfl) tx.z_isinstance (by rfl) tx.z_tuple PyProof.Rows.Boot.«tuple» (zm 0 (pv 0)))))
 refine qT ?_ ?_
 exact zK zX (zv hr.units) (zm 0 (pv 0)) (Snd.b (zW zg)) (zl _)
 refine qT ?_ ?_
 refine Wb ?_
 exact JX (Snd.b (wb (n:="str") (YX _) (by rfl) tx.z_isinstance (by rfl) tx.z_str PyProof.Rows.Boot.«str» (Snd.b (Ze (za 0 (pv 0)) zc))))
 exact uH (zK QF UC (zm 1 (pv 1)) (Snd.b zc) (zl _))
 exact zn (zq YT)
 exact zT
 refine zj ?_ ?_
 refine z0X (i:=2) (j:=3) (by rfl) wF.nd (by rfl) (by rfl) (by decide) (by rfl) (by rfl) ?_ (by rfl)
 refine z9 ?_ ?_
 exact Ze (za 0 (pv 0)) zc
 exact z9 (jo (za 0 (pv 0)) (Jp zc) wl) zg
 refine zj ?_ ?_
 refine zU ?_ ?_ ?_
 refine zK yW (UD hr.units) ?_ ?_ (by rfl)
 exact zm 2 (pv 2)
 exact Snd.b (zW (z9 zp (z9 zp zg)))
 exact zn (zq (jV zX (zv hr.units) (zm 3 (pv 3)) (Snd.b (zW zg)) (zl _)))
 exact zT
 refine zj ?_ ?_
 refine zU ?_ ?_ ?_
 refine zK yW (UD hr.units) ?_ ?_ (by rfl)
 exact zm 2 (pv 2)
 exact Snd.b (zW (z9 zp (z9 zp zg)))
 refine zn ?_
 refine zq ?_
 refine wv ?_ ?_
 exact jV zX (zv hr.units) (Snd.b (Jb (by rfl) tx.z_len (zm 3 (pv 3)))) (Snd.b zc) (zl _)
 refine W1 ?_
 refine jV zX (zv hr.units) ?_ ?_ (zl _)
 refine Snd.b ?_
 refine jl (ZR ["_law_one"] JQ (zf jA) (by rfl) (by rfl) (by decide+kernel) (by rfl) ?_ (fun _ _ _ _ _ _=>Z1 (show List.Nodup (["_law_one"]:List Str) by decide+kernel) (by rfl) (.inl (by rfl)) (.inr (by rfl))) (Zf 0) (Zg 0) (fun Y' hy' _ _ _ _ _ _=> ?_) (fun Y' hy' _ _ _ _ _ _=> ?_))
 exact jX (za 3 (pv 3))
 refine uL ?_
 refine Wb ?_
 refine JX ?_
 refine Snd.b ?_
 refine cZ (hy'.trans hy) O__law_whole hr tx.C__law_whole ?_
 refine z9 ?_ ?_
 exact za 0 (pv 0)
 exact z9 (YU zc) (z9 zc zg)
 exact za 0 (pv 0)
 exact Snd.b (Jl zg)
 exact zT
 refine zj ?_ ?_
 refine zU ?_ ?_ ?_
 exact zK zX (zv hr.units) (zm 2 (pv 2)) (Snd.b zp) (zl _)
 refine zn ?_
 refine zq ?_
 refine wv ?_ ?_
 exact jV zX (zv hr.units) (Snd.b (Jb (by rfl) tx.z_len (zm 3 (pv 3)))) (Snd.b zc) (zl _)
 exact W1 (cZ hy O__law_is_word hr tx.C__law_is_word (z9 (Ze (za 3 (pv 3)) zc) zg))
 exact zT
 refine zj ?_ ?_
 refine zU ?_ ?_ ?_
 refine zK XN (vT hr.units) ?_ ?_ (by rfl)
 refine Snd.b ?_
 exact zW (z9 (za 2 (pv 2)) (z9 (Jb (by rfl) tx.z_len (zm 3 (pv 3))) zg))
 refine Snd.b ?_
 refine zW ?_
 refine z9 ?_ ?_
 exact zW (z9 zp (z9 zc zg))
 refine z9 ?_ ?_
 exact zW (z9 zp (z9 zc zg))
 refine z9 ?_ ?_
 exact zW (z9 zp (z9 zc zg))
 exact zg
 exact zn (zq YT)
 exact zT
 refine zn ?_
 refine zq ?_
 refine jV zX (zv hr.units) ?_ ?_ (zl _)
 refine Snd.b ?_
 refine jl (ZR ["_law_one","_law_deep"] JQ (zf jA) (by rfl) (by rfl) (by decide+kernel) (by rfl) ?_ (fun _ _ _ _ _ _=>Z1 (show List.Nodup (["_law_one","_law_deep"]:List Str) by decide+kernel) (by rfl) (.inl (by rfl)) (.inr (by rfl))) (Zf 0) (Zg 0) (fun Y' hy' _ _ _ _ _ _=> ?_) (fun Y' hy' _ _ _ _ _ _=> ?_))
 exact jX (za 3 (pv 3))
 refine uL ?_
 refine Wb ?_
 refine JX ?_
 refine Snd.b ?_
 refine cZ (hy'.trans hy) O__law_is_rule hr tx.C__law_is_rule ?_
 exact z9 (za 0 (pv 0)) (z9 (WG (za 1 (pv 1)) zc) zg)
 exact za 0 (pv 0)
 exact Snd.b (Jl zg)
end
end G
namespace G
open PySem PySem.Spec PyProof.Rows L2 PV
section
variable {P:Program} {w:World} {K:PySem.W.Frag} {mg:Str->Option Value} {base:Heap} {cl:Nat->Value} {tx:Tx K mg}
theorem YF (xq:Tq K mg base cl):Wk P w base cl tx 1 (fun c=>zu (uT  (enC 2 c))):=by
 refine Gn tx.C__law_word.F ug (by decide) (fun cdv A outer s H E Y hy hr=> ?_) (fun c=>rfl)
 refine zj ?_ ?_
 refine uI (i:=1) ug.nd (by rfl) (.inl (by rfl)) ?_
 refine z9 ?_ ?_
 exact WI (hy ▸ xq.X_k) (hy ▸ xq.t_Ended) (by rfl) tx.z_isinstance (pv 0) (by rfl) xq.m_Ended
 exact z9 (WI (hy ▸ xq.X_k) (hy ▸ xq.t_NoKind) (by rfl) tx.z_isinstance (pv 0) (by rfl) xq.m_NoKind) (z9 (WI (hy ▸ xq.X_k) (hy ▸ xq.t_NoRule) (by rfl) tx.z_isinstance (pv 0) (by rfl) xq.m_NoRule) (z9 (WI (hy ▸ xq.X_k) (hy ▸ xq.t_NoText) (by rfl) tx.z_isinstance (pv 0) (by rfl) xq.m_NoText) zg))
 refine zj ?_ ?_
 exact QI (i:=1) (pv 1) (Jl (z9 (WI (hy ▸ xq.X_k) (hy ▸ xq.t_NoWorth) (by rfl) tx.z_isinstance (pv 0) (by rfl) xq.m_NoWorth) (z9 (WI (hy ▸ xq.X_k) (hy ▸ xq.t_TooMany) (by rfl) tx.z_isinstance (pv 0) (by rfl) xq.m_TooMany) zg)))
 refine zj ?_ ?_
 refine zU ?_ ?_ ?_
 refine ur.t ?_
 refine qT ?_ ?_
 refine zK YV (uG hr.units) ?_ ?_ (zl _)
 exact Snd.b (Ko hr.units (zm 1 (pv 1)) (Snd.b YT))
 exact Snd.b zc
 exact uH (Wb (JX (Snd.b (Kb (n:="ValueError") (hy ▸ xq.X_k) (hy ▸ xq.t_ValueError) (by rfl) tx.z_isinstance (pv 0) (by rfl) tx.z_ValueError PyProof.Rows.Boot.«ValueError»))))
 exact zn (zq zp)
 exact zT
 refine zn ?_
 refine zq ?_
 refine Ze ?_ ?_
 refine Jl ?_
 refine z9 ?_ ?_
 exact zp
 refine z9 ?_ ?_
 exact zp
 refine z9 ?_ ?_
 exact zp
 exact z9 zp (z9 zp (z9 zp zg))
 exact Kp hr.units (zm 1 (pv 1)) (Snd.b YT)
end
end G
namespace G
open PySem PySem.Spec PyProof.Rows L2 PV
section
variable {P:Program} {w:World} {K:PySem.W.Frag} {mg:Str->Option Value} {base:Heap} {cl:Nat->Value} {tx:Tx K mg}
theorem YG {c_is_rule:List T->R T} (xq:Tq K mg base cl) (O_is_rule:WB P w base cl tx 11 c_is_rule):Wl P w base cl tx 12 (fun ts=>zu (wf c_is_rule (en0 1 ts))):=by
 refine XY tx.C_need_rule.F Yw rfl (fun cdv A outer s H E Y hy hE hr=> ?_) (fun ts h=>rfl)
 refine zn ?_
 refine zU ?_ ?_ ?_
 exact Wb (JX (Snd.b (cZ hy O_is_rule hr tx.C_is_rule (z9 (za 0 (pv 0)) zg))))
 exact zn (K7 (c:=2) xq.o_NoRule PySem.F.excBase_ValueError (by decide) PySem.F.excBase_ValueError hE (by rw [hy]; exact xq.l_NoRule) (by rfl))
 exact zT
end
end G
namespace G
open PySem PySem.Spec PyProof.Rows L2 PV
section
variable {P:Program} {w:World} {K:PySem.W.Frag} {mg:Str->Option Value} {base:Heap} {cl:Nat->Value} {tx:Tx K mg}
theorem yz:wM P w base cl tx 1 (fun ts=>zu (Jt  (en0 1 ts))):=by
 refine ZO tx.C_are_unlike.F yt rfl (fun cdv A outer s H E Y hy hr=> ?_) (fun ts h=>rfl)
 refine zn ?_
 refine zq ?_
 refine vZ ?_
 refine z18 hr.hd (by rfl) tx.z_any ?_
 refine Snd.b ?_
 refine jl (ZR ["place","part","parts"] uh (zf wG) (by rfl) (by rfl) (by decide+kernel) (by rfl) ?_ (fun _ _ _ _ _ _=>qK (by rfl) (Jn (Z1 (show List.Nodup (["place","part","parts"]:List Str) by decide+kernel) (by rfl) (.inl (by rfl)) (.inr (by rfl))) (Jn (Z1 (show List.Nodup (["place","part","parts"]:List Str) by decide+kernel) (by rfl) (.inl (by rfl)) (.inr (by rfl))) UR))) (uu _ 0 1) (uv 0 1) (fun Y' hy' _ _ _ _ _ _=> ?_) (fun Y' hy' _ _ _ _ _ _=> ?_))
 exact Kq (by rfl) tx.z_enumerate (za 0 (pv 0))
 exact Jr
 refine jV yW (UD hr.units) ?_ ?_ (by rfl)
 exact zm 1 (pv 1)
 exact Snd.b (jo (za 2 (pv 2)) wl (Jp (za 0 (pv 0))))
end
end G
namespace G
open PySem PySem.Spec PyProof.Rows L2 PV
section
variable {P:Program} {w:World} {K:PySem.W.Frag} {mg:Str->Option Value} {base:Heap} {cl:Nat->Value} {tx:Tx K mg}
theorem yA:wN P w base cl tx 1 (fun ts=>zu (Jv  (en0 1 ts))):=by
 refine ZO tx.C_are_rising.F yu rfl (fun cdv A outer s H E Y hy hr=> ?_) (fun ts h=>rfl)
 refine zn ?_
 refine zq ?_
 refine G5 hr.hd (by rfl) tx.z_all ?_
 refine Snd.b ?_
 refine jl (ZR ["ahead","number"] ui (zf wH) (by rfl) (by rfl) (by decide+kernel) (by rfl) ?_ (fun _ _ _ _ _ _=>qK (by rfl) (Jn (Z1 (show List.Nodup (["ahead","number"]:List Str) by decide+kernel) (by rfl) (.inl (by rfl)) (.inr (by rfl))) (Jn (Z1 (show List.Nodup (["ahead","number"]:List Str) by decide+kernel) (by rfl) (.inl (by rfl)) (.inr (by rfl))) UR))) (uu _ 0 1) (uv 0 1) (fun Y' hy' _ _ _ _ _ _=> ?_) (fun Y' hy' _ _ _ _ _ _=> ?_))
 exact z12 (by rfl) tx.z_zip (za 0 (pv 0)) (jo (za 0 (pv 0)) (Jp zc) wl)
 exact Jr
 exact jV jC Zq (zm 0 (pv 0)) (zm 1 (pv 1)) (zl _)
end
end G
namespace G
open PySem PySem.Spec PyProof.Rows L2 PV
section
variable {P:Program} {w:World} {K:PySem.W.Frag} {mg:Str->Option Value} {base:Heap} {cl:Nat->Value} {tx:Tx K mg}
theorem qH:WX P w base cl tx 1 (fun ts=>zu (UG  (en0 1 ts))):=by
 refine ZO tx.C_parts_of.F qB rfl (fun cdv A outer s H E Y hy hr=> ?_) (fun ts h=>rfl)
 refine zn ?_
 refine zq ?_
 refine gh ?_ ?_ ?_
 exact JX (Snd.b (wb (n:="tuple") (jE _) (by rfl) tx.z_isinstance (by rfl) tx.z_tuple PyProof.Rows.Boot.«tuple» (zm 0 (pv 0))))
 exact za 0 (pv 0)
 exact zW (z9 (za 0 (pv 0)) zg)
end
end G
namespace G
open PySem PySem.Spec PyProof.Rows L2 PV
section
variable {P:Program} {w:World} {K:PySem.W.Frag} {mg:Str->Option Value} {base:Heap} {cl:Nat->Value} {tx:Tx K mg}
theorem YH {j:Nat} (hj:0<=j) {c_leaves_of:List T->R T} (O_leaves_of:ju P w base cl tx j c_leaves_of):ju P w base cl tx (j+1) (fun ts=>zu (wg c_leaves_of (en0 3 ts))):=by
 refine ZO tx.C_leaves_of.F wI rfl (fun cdv A outer s H E Y hy hr=> ?_) (fun ts h=>rfl)
 refine zj ?_ ?_
 refine zU ?_ ?_ ?_
 exact Wb (JX (Snd.b (wb (n:="tuple") (jE _) (by rfl) tx.z_isinstance (by rfl) tx.z_tuple PyProof.Rows.Boot.«tuple» (zm 0 (pv 0)))))
 exact zn (zq (Jl (z9 (za 0 (pv 0)) zg)))
 exact zT
 refine zj ?_ ?_
 exact uI (i:=1) wI.nd (by rfl) (.inl (by rfl)) zg
 refine zj ?_ ?_
 refine Wr PassesOwn.never (by rfl) ?_ ?_ ?_
 exact jX (za 0 (pv 0))
 exact Jq (i:=2) wI.nd (by rfl) (.inl (by rfl))
 exact zn (QI (i:=1) (pv 1) (cZ hy O_leaves_of hr tx.C_leaves_of (z9 (za 2 (pv 2)) zg)))
 exact zn (zq (za 1 (pv 1)))
end
end G
namespace G
open PySem PySem.Spec PyProof.Rows L2 PV
section
variable {P:Program} {w:World} {K:PySem.W.Frag} {mg:Str->Option Value} {base:Heap} {cl:Nat->Value} {tx:Tx K mg}
theorem yB {c_is_whole c_leaves_of:List T->R T} (O_is_whole:W0 P w base cl tx 1 c_is_whole) (O_leaves_of:ju P w base cl tx 8 c_leaves_of):wO P w base cl tx 9 (fun ts=>zu (Jx c_is_whole c_leaves_of (en0 1 ts))):=by
 refine ZO tx.C_numbers_in.F yv rfl (fun cdv A outer s H E Y hy hr=> ?_) (fun ts h=>rfl)
 refine zn ?_
 refine zq ?_
 refine jl (ZR ["leaf"] uj (zf wJ) (by rfl) (by rfl) (by decide+kernel) (by rfl) ?_ (fun _ _ _ _ _ _=>Z1 (show List.Nodup (["leaf"]:List Str) by decide+kernel) (by rfl) (.inl (by rfl)) (.inr (by rfl))) (Zf 0) (Zg 0) (fun Y' hy' _ _ _ _ _ _=> ?_) (fun Y' hy' _ _ _ _ _ _=> ?_))
 exact jX (cZ hy O_leaves_of hr tx.C_leaves_of (z9 (za 0 (pv 0)) zg))
 exact uL (JX (Snd.b (cZ (hy'.trans hy) O_is_whole hr tx.C_is_whole (z9 (za 0 (pv 0)) zg))))
 exact za 0 (pv 0)
end
end G
namespace G
open PySem PySem.Spec PyProof.Rows L2 PV
section
variable {P:Program} {w:World} {K:PySem.W.Frag} {mg:Str->Option Value} {base:Heap} {cl:Nat->Value} {tx:Tx K mg}
theorem u3 {c_parts_of c_leaves_of c_numbers_in c_are_rising c_are_unlike:List T->R T} (O_parts_of:WX P w base cl tx 1 c_parts_of) (O_leaves_of:ju P w base cl tx 8 c_leaves_of) (O_numbers_in:wO P w base cl tx 9 c_numbers_in) (O_are_rising:wN P w base cl tx 1 c_are_rising) (O_are_unlike:wM P w base cl tx 1 c_are_unlike):jQ P w base cl tx 10 (fun ts=>zu (ZW c_parts_of c_leaves_of c_numbers_in c_are_rising c_are_unlike (en0 2 ts))):=by
 refine ZO tx.C_is_single_kept.F WU rfl (fun cdv A outer s H E Y hy hr=> ?_) (fun ts h=>rfl)
 refine zj ?_ ?_
 refine zU ?_ ?_ ?_
 exact zK zX (zv hr.units) (Snd.b (Ze (za 0 (pv 0)) zc)) (Snd.b zp) (zl _)
 refine zn ?_
 refine zq ?_
 refine wA jC jC Zq Zq ?_ ?_ ?_
 exact Snd.b (Ze (za 0 (pv 0)) zc)
 exact Snd.b (z16 hr.hd (by rfl) tx.z_sum (Snd.b (cZ hy O_numbers_in hr tx.C_numbers_in (z9 (za 1 (pv 1)) zg))))
 exact Snd.b (Ze (za 0 (pv 0)) zc)
 exact zT
 refine zj ?_ ?_
 refine zU ?_ ?_ ?_
 exact zK zX (zv hr.units) (Snd.b (Ze (za 0 (pv 0)) zc)) (Snd.b zp) (zl _)
 refine zn ?_
 refine zq ?_
 refine wA jC jC Zq Zq ?_ ?_ ?_
 exact Snd.b (Ze (za 0 (pv 0)) zc)
 exact Snd.b (Jb (by rfl) tx.z_len (Snd.b (cZ hy O_parts_of hr tx.C_parts_of (z9 (za 1 (pv 1)) zg))))
 exact Snd.b (Ze (za 0 (pv 0)) zc)
 exact zT
 refine zj ?_ ?_
 refine zU ?_ ?_ ?_
 exact zK zX (zv hr.units) (Snd.b (Ze (za 0 (pv 0)) zc)) (Snd.b zp) (zl _)
 refine zn ?_
 refine zq ?_
 refine jV yW (UD hr.units) ?_ ?_ (by rfl)
 exact Snd.b (Ze (za 0 (pv 0)) zc)
 exact Snd.b (cZ hy O_leaves_of hr tx.C_leaves_of (z9 (za 1 (pv 1)) zg))
 exact zT
 refine zj ?_ ?_
 refine zU ?_ ?_ ?_
 exact zK zX (zv hr.units) (Snd.b (Ze (za 0 (pv 0)) zc)) (Snd.b zp) (zl _)
 refine zn ?_
 refine zq ?_
 exact cZ hy O_are_rising hr tx.C_are_rising (z9 (cZ hy O_numbers_in hr tx.C_numbers_in (z9 (za 1 (pv 1)) zg)) zg)
 exact zT
 refine zn ?_
 refine zq ?_
 exact cZ hy O_are_unlike hr tx.C_are_unlike (z9 (cZ hy O_parts_of hr tx.C_parts_of (z9 (za 1 (pv 1)) zg)) zg)
end
end G
namespace G
open PySem PySem.Spec PyProof.Rows L2 PV
section
variable {P:Program} {w:World} {K:PySem.W.Frag} {mg:Str->Option Value} {base:Heap} {cl:Nat->Value} {tx:Tx K mg}
theorem vd {j:Nat} (hj:10<=j) {c_is_kept c_is_single_kept:List T->R T} (O_is_kept:wP P w base cl tx j c_is_kept) (O_is_single_kept:jQ P w base cl tx 10 c_is_single_kept):wP P w base cl tx (j+1) (fun ts=>zu (Wu c_is_kept c_is_single_kept (en0 2 ts))):=by
 refine ZO tx.C_is_kept.F v9 rfl (fun cdv A outer s H E Y hy hr=> ?_) (fun ts h=>rfl)
 refine zj ?_ ?_
 refine zU ?_ ?_ ?_
 exact zK zX (zv hr.units) (Snd.b (Ze (za 0 (pv 0)) zc)) (Snd.b zp) (zl _)
 refine zn ?_
 refine zq ?_
 refine vZ ?_
 refine cZ hy O_is_kept hr tx.C_is_kept ?_
 exact z9 (Ze (za 0 (pv 0)) zc) (z9 (za 1 (pv 1)) zg)
 exact zT
 refine zj ?_ ?_
 refine zU ?_ ?_ ?_
 exact zK zX (zv hr.units) (Snd.b (Ze (za 0 (pv 0)) zc)) (Snd.b zp) (zl _)
 refine zn ?_
 refine zq ?_
 refine wv ?_ ?_
 refine cZ hy O_is_kept hr tx.C_is_kept ?_
 exact z9 (Ze (za 0 (pv 0)) zc) (z9 (za 1 (pv 1)) zg)
 refine W1 ?_
 refine cZ hy O_is_kept hr tx.C_is_kept ?_
 exact z9 (Ze (za 0 (pv 0)) zc) (z9 (za 1 (pv 1)) zg)
 exact zT
 refine zj ?_ ?_
 refine zU ?_ ?_ ?_
 exact zK zX (zv hr.units) (Snd.b (Ze (za 0 (pv 0)) zc)) (Snd.b zp) (zl _)
 refine zn ?_
 refine zq ?_
 refine s_or ?_ ?_
 refine cZ hy O_is_kept hr tx.C_is_kept ?_
 exact z9 (Ze (za 0 (pv 0)) zc) (z9 (za 1 (pv 1)) zg)
 refine W1 ?_
 refine cZ hy O_is_kept hr tx.C_is_kept ?_
 exact z9 (Ze (za 0 (pv 0)) zc) (z9 (za 1 (pv 1)) zg)
 exact zT
 refine zn ?_
 exact zq (cZ hy O_is_single_kept hr tx.C_is_single_kept (z9 (za 0 (pv 0)) (z9 (za 1 (pv 1)) zg)))
end
end G
namespace G
open PySem PySem.Spec PyProof.Rows L2 PV
section
variable {P:Program} {w:World} {K:PySem.W.Frag} {mg:Str->Option Value} {base:Heap} {cl:Nat->Value} {tx:Tx K mg}
theorem XE {c_need_rule c_is_kept:List T->R T} (O_need_rule:Wl P w base cl tx 12 c_need_rule) (O_is_kept:wP P w base cl tx 18 c_is_kept):qD P w base cl tx 19 (fun ts=>zu (WM c_need_rule c_is_kept (en0 2 ts))):=by
 refine XY tx.C_keeps.F XB rfl (fun cdv A outer s H E Y hy hE hr=> ?_) (fun ts h=>rfl)
 refine zj ?_ ?_
 exact G7 (cX hy (hE ▸ z0P) O_need_rule hr tx.C_need_rule (z9 (za 0 (pv 0)) zg))
 refine zn ?_
 exact zq (cZ hy O_is_kept hr tx.C_is_kept (z9 (za 0 (pv 0)) (z9 (za 1 (pv 1)) zg)))
end
end G
namespace G
open PySem PySem.Spec PyProof.Rows L2 PV
section
variable {P:Program} {w:World} {K:PySem.W.Frag} {mg:Str->Option Value} {base:Heap} {cl:Nat->Value} {tx:Tx K mg}
theorem yC {c_keeps:List T->R T} {c__law_word:Nat->R T} (xq:Tq K mg base cl) (O__law_word:Wk P w base cl tx 1 c__law_word) (O_keeps:qD P w base cl tx 19 c_keeps):wQ P w base cl tx 20 (fun ts=>zu (j9 c__law_word c_keeps (en0 5 ts))):=by
 refine ZO tx.C__law_tried.F jh rfl (fun cdv A outer s H E Y hy hr=> ?_) (fun ts h=>rfl)
 refine zj ?_ ?_
 exact Zi (i:=2) jh.nd (by rfl) (.inl (by rfl)) kI
 refine zj ?_ ?_
 exact Zi (i:=3) jh.nd (by rfl) (.inl (by rfl)) kI
 refine zj ?_ ?_
 refine z10 (i:=4) (k:=2) (ok:=okX) (by rfl) (by rfl) jh.nd (by rfl) (by rfl) (by rfl) (by rfl) (by decide) (by rfl) xq.m_WorthError (hy ▸ xq.e_WorthError) (fun E' pn xe hp=> ?_)
 refine zn ?_
 exact Zi (i:=3) jh.nd (by rfl) (.inl (by rfl)) (cX hy hp O_keeps hr tx.C_keeps (z9 (za 0 (pv 0)) (z9 (za 1 (pv 1)) zg)))
 refine zj ?_ ?_
 exact zU (Gm (pv 2)) (zn (zq (za 3 (pv 3)))) zT
 exact zn (zq (Ke hy O__law_word hr (by omega) (by rfl) tx.C__law_word.m tx.C__law_word.F.kp tx.C__law_word.b (pv 2)))
end
end G
namespace G
open PySem PySem.Spec PyProof.Rows L2 PV
section
variable {P:Program} {w:World} {K:PySem.W.Frag} {mg:Str->Option Value} {base:Heap} {cl:Nat->Value} {tx:Tx K mg}
theorem Ux {j:Nat} (hj:0<=j) {c__law_places:List T->R T} (O__law_places:ji P w base cl tx j c__law_places):ji P w base cl tx (j+1) (fun ts=>zu (Z5 c__law_places (en0 3 ts))):=by
 refine ZO tx.C__law_places.F JR rfl (fun cdv A outer s H E Y hy hr=> ?_) (fun ts h=>rfl)
 refine zj ?_ ?_
 exact uI (i:=1) JR.nd (by rfl) (.inl (by rfl)) (z9 (zW zg) zg)
 refine zj ?_ ?_
 refine zU ?_ ?_ ?_
 exact JX (Snd.b (wb (n:="tuple") (jE _) (by rfl) tx.z_isinstance (by rfl) tx.z_tuple PyProof.Rows.Boot.«tuple» (zm 0 (pv 0))))
 refine zn ?_
 refine Wr PassesOwn.never (by rfl) ?_ ?_ ?_
 exact uJ (by rfl) tx.z_range (Jb (by rfl) tx.z_len (zm 0 (pv 0)))
 exact Jq (i:=2) JR.nd (by rfl) (.inr (by rfl))
 refine zn ?_
 refine QI (i:=1) (pv 1) ?_
 refine jl (ZR ["_law_place","_law_k"] Wz (zf wj) (by rfl) (by rfl) (by decide+kernel) (by rfl) ?_ (fun _ _ _ _ _ _=>Z1 (show List.Nodup (["_law_place","_law_k"]:List Str) by decide+kernel) (by rfl) (.inl (by rfl)) (.inr (by rfl))) (Zf 0) (Zg 0) (fun Y' hy' _ _ _ _ _ _=> ?_) (fun Y' hy' _ _ _ _ _ _=> ?_))
 exact jX (cZ hy O__law_places hr tx.C__law_places (z9 (Ze (za 0 (pv 0)) (za 2 (pv 2))) zg))
 exact Jr
 exact zQ (zW (z9 (za 1 (pv 1)) zg)) (za 0 (pv 0))
 exact zT
 exact zn (zq (za 1 (pv 1)))
end
end G
namespace G
open PySem PySem.Spec PyProof.Rows L2 PV
section
variable {P:Program} {w:World} {K:PySem.W.Frag} {mg:Str->Option Value} {base:Heap} {cl:Nat->Value} {tx:Tx K mg}
theorem ve:Ug P w base cl tx 1 (fun ts=>zu (Ww  (en0 3 ts))):=by
 refine ZO tx.C__law_at.F WV rfl (fun cdv A outer s H E Y hy hr=> ?_) (fun ts h=>rfl)
 refine zj ?_ ?_
 refine Wr PassesOwn.never (by rfl) ?_ ?_ ?_
 exact jX (za 1 (pv 1))
 exact Jq (i:=2) WV.nd (by rfl) (.inl (by rfl))
 exact zn (Zi (i:=0) WV.nd (by rfl) (.inl (by rfl)) (Ze (za 0 (pv 0)) (za 2 (pv 2))))
 exact zn (zq (za 0 (pv 0)))
end
end G
namespace G
open PySem PySem.Spec PyProof.Rows L2 PV
section
variable {P:Program} {w:World} {K:PySem.W.Frag} {mg:Str->Option Value} {base:Heap} {cl:Nat->Value} {tx:Tx K mg}
theorem qI {j:Nat} (hj:0<=j) {c__law_put:List T->R T} (O__law_put:wa P w base cl tx j c__law_put):wa P w base cl tx (j+1) (fun ts=>zu (J9 c__law_put (en0 4 ts))):=by
 refine ZO tx.C__law_put.F Ue rfl (fun cdv A outer s H E Y hy hr=> ?_) (fun ts h=>rfl)
 refine zj ?_ ?_
 refine zU ?_ ?_ ?_
 exact zK zX (zv hr.units) (zm 1 (pv 1)) (Snd.b (zW zg)) (zl _)
 exact zn (zq (za 2 (pv 2)))
 exact zT
 refine zj ?_ ?_
 exact Zi (i:=3) Ue.nd (by rfl) (.inl (by rfl)) (Ze (za 1 (pv 1)) zc)
 refine zn ?_
 refine zq ?_
 refine zQ ?_ ?_
 refine zQ ?_ ?_
 exact jo (za 0 (pv 0)) wl (Jp (za 3 (pv 3)))
 refine zW ?_
 refine z9 ?_ ?_
 refine cZ hy O__law_put hr tx.C__law_put ?_
 refine z9 ?_ ?_
 exact Ze (za 0 (pv 0)) (za 3 (pv 3))
 refine z9 ?_ ?_
 exact jo (za 1 (pv 1)) (Jp zc) wl
 exact z9 (za 2 (pv 2)) zg
 exact zg
 exact jo (za 0 (pv 0)) (Jp (zQ (za 3 (pv 3)) zc)) wl
end
end G
namespace G
open PySem PySem.Spec PyProof.Rows L2 PV
section
variable {P:Program} {w:World} {K:PySem.W.Frag} {mg:Str->Option Value} {base:Heap} {cl:Nat->Value} {tx:Tx K mg}
theorem W2 {c__law_pick c__law_places c__law_at c__law_put:List T->R T} (O__law_pick:j5 P w base cl tx 2 c__law_pick) (O__law_places:ji P w base cl tx 40 c__law_places) (O__law_at:Ug P w base cl tx 1 c__law_at) (O__law_put:wa P w base cl tx 40 c__law_put):j6 P w base cl tx 41 (fun ts=>zu (Zx c__law_pick c__law_places c__law_at c__law_put (en0 9 ts))):=by
 refine ZO tx.C__law_spoilt_thing.F zI rfl (fun cdv A outer s H E Y hy hr=> ?_) (fun ts h=>rfl)
 refine zj ?_ ?_
 exact Zi (i:=3) zI.nd (by rfl) (.inl (by rfl)) (cZ hy O__law_places hr tx.C__law_places (z9 (za 2 (pv 2)) zg))
 refine zj ?_ ?_
 refine Zi (i:=4) zI.nd (by rfl) (.inl (by rfl)) ?_
 refine Ze ?_ ?_
 exact za 3 (pv 3)
 refine cZ hy O__law_pick hr tx.C__law_pick ?_
 refine z9 ?_ ?_
 exact za 0 (pv 0)
 exact z9 (za 1 (pv 1)) (z9 (Jb (by rfl) tx.z_len (zm 3 (pv 3))) zg)
 refine zj ?_ ?_
 exact Zi (i:=5) zI.nd (by rfl) (.inl (by rfl)) (cZ hy O__law_at hr tx.C__law_at (z9 (za 2 (pv 2)) (z9 (za 4 (pv 4)) zg)))
 refine zj ?_ ?_
 refine Zi (i:=6) zI.nd (by rfl) (.inl (by rfl)) ?_
 refine Jl ?_
 refine z9 ?_ ?_
 exact zc
 refine z9 ?_ ?_
 exact zc
 refine z9 ?_ ?_
 exact YU zc
 refine z9 ?_ ?_
 exact zc
 refine z9 ?_ ?_
 exact zc
 refine z9 ?_ ?_
 exact zc
 refine z9 ?_ ?_
 exact YT
 refine z9 ?_ ?_
 exact kI
 refine z9 ?_ ?_
 exact zp
 refine z9 ?_ ?_
 exact zp
 refine z9 ?_ ?_
 exact zp
 refine z9 ?_ ?_
 exact zp
 refine z9 ?_ ?_
 exact zp
 refine z9 ?_ ?_
 exact zp
 refine z9 ?_ ?_
 exact zW zg
 refine z9 ?_ ?_
 exact zW (z9 (za 5 (pv 5)) zg)
 refine z9 ?_ ?_
 exact Jl (z9 (za 5 (pv 5)) zg)
 refine z9 ?_ ?_
 refine zW ?_
 exact z9 zp (z9 zc (z9 zc zg))
 exact zg
 refine zj ?_ ?_
 refine Zi (i:=7) zI.nd (by rfl) (.inl (by rfl)) ?_
 refine cZ hy O__law_pick hr tx.C__law_pick ?_
 refine z9 ?_ ?_
 exact za 0 (pv 0)
 refine z9 ?_ ?_
 exact zQ (za 1 (pv 1)) zc
 exact z9 (zQ (Jb (by rfl) tx.z_len (zm 6 (pv 6))) zc) zg
 refine zj ?_ ?_
 refine zU ?_ ?_ ?_
 exact zK QF UC (zm 7 (pv 7)) (Snd.b (Jb (by rfl) tx.z_len (zm 6 (pv 6)))) (zl _)
 refine zn ?_
 refine zq ?_
 refine cZ hy O__law_put hr tx.C__law_put ?_
 refine z9 ?_ ?_
 exact za 2 (pv 2)
 exact z9 (za 4 (pv 4)) (z9 (Ze (za 6 (pv 6)) (za 7 (pv 7))) zg)
 exact zT
 refine zj ?_ ?_
 refine zU ?_ ?_ ?_
 refine ur.t ?_
 refine kS ?_ ?_
 exact JX (Snd.b (wb (n:="tuple") (jE _) (by rfl) tx.z_isinstance (by rfl) tx.z_tuple PyProof.Rows.Boot.«tuple» (zm 5 (pv 5))))
 exact V0 (zK YV (uG hr.units) (zm 5 (pv 5)) (Snd.b (zW zg)) (zl _))
 refine zj ?_ ?_
 refine Zi (i:=8) zI.nd (by rfl) (.inl (by rfl)) ?_
 refine cZ hy O__law_pick hr tx.C__law_pick ?_
 refine z9 ?_ ?_
 exact za 0 (pv 0)
 refine z9 ?_ ?_
 exact zQ (za 1 (pv 1)) zc
 exact z9 (Jb (by rfl) tx.z_len (zm 5 (pv 5))) zg
 refine zn ?_
 refine zq ?_
 refine cZ hy O__law_put hr tx.C__law_put ?_
 refine z9 ?_ ?_
 exact za 2 (pv 2)
 refine z9 ?_ ?_
 exact za 4 (pv 4)
 refine z9 ?_ ?_
 refine Ze ?_ ?_
 refine Jl ?_
 refine z9 ?_ ?_
 refine zQ ?_ ?_
 exact jo (za 5 (pv 5)) wl (Jp (za 8 (pv 8)))
 exact jo (za 5 (pv 5)) (Jp (zQ (za 8 (pv 8)) zc)) wl
 refine z9 ?_ ?_
 refine zQ ?_ ?_
 refine zQ ?_ ?_
 exact jo (za 5 (pv 5)) wl (Jp (za 8 (pv 8)))
 refine jo ?_ ?_ ?_
 exact za 5 (pv 5)
 exact Jp (za 8 (pv 8))
 exact Jp (zQ (za 8 (pv 8)) zc)
 exact jo (za 5 (pv 5)) (Jp (za 8 (pv 8))) wl
 exact zg
 exact Up (za 7 (pv 7)) zc
 exact zg
 exact zT
 refine zj ?_ ?_
 refine zU ?_ ?_ ?_
 exact JX (Snd.b (wb (n:="int") (UX _) (by rfl) tx.z_isinstance (by rfl) tx.z_int PyProof.Rows.Boot.«int» (zm 5 (pv 5))))
 refine zn ?_
 refine zq ?_
 refine cZ hy O__law_put hr tx.C__law_put ?_
 refine z9 ?_ ?_
 exact za 2 (pv 2)
 refine z9 ?_ ?_
 exact za 4 (pv 4)
 refine z9 ?_ ?_
 refine WG ?_ ?_
 exact zQ (za 5 (pv 5)) zc
 exact JJ zc (Up (za 7 (pv 7)) zc)
 exact zg
 exact zT
 refine zn ?_
 refine zq ?_
 refine cZ hy O__law_put hr tx.C__law_put ?_
 refine z9 ?_ ?_
 exact za 2 (pv 2)
 refine z9 ?_ ?_
 exact za 4 (pv 4)
 refine z9 ?_ ?_
 refine zW ?_
 refine z9 ?_ ?_
 exact zp
 refine z9 ?_ ?_
 exact zW (z9 (za 5 (pv 5)) (z9 (za 5 (pv 5)) zg))
 exact zg
 exact zg
end
end G
namespace G
open PySem PySem.Spec PyProof.Rows L2 PV
section
variable {P:Program} {w:World} {K:PySem.W.Frag} {mg:Str->Option Value} {base:Heap} {cl:Nat->Value} {tx:Tx K mg}
theorem Uy {j:Nat} (hj:0<=j) {c__law_leaves:List T->R T} (O__law_leaves:jj P w base cl tx j c__law_leaves):jj P w base cl tx (j+1) (fun ts=>zu (jZ c__law_leaves (en0 3 ts))):=by
 refine ZO tx.C__law_leaves.F jB rfl (fun cdv A outer s H E Y hy hr=> ?_) (fun ts h=>rfl)
 refine zj ?_ ?_
 refine zU ?_ ?_ ?_
 exact Wb (JX (Snd.b (wb (n:="tuple") (jE _) (by rfl) tx.z_isinstance (by rfl) tx.z_tuple PyProof.Rows.Boot.«tuple» (zm 0 (pv 0)))))
 exact zn (zq (Jl (z9 (za 0 (pv 0)) zg)))
 exact zT
 refine zj ?_ ?_
 exact Zi (i:=1) jB.nd (by rfl) (.inl (by rfl)) (Jl zg)
 refine zj ?_ ?_
 refine Wr PassesOwn.never (by rfl) ?_ ?_ ?_
 exact jX (za 0 (pv 0))
 exact Jq (i:=2) jB.nd (by rfl) (.inl (by rfl))
 refine zn ?_
 exact Zi (i:=1) jB.nd (by rfl) (.inl (by rfl)) (zQ (za 1 (pv 1)) (cZ hy O__law_leaves hr tx.C__law_leaves (z9 (za 2 (pv 2)) zg)))
 exact zn (zq (za 1 (pv 1)))
end
end G
namespace G
open PySem PySem.Spec PyProof.Rows L2 PV
section
variable {P:Program} {w:World} {K:PySem.W.Frag} {mg:Str->Option Value} {base:Heap} {cl:Nat->Value} {tx:Tx K mg}
theorem yD {j:Nat} (hj:8<=j) {c__law_leaves c__law_keeps:List T->R T} (O__law_leaves:jj P w base cl tx 8 c__law_leaves) (O__law_keeps:jK P w base cl tx j c__law_keeps):jK P w base cl tx (j+1) (fun ts=>zu (Jz c__law_leaves c__law_keeps (en0 7 ts))):=by
 refine ZO tx.C__law_keeps.F Zz rfl (fun cdv A outer s H E Y hy hr=> ?_) (fun ts h=>rfl)
 refine zj ?_ ?_
 refine Vd (i:=2) (ZR ["_law_one"] jJ (zf ja) (by rfl) (by rfl) (by decide+kernel) (by rfl) ?_ (fun _ _ _ _ _ _=>Z1 (show List.Nodup (["_law_one"]:List Str) by decide+kernel) (by rfl) (.inl (by rfl)) (.inr (by rfl))) (Zf 0) (Zg 0) (fun Y' hy' _ _ _ _ _ _=> ?_) (fun Y' hy' _ _ _ _ _ _=> ?_)) Zz.nd (by rfl) (.inl (by rfl)) (by rfl)
 exact jX (cZ hy O__law_leaves hr tx.C__law_leaves (z9 (za 1 (pv 1)) zg))
 exact uL (JX (Snd.b (wb (n:="int") (UX _) (by rfl) tx.z_isinstance (by rfl) tx.z_int PyProof.Rows.Boot.«int» (zm 0 (pv 0)))))
 exact za 0 (pv 0)
 refine zj ?_ ?_
 refine Zi (i:=3) Zz.nd (by rfl) (.inr (by rfl)) ?_
 refine gh ?_ ?_ ?_
 exact JX (Snd.b (wb (n:="tuple") (jE _) (by rfl) tx.z_isinstance (by rfl) tx.z_tuple PyProof.Rows.Boot.«tuple» (zm 1 (pv 1))))
 exact za 1 (pv 1)
 exact zW (z9 (za 1 (pv 1)) zg)
 refine zj ?_ ?_
 refine zU ?_ ?_ ?_
 exact zK zX (zv hr.units) (Snd.b (Ze (za 0 (pv 0)) zc)) (Snd.b zp) (zl _)
 refine zj ?_ ?_
 exact Zi (i:=4) Zz.nd (by rfl) (.inl (by rfl)) zc
 refine zj ?_ ?_
 refine Wr PassesOwn.never (by rfl) ?_ ?_ ?_
 exact jX (za 2 (pv 2))
 exact Jq (i:=5) Zz.nd (by rfl) (.inl (by rfl))
 exact zn (Zi (i:=4) Zz.nd (by rfl) (.inl (by rfl)) (zQ (za 4 (pv 4)) (za 5 (pv 5))))
 refine zn ?_
 refine zq ?_
 refine wv ?_ ?_
 exact jV jC Zq (Snd.b (Ze (za 0 (pv 0)) zc)) (zm 4 (pv 4)) (zl _)
 exact W1 (jV jC Zq (zm 4 (pv 4)) (Snd.b (Ze (za 0 (pv 0)) zc)) (zl _))
 exact zT
 refine zj ?_ ?_
 refine zU ?_ ?_ ?_
 exact zK zX (zv hr.units) (Snd.b (Ze (za 0 (pv 0)) zc)) (Snd.b zp) (zl _)
 refine zn ?_
 refine zq ?_
 refine wv ?_ ?_
 refine jV z0R G2 ?_ ?_ (zl _)
 exact Snd.b (Jb (by rfl) tx.z_len (zm 3 (pv 3)))
 exact Snd.b (Ze (za 0 (pv 0)) zc)
 refine W1 ?_
 refine jV jC Zq ?_ ?_ (zl _)
 exact Snd.b (Jb (by rfl) tx.z_len (zm 3 (pv 3)))
 exact Snd.b (Ze (za 0 (pv 0)) zc)
 exact zT
 refine zj ?_ ?_
 refine zU ?_ ?_ ?_
 exact zK zX (zv hr.units) (Snd.b (Ze (za 0 (pv 0)) zc)) (Snd.b zp) (zl _)
 refine zn ?_
 refine zq ?_
 refine jV YV (uG hr.units) ?_ ?_ (zl _)
 refine Snd.b ?_
 refine jl (ZR ["_law_one","_law_rule_here"] jJ (zf ja) (by rfl) (by rfl) (by decide+kernel) (by rfl) ?_ (fun _ _ _ _ _ _=>Z1 (show List.Nodup (["_law_one","_law_rule_here"]:List Str) by decide+kernel) (by rfl) (.inl (by rfl)) (.inr (by rfl))) (Zf 0) (Zg 0) (fun Y' hy' _ _ _ _ _ _=> ?_) (fun Y' hy' _ _ _ _ _ _=> ?_))
 exact jX (cZ hy O__law_leaves hr tx.C__law_leaves (z9 (za 1 (pv 1)) zg))
 exact uL (zK zX (zv hr.units) (zm 0 (pv 0)) (Snd.b (Ze (za 1 (pv 1)) zc)) (zl _))
 exact za 0 (pv 0)
 exact Snd.b (Jl zg)
 exact zT
 refine zj ?_ ?_
 refine zU ?_ ?_ ?_
 exact zK zX (zv hr.units) (Snd.b (Ze (za 0 (pv 0)) zc)) (Snd.b zp) (zl _)
 exact zn (zq (jV zX (zv hr.units) (zm 2 (pv 2)) (Snd.b (Gs (by rfl) tx.z_sorted (zm 2 (pv 2)))) (zl _)))
 exact zT
 refine zj ?_ ?_
 refine zU ?_ ?_ ?_
 exact zK zX (zv hr.units) (Snd.b (Ze (za 0 (pv 0)) zc)) (Snd.b zp) (zl _)
 refine zn ?_
 refine zq ?_
 refine jV zX (zv hr.units) ?_ ?_ (zl _)
 refine Snd.b ?_
 refine jl (ZR ["_law_k","_law_parts"] jJ (zf ja) (by rfl) (by rfl) (by decide+kernel) (by rfl) ?_ (fun _ _ _ _ _ _=>Z1 (show List.Nodup (["_law_k","_law_parts"]:List Str) by decide+kernel) (by rfl) (.inl (by rfl)) (.inr (by rfl))) (Zf 0) (Zg 0) (fun Y' hy' _ _ _ _ _ _=> ?_) (fun Y' hy' _ _ _ _ _ _=> ?_))
 exact uJ (by rfl) tx.z_range (Jb (by rfl) tx.z_len (zm 3 (pv 3)))
 refine uL ?_
 refine zK yW (UD hr.units) ?_ ?_ (by rfl)
 exact Snd.b (Ze (za 1 (pv 1)) (za 0 (pv 0)))
 exact Snd.b (jo (za 1 (pv 1)) wl (Jp (za 0 (pv 0))))
 exact za 0 (pv 0)
 exact Snd.b (Jl zg)
 exact zT
 refine zj ?_ ?_
 refine zU ?_ ?_ ?_
 exact zK zX (zv hr.units) (Snd.b (Ze (za 0 (pv 0)) zc)) (Snd.b zp) (zl _)
 refine zn ?_
 refine zq ?_
 refine vZ ?_
 refine cZ hy O__law_keeps hr tx.C__law_keeps ?_
 exact z9 (Ze (za 0 (pv 0)) zc) (z9 (za 1 (pv 1)) zg)
 exact zT
 refine zj ?_ ?_
 refine Vd (i:=6) (ZR ["_law_one","_law_worth"] jJ (zf ja) (by rfl) (by rfl) (by decide+kernel) (by rfl) ?_ (fun _ _ _ _ _ _=>Z1 (show List.Nodup (["_law_one","_law_worth"]:List Str) by decide+kernel) (by rfl) (.inl (by rfl)) (.inr (by rfl))) (Zf 0) (Zg 0) (fun Y' hy' _ _ _ _ _ _=> ?_) (fun Y' hy' _ _ _ _ _ _=> ?_)) Zz.nd (by rfl) (.inl (by rfl)) (by rfl)
 exact jX (jo (za 0 (pv 0)) (Jp zc) wl)
 exact Jr
 exact cZ (hy'.trans hy) O__law_keeps hr tx.C__law_keeps (z9 (za 0 (pv 0)) (z9 (za 1 (pv 1)) zg))
 refine zn ?_
 refine zq ?_
 refine gh ?_ ?_ ?_
 exact zK zX (zv hr.units) (Snd.b (Ze (za 0 (pv 0)) zc)) (Snd.b zp) (zl _)
 refine wv ?_ ?_
 exact Ze (za 6 (pv 6)) zc
 exact W1 (Ze (za 6 (pv 6)) zc)
 refine s_or ?_ ?_
 exact Ze (za 6 (pv 6)) zc
 exact W1 (Ze (za 6 (pv 6)) zc)
end
end G
namespace G
open PySem PySem.Spec PyProof.Rows L2 PV
section
variable {P:Program} {w:World} {K:PySem.W.Frag} {mg:Str->Option Value} {base:Heap} {cl:Nat->Value} {tx:Tx K mg}
theorem z04 {c__law_all c__law_small c__law_spoilt_thing c__law_tried c_is_rule c__law_rule c__law_keeps c__law_is_rule:List T->R T} (O__law_all:Ja P w base cl tx 9 c__law_all) (O__law_small:wK P w base cl tx 18 c__law_small) (O__law_spoilt_thing:j6 P w base cl tx 41 c__law_spoilt_thing) (O__law_tried:wQ P w base cl tx 20 c__law_tried) (O_is_rule:WB P w base cl tx 11 c_is_rule) (O__law_rule:Ji P w base cl tx 10 c__law_rule) (O__law_keeps:jK P w base cl tx 16 c__law_keeps) (O__law_is_rule:ZT P w base cl tx 13 c__law_is_rule):gc P w base cl tx 42 (fun ts=>zu (X7 c__law_all c__law_small c__law_spoilt_thing c__law_tried c_is_rule c__law_rule c__law_keeps c__law_is_rule (en0 12 ts))):=by
 refine ZO tx.C_law.F wt rfl (fun cdv A outer s H E Y hy hr=> ?_) (fun ts h=>rfl)
 refine zj ?_ ?_
 refine Zi (i:=1) wt.nd (by rfl) (.inl (by rfl)) ?_
 refine cZ hy O__law_rule hr tx.C__law_rule ?_
 exact z9 (za 0 (pv 0)) (z9 zc (z9 zc zg))
 refine zj ?_ ?_
 refine zU ?_ ?_ ?_
 refine ur.t ?_
 refine qT ?_ ?_
 refine zK XO vW ?_ ?_ (zl _)
 exact Snd.b (cZ hy O_is_rule hr tx.C_is_rule (z9 (za 1 (pv 1)) zg))
 exact Snd.b YT
 refine uH ?_
 refine zK XO vW ?_ ?_ (zl _)
 exact Snd.b (cZ hy O__law_is_rule hr tx.C__law_is_rule (z9 (za 1 (pv 1)) (z9 zc zg)))
 exact Snd.b YT
 exact zn (zq YT)
 exact zT
 refine zj ?_ ?_
 refine Zi (i:=2) wt.nd (by rfl) (.inl (by rfl)) ?_
 refine zW ?_
 refine z9 ?_ ?_
 exact zp
 refine z9 ?_ ?_
 exact zW (z9 zp (z9 (za 1 (pv 1)) zg))
 exact zg
 refine zj ?_ ?_
 refine zU ?_ ?_ ?_
 refine zK YV (uG hr.units) ?_ ?_ (zl _)
 exact Snd.b (cZ hy O_is_rule hr tx.C_is_rule (z9 (za 2 (pv 2)) zg))
 exact Snd.b (cZ hy O__law_is_rule hr tx.C__law_is_rule (z9 (za 2 (pv 2)) (z9 zc zg)))
 exact zn (zq YT)
 exact zT
 refine zj ?_ ?_
 refine Zi (i:=3) wt.nd (by rfl) (.inl (by rfl)) ?_
 refine cZ hy O__law_small hr tx.C__law_small ?_
 exact z9 (za 0 (pv 0)) (z9 zc (z9 zc zg))
 refine zj ?_ ?_
 exact Zi (i:=4) wt.nd (by rfl) (.inl (by rfl)) (cZ hy O__law_all hr tx.C__law_all (z9 (za 3 (pv 3)) zg))
 refine zj ?_ ?_
 refine Wr PassesOwn.never (by rfl) ?_ ?_ ?_
 exact jX (za 4 (pv 4))
 exact Jq (i:=5) wt.nd (by rfl) (.inl (by rfl))
 refine zj ?_ ?_
 exact Zi (i:=6) wt.nd (by rfl) (.inl (by rfl)) (cZ hy O__law_tried hr tx.C__law_tried (z9 (za 1 (pv 1)) (z9 (za 5 (pv 5)) zg)))
 refine zn ?_
 refine zU ?_ ?_ ?_
 refine ur.t ?_
 refine qT ?_ ?_
 refine zK YV (uG hr.units) ?_ ?_ (zl _)
 exact zm 6 (pv 6)
 exact Snd.b (cZ hy O__law_keeps hr tx.C__law_keeps (z9 (za 1 (pv 1)) (z9 (za 5 (pv 5)) zg)))
 exact uH (Wb (JX (Snd.b (wb (n:="bool") (ut _) (by rfl) tx.z_isinstance (by rfl) tx.z_bool PyProof.Rows.Boot.«bool» (zm 6 (pv 6))))))
 exact zn (zq YT)
 exact zT
 refine zj ?_ ?_
 refine Wr PassesOwn.never (by rfl) ?_ ?_ ?_
 exact uJ (by rfl) tx.z_range zc
 exact Jq (i:=7) wt.nd (by rfl) (.inl (by rfl))
 refine zj ?_ ?_
 refine Zi (i:=8) wt.nd (by rfl) (.inl (by rfl)) ?_
 refine cZ hy O__law_spoilt_thing hr tx.C__law_spoilt_thing ?_
 refine z9 ?_ ?_
 exact za 0 (pv 0)
 refine z9 ?_ ?_
 exact zQ zc (JJ zc (za 7 (pv 7)))
 exact z9 (za 1 (pv 1)) zg
 refine zj ?_ ?_
 refine zU ?_ ?_ ?_
 refine ur.t ?_
 refine qT ?_ ?_
 refine zK YV (uG hr.units) ?_ ?_ (zl _)
 exact Snd.b (cZ hy O_is_rule hr tx.C_is_rule (z9 (za 8 (pv 8)) zg))
 exact Snd.b (cZ hy O__law_is_rule hr tx.C__law_is_rule (z9 (za 8 (pv 8)) (z9 zc zg)))
 refine uH ?_
 refine Wb ?_
 refine JX ?_
 exact Snd.b (wb (n:="bool") (ut _) (by rfl) tx.z_isinstance (by rfl) tx.z_bool PyProof.Rows.Boot.«bool» (Snd.b (cZ hy O_is_rule hr tx.C_is_rule (z9 (za 8 (pv 8)) zg))))
 exact zn (zq YT)
 exact zT
 refine zn ?_
 refine zU ?_ ?_ ?_
 refine ur.t ?_
 refine kS ?_ ?_
 refine Wb ?_
 refine JX ?_
 exact Snd.b (cZ hy O__law_is_rule hr tx.C__law_is_rule (z9 (za 8 (pv 8)) (z9 zc zg)))
 refine V0 ?_
 refine zK YV (uG hr.units) ?_ ?_ (zl _)
 refine Snd.b ?_
 refine cZ hy O__law_tried hr tx.C__law_tried ?_
 exact z9 (za 8 (pv 8)) (z9 (Ze (za 4 (pv 4)) zc) zg)
 exact Snd.b zp
 exact zn (zq YT)
 exact zT
 refine zj ?_ ?_
 refine uI (i:=9) wt.nd (by rfl) (.inl (by rfl)) ?_
 refine z9 ?_ ?_
 refine zW ?_
 refine z9 ?_ ?_
 exact zp
 exact z9 (YU zc) (z9 zc zg)
 refine z9 ?_ ?_
 refine zW ?_
 refine z9 ?_ ?_
 exact zp
 exact z9 (YU zc) (z9 zc zg)
 refine z9 ?_ ?_
 refine zW ?_
 exact z9 zp (z9 zc (z9 zc zg))
 refine z9 ?_ ?_
 exact zW (z9 zp (z9 zp zg))
 refine z9 ?_ ?_
 exact zW (z9 zp (z9 zp zg))
 refine z9 ?_ ?_
 exact zW (z9 zp (z9 zc zg))
 exact zg
 refine zj ?_ ?_
 refine Wr PassesOwn.never (by rfl) ?_ ?_ ?_
 exact jX (zW (z9 zp (z9 zp zg)))
 exact Jq (i:=10) wt.nd (by rfl) (.inl (by rfl))
 refine zj ?_ ?_
 refine Zi (i:=11) wt.nd (by rfl) (.inl (by rfl)) ?_
 refine zW ?_
 refine z9 ?_ ?_
 exact za 10 (pv 10)
 refine z9 ?_ ?_
 exact zW (z9 zp zg)
 refine z9 ?_ ?_
 refine zW ?_
 refine z9 ?_ ?_
 exact za 10 (pv 10)
 refine z9 ?_ ?_
 exact zW (z9 zp zg)
 refine z9 ?_ ?_
 refine zW ?_
 exact z9 zp (z9 zc (z9 zc zg))
 exact zg
 exact zg
 refine zn ?_
 refine QI (i:=9) (pv 9) ?_
 refine Jl ?_
 refine z9 ?_ ?_
 exact za 11 (pv 11)
 refine z9 ?_ ?_
 refine zW ?_
 refine z9 ?_ ?_
 exact za 10 (pv 10)
 refine z9 ?_ ?_
 exact za 11 (pv 11)
 exact z9 (zW (z9 zp zg)) zg
 refine z9 ?_ ?_
 refine zW ?_
 refine z9 ?_ ?_
 exact za 10 (pv 10)
 refine z9 ?_ ?_
 exact zW (z9 zp zg)
 exact z9 (za 11 (pv 11)) zg
 refine z9 ?_ ?_
 exact zW (z9 zp (z9 (za 11 (pv 11)) zg))
 refine z9 ?_ ?_
 exact zW (z9 (za 10 (pv 10)) (z9 (za 11 (pv 11)) zg))
 exact zg
 refine zn ?_
 refine zq ?_
 refine jV zX (zv hr.units) ?_ ?_ (zl _)
 refine Snd.b ?_
 refine jl (ZR ["_law_bound"] g9 (zf XD) (by rfl) (by rfl) (by decide+kernel) (by rfl) ?_ (fun _ _ _ _ _ _=>Z1 (show List.Nodup (["_law_bound"]:List Str) by decide+kernel) (by rfl) (.inl (by rfl)) (.inr (by rfl))) (Zf 0) (Zg 0) (fun Y' hy' _ _ _ _ _ _=> ?_) (fun Y' hy' _ _ _ _ _ _=> ?_))
 exact jX (za 9 (pv 9))
 exact Jr
 exact cZ (hy'.trans hy) O_is_rule hr tx.C_is_rule (z9 (za 0 (pv 0)) zg)
 refine Snd.b ?_
 refine jl (ZR ["_law_bound"] g9 (zf XD) (by rfl) (by rfl) (by decide+kernel) (by rfl) ?_ (fun _ _ _ _ _ _=>Z1 (show List.Nodup (["_law_bound"]:List Str) by decide+kernel) (by rfl) (.inl (by rfl)) (.inr (by rfl))) (Zf 0) (Zg 0) (fun Y' hy' _ _ _ _ _ _=> ?_) (fun Y' hy' _ _ _ _ _ _=> ?_))
 exact jX (za 9 (pv 9))
 exact Jr
 exact cZ (hy'.trans hy) O__law_is_rule hr tx.C__law_is_rule (z9 (za 0 (pv 0)) (z9 zc zg))
end
end G
namespace G
open PySem PySem.Spec PyProof.Rows L2 PV
theorem wu {P:Program} {w:World} {K:PySem.W.Frag} {mg:Str->Option Value} {base:Heap} {CX:CXT} {cl:Nat->Value} {k n:Nat} {f:Addr} {fd:FuncData} {ps:List Str} (hn:n=ps.length):jm P w K mg base CX k f fd ps (spP cl n (fun _=> .bad)):=
 ⟨fun vs H Q E h=>by rw [← hn]; exact spP.len vs H Q E h,fun A outer s H args us vs Q E _ _ _ _ ⟨B,ts,_,_,_,q⟩=>q.elim⟩
section
variable {P:Program} {w:World} {K:PySem.W.Frag} {mg:Str->Option Value} {base:Heap} {cl:Nat->Value} {tx:Tx K mg}
theorem z05 (xq:Tq K mg base cl):gc P w base cl tx 42 y6:=by
 have O__law_cell:Wj P w base cl tx 1 Je:=YA
 have O__law_pick:j5 P w base cl tx 2 zk:=YB O__law_cell
 have R__law_rule:∀ n:Nat,Ji P w base cl tx (2+n) (ZK n 0):=by
  intro n
  induction n with
  | zero=>exact wu rfl
  | succ n ih=>
   exact YC (j:=2+n) (by omega) O__law_pick ih
 have O__law_rule:Ji P w base cl tx 10 (wd 8):=(R__law_rule 8)
 have O__law_word_of:JS P w base cl tx 3 ZE:=Uh O__law_pick
 have O__law_leaf_kind:jP P w base cl tx 4 ZA:=WY O__law_pick O__law_word_of
 have R__law_kind:∀ n:Nat,Jj P w base cl tx (4+n) (Zv n 0):=by
  intro n
  induction n with
  | zero=>exact wu rfl
  | succ n ih=>
   exact YD (j:=4+n) (by omega) O__law_pick O__law_leaf_kind ih
 have O__law_kind:Jj P w base cl tx 12 (Zw 8):=(R__law_kind 8)
 have O__law_rows_of:JT P w base cl tx 1 zh:=Ui
 have R__law_all:∀ n:Nat,Ja P w base cl tx (1+n) (J7 n 0):=by
  intro n
  induction n with
  | zero=>exact wu rfl
  | succ n ih=>
   exact qE (j:=1+n) (by omega) ih O__law_rows_of
 have O__law_all:Ja P w base cl tx 9 (zL 8):=(R__law_all 8)
 have R__law_size:∀ n:Nat,Jk P w base cl tx (9+n) (ZX n 0):=by
  intro n
  induction n with
  | zero=>exact wu rfl
  | succ n ih=>
   exact YE (j:=9+n) (by omega) O__law_all ih
 have O__law_size:Jk P w base cl tx 17 (ZY 8):=(R__law_size 8)
 have O__law_small:wK P w base cl tx 18 j8:=yx O__law_kind O__law_size
 have O_is_whole:W0 P w base cl tx 1 jp:=qF
 have O_is_bound:WW P w base cl tx 2 J8:=qG O_is_whole
 have O_is_word:Uf P w base cl tx 1 Jf:=vb
 have R_is_rule_within:∀ n:Nat,ZC P w base cl tx (2+n) (zy n 0):=by
  intro n
  induction n with
  | zero=>exact wu rfl
  | succ n ih=>
   exact WZ (j:=2+n) (by omega) O_is_word ih O_is_bound
 have O_is_rule_within:ZC P w base cl tx 10 (jN 8):=(R_is_rule_within 8)
 have O_is_rule:WB P w base cl tx 11 Za:=vc O_is_rule_within
 have O__law_is_word:JU P w base cl tx 1 Zj:=Uj
 have O__law_whole:wL P w base cl tx 1 Zr:=yy
 have R__law_is_rule:∀ n:Nat,ZT P w base cl tx (1+n) (zA n 0):=by
  intro n
  induction n with
  | zero=>exact wu rfl
  | succ n ih=>
   exact Uk (j:=1+n) (by omega) O__law_whole O__law_is_word ih
 have O__law_is_rule:ZT P w base cl tx 13 (zF 12):=(R__law_is_rule 12)
 have O__law_word:Wk P w base cl tx 1 jq:=YF xq
 have O_need_rule:Wl P w base cl tx 12 jr:=YG xq O_is_rule
 have O_are_unlike:wM P w base cl tx 1 Ju:=yz
 have O_are_rising:wN P w base cl tx 1 Jw:=yA
 have O_parts_of:WX P w base cl tx 1 wT:=qH
 have R_leaves_of:∀ n:Nat,ju P w base cl tx (0+n) (ZZ n 0):=by
  intro n
  induction n with
  | zero=>exact wu rfl
  | succ n ih=>
   exact YH (j:=0+n) (by omega) ih
 have O_leaves_of:ju P w base cl tx 8 (j0 8):=(R_leaves_of 8)
 have O_numbers_in:wO P w base cl tx 9 Jy:=yB O_is_whole O_leaves_of
 have O_is_single_kept:jQ P w base cl tx 10 ZB:=u3 O_parts_of O_leaves_of O_numbers_in O_are_rising O_are_unlike
 have R_is_kept:∀ n:Nat,wP P w base cl tx (10+n) (ZS n 0):=by
  intro n
  induction n with
  | zero=>exact wu rfl
  | succ n ih=>
   exact vd (j:=10+n) (by omega) ih O_is_single_kept
 have O_is_kept:wP P w base cl tx 18 (Wv 8):=(R_is_kept 8)
 have O_keeps:qD P w base cl tx 19 JL:=XE O_need_rule O_is_kept
 have O__law_tried:wQ P w base cl tx 20 Z2:=yC xq O__law_word O_keeps
 have R__law_places:∀ n:Nat,ji P w base cl tx (0+n) (jY n 0):=by
  intro n
  induction n with
  | zero=>exact wu rfl
  | succ n ih=>
   exact Ux (j:=0+n) (by omega) ih
 have O__law_places:ji P w base cl tx 40 (jd 40):=(R__law_places 40)
 have O__law_at:Ug P w base cl tx 1 JZ:=ve
 have R__law_put:∀ n:Nat,wa P w base cl tx (0+n) (w4 n 0):=by
  intro n
  induction n with
  | zero=>exact wu rfl
  | succ n ih=>
   exact qI (j:=0+n) (by omega) ih
 have O__law_put:wa P w base cl tx 40 (zw 40):=(R__law_put 40)
 have O__law_spoilt_thing:j6 P w base cl tx 41 zP:=W2 O__law_pick O__law_places O__law_at O__law_put
 have R__law_leaves:∀ n:Nat,jj P w base cl tx (0+n) (Zy n 0):=by
  intro n
  induction n with
  | zero=>exact wu rfl
  | succ n ih=>
   exact Uy (j:=0+n) (by omega) ih
 have O__law_leaves:jj P w base cl tx 8 (je 8):=(R__law_leaves 8)
 have R__law_keeps:∀ n:Nat,jK P w base cl tx (8+n) (zr n 0):=by
  intro n
  induction n with
  | zero=>exact wu rfl
  | succ n ih=>
   exact yD (j:=8+n) (by omega) O__law_leaves ih
 have O__law_keeps:jK P w base cl tx 16 (jG 8):=(R__law_keeps 8)
 have O_law:gc P w base cl tx 42 y6:=z04 O__law_all O__law_small O__law_spoilt_thing O__law_tried O_is_rule O__law_rule O__law_keeps O__law_is_rule
 exact O_law
end
noncomputable def km:List Str:=["NoKind","NoWorth","NoRule","TooMany","Ended","NoText","NoBack"]
noncomputable def clK (K:PySem.W.Frag) (c:Nat):Value:=match PySem.W.nsIn K mainGlobals (km.getD c "") with
 | some (some v)=>v
 | _=> .none
theorem z06 {K:PySem.W.Frag} {c:Nat} {x:Str} {q:Addr} (hx:km.getD c ""=x) (h:PySem.W.nsIn K mainGlobals x=some (some (.ref q))):clK K c= .ref q:=by unfold clK; rw [hx,h]
noncomputable def z1n:List Nat:=[0,1,2,3,4,5]
noncomputable def xB (p:Nat->Bool):Bool:=z1n.all p
theorem z07 {c:Nat} (h:okX c=true):c∈z1n:=by
 have h:c < 6:=of_decide_eq_true h
 unfold z1n; simp; omega
theorem wk {p:Nat->Bool} (h:xB p=true) {c:Nat} (hc:okX c=true):p c=true:=List.all_eq_true.mp h c (z07 hc)
noncomputable def gd (K:PySem.W.Frag) (v:Value):Bool:=match v with
 | .ref C=>PySem.W.findIn K (.ref C) "__getattribute__" == some (some (.builtin "BaseException.__getattribute__")) && (PySem.W.findIn K (.ref C) "__getattr__" == some none && (PySem.W.findIn K (.ref C) "__class__" == some (some (.builtin "object.__class__")) && (PySem.W.specialIn K (.builtin "object.__class__") "__get__" == some (some (.builtin "getset_descriptor.__get__")) && (PySem.W.takesIn K (.builtin "object.__class__") == some true && (PySem.W.mroIn K C (.type "object") == some true && (PySem.W.mroIn K C (.type "BaseException") == some true && (PySem.W.clsIn K C).isSome))))))
 | _=>false
theorem XF {K:PySem.W.Frag} {v:Value} (h:gd K v=true):∃ C,v= .ref C/\PySem.W.XCls K C:=by
 unfold gd at h
 split at h
 ·rename_i C
  simp only [Bool.and_eq_true,beq_iff_eq] at h
  obtain ⟨h1,h2,h3,h4,h5,h6,h7,h8⟩:=h
  exact ⟨C,rfl,h1,h2,h3,h4,h5,h6,h7,h8⟩
 ·cases h
theorem z08 {K:PySem.W.Frag} {base:Heap} {mg:Str->Option Value} {x:Str} {C:Addr} {bmB:List Value} {newId:String} (KB:K.In base) (hb:mg x=some (.ref C)) (h:PySem.W.excIn K C bmB newId=true):OwnCls x C bmB newId mg base:=by
 unfold PySem.W.excIn at h
 split at h
 ·rename_i dd cd sl hC
  split at h
  ·rename_i C1 bm a0 a1 a2 a3 m a5 hm hs
   simp only [Bool.and_eq_true,beq_iff_eq,Bool.not_eq_true'] at h
   obtain ⟨⟨⟨⟨⟨h1,h2⟩,h3⟩,h4⟩,h5⟩,h6⟩:=h
   subst h1 h2
   cases cd with
   | mk nm bs mro ns qn hd sn sub ab col del=>
    dsimp only at hm h3 h5 h6
    subst hm h3
    obtain rfl:sl= #[a0,a1,a2,a3,some (.builtin m),a5]:=by
     cases sl; simp only at hs; rw [hs]
    exact ⟨hb,bm,ns,nm,qn,bs,hd,sn,sub,ab,col,dd,a0,a1,a2,a3,a5,_,KB _ _ hC, .of_isNs (PySem.W.isNs_of_in KB h5),PySem.W.nsMap_none_of_in KB h5 h6,PySem.W.tail_of_in KB h4⟩
  ·cases h
 ·cases h
theorem fn1 {K:PySem.W.Frag} {h:Heap} {mg:Str->Option Value} {f:Addr} {od an:Option Addr} {sl:Array (Option Value)} {oc kV dc pm cd ct:Value} {x:Str} {st:Stmt} {ps:List Str} (X:K.In h) (G:h.Ns mainGlobals mg) (e:PySem.W.nsIn K mainGlobals x=some (some (.ref f))) (l:K.lookup f=some ⟨oc,od, .func (PySem.W.fnOf x x (wy st) (jn st) (zf st) .none kV dc pm an cd ct),sl⟩) (g:PySem.W.codeIn K cd x=true) (k:PySem.W.keepIn K (.ref f)=true)
  (hb:∀ F:Fun K x x st f (PySem.W.fnOf x x (wy st) (jn st) (zf st) .none kV dc pm an cd ct),L2.Binds K (PySem.W.fnOf x x (wy st) (jn st) (zf st) .none kV dc pm an cd ct) ps []):Fn K mg x st ps f (PySem.W.fnOf x x (wy st) (jn st) (zf st) .none kV dc pm an cd ct):=
 have F:=gZ (st:=st) l g k
 ⟨F,hb F,PySem.W.mg_of X G e⟩
theorem fin_ {l:PySem.W.OpenLaw} {w:World} {K:PySem.W.Frag} {h:Heap} {mg:Str->Option Value} {fa:Addr} (X:K.In h) (G:h.Ns mainGlobals mg) (hfa:mg "law"=some (.ref fa)) (tx:Tx K mg) (hB:∀ (s:Shared) (v:Value),BindsTo s tx.d_law ⟨[v],[]⟩ [("_law_script",v)]) {q_Ended q_NoKind q_NoRule q_NoText q_NoWorth q_TooMany q_WorthError:Addr} (n_Ended:PySem.W.nsIn K mainGlobals "Ended"=some (some (.ref q_Ended))) (n_NoKind:PySem.W.nsIn K mainGlobals "NoKind"=some (some (.ref q_NoKind))) (n_NoRule:PySem.W.nsIn K mainGlobals "NoRule"=some (some (.ref q_NoRule))) (n_NoText:PySem.W.nsIn K mainGlobals "NoText"=some (some (.ref q_NoText))) (n_NoWorth:PySem.W.nsIn K mainGlobals "NoWorth"=some (some (.ref q_NoWorth))) (n_TooMany:PySem.W.nsIn K mainGlobals "TooMany"=some (some (.ref q_TooMany))) (n_WorthError:PySem.W.nsIn K mainGlobals "WorthError"=some (some (.ref q_WorthError))) (b_K:xB (fun c=>gd K (clK K c))=true) (b_e_WorthError:xB (fun c=>PySem.W.exmOne K (clK K c) (.ref q_WorthError) == some true)=true) (b_o_NoRule:PySem.W.excIn K q_NoRule bmVE "ValueError.__new__"=true) (b_t_Ended:xB (fun c=>PySem.W.kitOne K (clK K c) (.ref q_Ended) == some (uQ c))=true) (b_t_NoKind:xB (fun c=>PySem.W.kitOne K (clK K c) (.ref q_NoKind) == some (WJ c))=true) (b_t_NoRule:xB (fun c=>PySem.W.kitOne K (clK K c) (.ref q_NoRule) == some (WK c))=true) (b_t_NoText:xB (fun c=>PySem.W.kitOne K (clK K c) (.ref q_NoText) == some (WL c))=true) (b_t_NoWorth:xB (fun c=>PySem.W.kitOne K (clK K c) (.ref q_NoWorth) == some (Wc c))=true) (b_t_TooMany:xB (fun c=>PySem.W.kitOne K (clK K c) (.ref q_TooMany) == some (Wd c))=true) (b_t_ValueError:xB (fun c=>PySem.W.kitOne K (clK K c) (.type "ValueError") == some (JK c))=true):∃ fd:FuncData,(∀ (s:Shared) (v:Value),BindsTo s fd ⟨[v],[]⟩ [("_law_script",v)])/\∀ base:Heap,K.In base->base.Ns mainGlobals mg->jm l.prog w K mg base CX0 42 fa fd ["_law_script"] (spP (clK K) 1 y6):=by
 have e:=hfa.symm.trans tx.C_law.m
 cases e
 exact ⟨tx.d_law,hB,fun base KB _=>z05 ⟨q_Ended,q_NoKind,q_NoRule,q_NoText,q_NoWorth,q_TooMany,q_WorthError,⟨fun c hc=>XF (wk b_K hc)⟩,(fun c hc=>beq_iff_eq.mp (wk b_e_WorthError hc)),(z06 (x:="NoRule") rfl n_NoRule),(PySem.W.mg_of X G n_Ended),(PySem.W.mg_of X G n_NoKind),(PySem.W.mg_of X G n_NoRule),(PySem.W.mg_of X G n_NoText),(PySem.W.mg_of X G n_NoWorth),(PySem.W.mg_of X G n_TooMany),(PySem.W.mg_of X G n_WorthError),(z08 KB (PySem.W.mg_of X G n_NoRule) b_o_NoRule),(fun c hc=>beq_iff_eq.mp (wk b_t_Ended hc)),(fun c hc=>beq_iff_eq.mp (wk b_t_NoKind hc)),(fun c hc=>beq_iff_eq.mp (wk b_t_NoRule hc)),(fun c hc=>beq_iff_eq.mp (wk b_t_NoText hc)),(fun c hc=>beq_iff_eq.mp (wk b_t_NoWorth hc)),(fun c hc=>beq_iff_eq.mp (wk b_t_TooMany hc)),(fun c hc=>beq_iff_eq.mp (wk b_t_ValueError hc))⟩⟩
noncomputable def qJ (K:PySem.W.Frag):Bool:=K.all fun p=> !(p.2.cls == Value.type "list")
theorem gf {K:PySem.W.Frag} (h:qJ K=true) {a:Addr} {o:Obj} (e:K.lookup a=some o) (c:o.cls=Value.type "list"):False:=by
 have hm:(a,o)∈K:=by
  clear h
  induction K with
  | nil=>cases e
  | cons p r ih=>
   obtain ⟨b,u⟩:=p
   by_cases hb:a=b
   ·subst hb
    have e' :some u=some o:=by simpa [List.lookup_cons] using e
    cases e'; exact List.mem_cons_self
   ·have e' :r.lookup a=some o:=by rw [List.lookup_cons,(beq_eq_false_iff_ne.mpr hb)] at e; exact e
    exact List.mem_cons_of_mem _ (ih e')
 have:=List.all_eq_true.mp h _ hm
 rw [c] at this
 simp at this
theorem z09 {cl:Nat->Value} {K:PySem.W.Frag} {H:Hp} {a:Addr} {ns:List Int} (hL:y6 [.fz (ns.map T.int)]= .ok (.bl true)) (hK:qJ K=true) (hO:z0c H) (hS:SqL K H a (ns.map V.int)):spP cl 1 y6 [.ref a] H (fun v _=>v= .bl true) fun _ _ _=>False:=by
 have scrR:∀ ns:List Int,Z4 H (ns.map V.int) (ns.map T.int):=fun ns=>by
  induction ns with
  | nil=>exact .nil
  | cons n r ih=>exact .cons (.int n) ih
 rcases hS with (h | ⟨o,h⟩) | ⟨o,its,n,e,c,_⟩
 ·rcases hO a with z | ⟨ob,xs,z⟩ <;> (rw [h] at z; cases z)
 ·refine ⟨H,[.fz (ns.map T.int)],rfl,zS.refl H, .cons (.fz h (scrR ns)) .nil, ?_⟩
  rw [hL]
  intro v H' _ r
  cases r; rfl
 ·exact (gf hK e c).elim
theorem walk {l:PySem.W.OpenLaw} {q:Program} {loose:List Str} {XP:(Str->Option Value)->Heap->Prop} {YP:World->Heap->Prop} {d:DefRec} {K:Params->PySem.W.Frag} (hn:l.most=some 63) (hdf:d.params.defaults=[])
  (hL:∀ ns:List Int,ns.length<=63->y6 [.fz (ns.map T.int)]= .ok (.bl true)) (hK:∀ p,qJ (K p)=true)
  (hY:∀ (w:World) (h:Heap),YP w h->(K w.params).In h)
  (F:∀ (w:World) (mg:Str->Option Value) (fa:Addr) (h:Heap),(K w.params).In h->h.Ns mainGlobals mg->mg d.name=some (.ref fa)->
   ∃ fd:FuncData,(∀ (s:Shared) (u:Value),BindsTo s fd ⟨[u],[]⟩ [("_law_script",u)])/\∀ base:Heap,(K w.params).In base->base.Ns mainGlobals mg->jm l.prog w (K w.params) mg base CX0 42 fa fd ["_law_script"] (spP (clK (K w.params)) 1 y6)):
  PySem.W.WalkO q loose XP YP l.row.toRowW d [] (fun f vs=>PySem.call f vs):=
 L2.walk_of (n:=63) (k:=42) (x:="_law_script") (CX:=fun w=>CX0) (sp:=fun w=>spP (clK (K w.params)) 1 y6) hn (by decide) hdf ⟨rfl,by decide,by decide⟩ hY F (fun w H a ns hl hO hS=>z09 (hL ns hl) (hK w.params) hO hS) fun _ _ _ _ _ z=>z
end G
noncomputable def PySem.W.Fast.tw5661354968368247994 : Nat := 0
noncomputable def PySem.W.Fast.tw977882161505810754 : Nat := 0
noncomputable def PySem.W.Fast.tw11256752278608520167 : Nat := 0
noncomputable def PySem.W.Fast.tw13359420543067467747 : Nat := 0
noncomputable def PySem.W.Fast.tw12951857938382136292 : Nat := 0
noncomputable def PySem.W.Fast.tw5270119464457744808 : Nat := 0
noncomputable def PySem.W.Fast.tw4707504803479610329 : Nat := 0
noncomputable def PySem.W.Fast.tw5004965212332974781 : Nat := 0
noncomputable def PySem.W.Fast.tw453050395461145265 : Nat := 0
noncomputable def PySem.W.Fast.tw13790951973293358525 : Nat := 0
noncomputable def PySem.W.Fast.tw16746210540346755925 : Nat := 0
noncomputable def PySem.W.Fast.tw13097458697151660150 : Nat := 0
noncomputable def PySem.W.Fast.tw15234239237501688070 : Nat := 0
noncomputable def PySem.W.Fast.tw10655693228053795516 : Nat := 0
noncomputable def PySem.W.Fast.tw7921524404758000635 : Nat := 0
noncomputable def PySem.W.Fast.tw1922368001375791594 : Nat := 0
noncomputable def PySem.W.Fast.tw14259402317331945267 : Nat := 0
noncomputable def PySem.W.Fast.tw8735998869128852862 : Nat := 0
noncomputable def PySem.W.Fast.tw18204511562878741833 : Nat := 0
noncomputable def PySem.W.Fast.tw16889638097214989193 : Nat := 0
noncomputable def PySem.W.Fast.tw9041796590279095294 : Nat := 0
noncomputable def PySem.W.Fast.tw884341249084007238 : Nat := 0
noncomputable def PySem.W.Fast.tw14617665739767569090 : Nat := 0
noncomputable def PySem.W.Fast.tw4303110007020743925 : Nat := 0
noncomputable def PySem.W.Fast.tw7379977694359803755 : Nat := 0
noncomputable def PySem.W.Fast.tw13119907259639516874 : Nat := 0
noncomputable def PySem.W.Fast.tw11220792082420920473 : Nat := 0
noncomputable def PySem.W.Fast.tw14438165292235802861 : Nat := 0
noncomputable def PySem.W.Fast.tw7936186701639458694 : Nat := 0
noncomputable def PySem.W.Fast.tw12790972013967703902 : Nat := 0
noncomputable def PySem.W.Fast.tw3671107007736622161 : Nat := 0
noncomputable def PySem.W.Fast.tw16075201590297981214 : Nat := 0
noncomputable def PySem.W.Fast.tw153662065824545877 : Nat := 0
noncomputable def PySem.W.Fast.tw7340098846159809095 : Nat := 0
noncomputable def PySem.W.Fast.tw11786676284036091045 : Nat := 0
noncomputable def PySem.W.Fast.tw10027817928667472977 : Nat := 0
noncomputable def PySem.W.Fast.tw12241813482776062325 : Nat := 0
noncomputable def PySem.W.Fast.tw34792463936547327 : Nat := 0
noncomputable def PySem.W.Fast.tw15585344016606299197 : Nat := 0
noncomputable def PySem.W.Fast.tw15237736881376465809 : Nat := 0
noncomputable def PySem.W.Fast.tw17311902247823676424 : Nat := 0
noncomputable def PySem.W.Fast.tw4635637960524947826 : Nat := 0
noncomputable def PySem.W.Fast.tw17917454801475033587 : Nat := 0
noncomputable def PySem.W.Fast.tw4199171606304695650 : Nat := 0
noncomputable def PySem.W.Fast.tw988308805090200592 : Nat := 0
noncomputable def PySem.W.Fast.tw9020432765103136276 : Nat := 0
noncomputable def PySem.W.Fast.tw1577080059991616216 : Nat := 0
noncomputable def PySem.W.Fast.tw8307850216453790603 : Nat := 0
noncomputable def PySem.W.Fast.tw8596764064919673505 : Nat := 0
noncomputable def PySem.W.Fast.tw12756606898172407670 : Nat := 0
noncomputable def PySem.W.Fast.tw9913981683821103211 : Nat := 0
noncomputable def PySem.W.Fast.tw10930335476954573516 : Nat := 0
noncomputable def PySem.W.Fast.tw16680690720673518085 : Nat := 0
noncomputable def PySem.W.Fast.tw5517540547949643096 : Nat := 0
noncomputable def PySem.W.Fast.tw8380364974327149608 : Nat := 0
noncomputable def PySem.W.Fast.tw6838473767090937321 : Nat := 0
noncomputable def PySem.W.Fast.tw12723584392641708511 : Nat := 0
noncomputable def PySem.W.Fast.tw15098324258975177350 : Nat := 0
noncomputable def PySem.W.Fast.tw11374015901544492247 : Nat := 0
noncomputable def PySem.W.Fast.tw5751570556031661788 : Nat := 0
noncomputable def PySem.W.Fast.tw10172229883587428806 : Nat := 0
noncomputable def PySem.W.Fast.tw15231000866322446005 : Nat := 0
noncomputable def PySem.W.Fast.tw17178984585371120751 : Nat := 0
noncomputable def PySem.W.Fast.tw7115916486141405067 : Nat := 0
noncomputable def PySem.W.Fast.tw4664655444494105164 : Nat := 0
noncomputable def PySem.W.Fast.tw3315343226656166166 : Nat := 0
noncomputable def PySem.W.Fast.tw16057677661182184111 : Nat := 0
noncomputable def PySem.W.Fast.tw10451957883929771095 : Nat := 0
noncomputable def PySem.W.Fast.tw13817438645593028574 : Nat := 0
noncomputable def PySem.W.Fast.tw17756689477310972805 : Nat := 0
noncomputable def PySem.W.Fast.tw13099790163496566769 : Nat := 0
noncomputable def PySem.W.Fast.tw11423815893607485568 : Nat := 0
noncomputable def PySem.W.Fast.tw10024623806701134044 : Nat := 0
noncomputable def PySem.W.Fast.tw4416807975081220818 : Nat := 0
noncomputable def PySem.W.Fast.tw5496955563147295345 : Nat := 0
noncomputable def PySem.W.Fast.tw14167044222601406608 : Nat := 0
noncomputable def PySem.W.Fast.tw7446282816761329772 : Nat := 0
noncomputable def PySem.W.Fast.tw6942935705167335019 : Nat := 0
noncomputable def PySem.W.Fast.tw11679920178278959407 : Nat := 0
noncomputable def PySem.W.Fast.tw3832240324967909166 : Nat := 0
noncomputable def PySem.W.Fast.tw17415415954611939949 : Nat := 0
noncomputable def PySem.W.Fast.tw3864822008754700998 : Nat := 0
noncomputable def PySem.W.Fast.tw17742321435741550069 : Nat := 0
noncomputable def PySem.W.Fast.tw1444373080441757906 : Nat := 0
noncomputable def PySem.W.Fast.tw2219148981549094405 : Nat := 0
noncomputable def PySem.W.Fast.tw10852392070617661309 : Nat := 0
noncomputable def PySem.W.Fast.tw10127031567464726557 : Nat := 0
noncomputable def PySem.W.Fast.tw10547152587847556724 : Nat := 0
noncomputable def PySem.W.Fast.tw15352899083533377914 : Nat := 0
noncomputable def PySem.W.Fast.tw15064243692384202150 : Nat := 0
noncomputable def PySem.W.Fast.tw8842495631782766292 : Nat := 0
noncomputable def PySem.W.Fast.tw3783481356278656171 : Nat := 0
noncomputable def PySem.W.Fast.tw10661715805125888984 : Nat := 0
noncomputable def PySem.W.Fast.tw7797467430931114396 : Nat := 0
noncomputable def PySem.W.Fast.tw2587807691360031819 : Nat := 0
noncomputable def PySem.W.Fast.tw15560815064109861779 : Nat := 0
noncomputable def PySem.W.Fast.tw5386661369069774339 : Nat := 0
noncomputable def PySem.W.Fast.tw2808494775661471360 : Nat := 0
noncomputable def PySem.W.Fast.tw4420350311352582987 : Nat := 0
noncomputable def PySem.W.Fast.tw908090666023296712 : Nat := 0
noncomputable def PySem.W.Fast.tw17272877317833039556 : Nat := 0
noncomputable def PySem.W.Fast.tw3188660684220417933 : Nat := 0
noncomputable def PySem.W.Fast.tw1088742818870863243 : Nat := 0
noncomputable def PySem.W.Fast.tw7304038609341070504 : Nat := 0
noncomputable def PySem.W.Fast.tw6091039601731175991 : Nat := 0
noncomputable def PySem.W.Fast.tw11067148717973231488 : Nat := 0
noncomputable def PySem.W.Fast.tw7831907991477398446 : Nat := 0
noncomputable def PySem.W.Fast.tw8413009528857864167 : Nat := 0
noncomputable def PySem.W.Fast.tw17005081150433414258 : Nat := 0
noncomputable def PySem.W.Fast.tw16473786965938547931 : Nat := 0
noncomputable def PySem.W.Fast.tw16159897439752384119 : Nat := 0
noncomputable def PySem.W.Fast.tw5013682062645716463 : Nat := 0
noncomputable def PySem.W.Fast.tw3361923039873828242 : Nat := 0
noncomputable def PySem.W.Fast.tw13839226041110448725 : Nat := 0
noncomputable def PySem.W.Fast.tw9936819881654927148 : Nat := 0
noncomputable def PySem.W.Fast.tw6339442772754643546 : Nat := 0
noncomputable def PySem.W.Fast.tw12167503846349812404 : Nat := 0
noncomputable def PySem.W.Fast.tw12279660129210642353 : Nat := 0
noncomputable def PySem.W.Fast.tw17017517247059327510 : Nat := 0
noncomputable def PySem.W.Fast.tw17345000516902591820 : Nat := 0
noncomputable def PySem.W.Fast.tw2190394152421280115 : Nat := 0
noncomputable def PySem.W.Fast.tw17232679880595679854 : Nat := 0
noncomputable def PySem.W.Fast.tw11590071039277039998 : Nat := 0
noncomputable def PySem.W.Fast.tw7397474589190928775 : Nat := 0
noncomputable def PySem.W.Fast.tw4016888265311818589 : Nat := 0
noncomputable def PySem.W.Fast.tw6988047058825971185 : Nat := 0
noncomputable def PySem.W.Fast.tw11732968291564210241 : Nat := 0
noncomputable def PySem.W.Fast.tw1373673829515856113 : Nat := 0
noncomputable def PySem.W.Fast.tw14212987912347138478 : Nat := 0
noncomputable def PySem.W.Fast.tw10946454312760535122 : Nat := 0
noncomputable def PySem.W.Fast.tw11612398267595298609 : Nat := 0
noncomputable def PySem.W.Fast.tw6866294538780829559 : Nat := 0
noncomputable def PySem.W.Fast.tw10534127328990281591 : Nat := 0
noncomputable def PySem.W.Fast.tw10473489217566843755 : Nat := 0
noncomputable def PySem.W.Fast.tw12362651098622136370 : Nat := 0
noncomputable def PySem.W.Fast.tw1360047271118793334 : Nat := 0
noncomputable def PySem.W.Fast.tw14165140002861916810 : Nat := 0
noncomputable def PySem.W.Fast.tw11961376311490510997 : Nat := 0
noncomputable def PySem.W.Fast.tw2030366559660844599 : Nat := 0
noncomputable def PySem.W.Fast.tw15402456353314443897 : Nat := 0
noncomputable def PySem.W.Fast.tw58748946863510391 : Nat := 0
noncomputable def PySem.W.Fast.tw938061318391946493 : Nat := 0
noncomputable def PySem.W.Fast.tw5432257933181470763 : Nat := 0
noncomputable def PySem.W.Fast.tw3560364185018453623 : Nat := 0
noncomputable def PySem.W.Fast.tw11304485872519526642 : Nat := 0
noncomputable def PySem.W.Fast.tw10507573659939424447 : Nat := 0
noncomputable def PySem.W.Fast.tw15970718907573606694 : Nat := 0
noncomputable def PySem.W.Fast.tw11519119116120097085 : Nat := 0
noncomputable def PySem.W.Fast.tw6033465959793610952 : Nat := 0
noncomputable def PySem.W.Fast.tw14802882526774650764 : Nat := 0
noncomputable def PySem.W.Fast.tw17515773547848955115 : Nat := 0
noncomputable def PySem.W.Fast.tw10708700099313609877 : Nat := 0
noncomputable def PySem.W.Fast.tw6119113169057610794 : Nat := 0
noncomputable def PySem.W.Fast.tw15023838533954090350 : Nat := 0
noncomputable def PySem.W.Fast.tw4495174217646191615 : Nat := 0
noncomputable def PySem.W.Fast.tw1207748344414238206 : Nat := 0
noncomputable def PySem.W.Fast.tw8880150289130372964 : Nat := 0
noncomputable def PySem.W.Fast.tw12713283360330469170 : Nat := 0
noncomputable def PySem.W.Fast.tw11101372955451545038 : Nat := 0
noncomputable def PySem.W.Fast.tw4178101856063067473 : Nat := 0
noncomputable def PySem.W.Fast.tw10019070835124793250 : Nat := 0
noncomputable def PySem.W.Fast.tw16882190077388512489 : Nat := 0
noncomputable def PySem.W.Fast.tw12501950240520058038 : Nat := 0
noncomputable def PySem.W.Fast.tw5220779443212814683 : Nat := 0
noncomputable def PySem.W.Fast.tw12703857819194888467 : Nat := 0
noncomputable def PySem.W.Fast.tw4691968471317041111 : Nat := 0
noncomputable def PySem.W.Fast.tw14104953690631723080 : Nat := 0
noncomputable def PySem.W.Fast.tw13417224146907006528 : Nat := 0
noncomputable def PySem.W.Fast.tw14081534431045942565 : Nat := 0
noncomputable def PySem.W.Fast.tw8572994078589948135 : Nat := 0
noncomputable def PySem.W.Fast.tw12481713827809458916 : Nat := 0
noncomputable def PySem.W.Fast.tw3351278233993935864 : Nat := 0
noncomputable def PySem.W.Fast.tw17430339121698258817 : Nat := 0
noncomputable def PySem.W.Fast.tw7519575565875216510 : Nat := 0
noncomputable def PySem.W.Fast.tw17647463814832513239 : Nat := 0
noncomputable def PySem.W.Fast.tw8501895528809137639 : Nat := 0
noncomputable def PySem.W.Fast.tw16847398486154163876 : Nat := 0
noncomputable def PySem.W.Fast.tw6707232947418177859 : Nat := 0
noncomputable def PySem.W.Fast.tw971763027820727671 : Nat := 0
noncomputable def PySem.W.Fast.tw2014864794122207455 : Nat := 0
noncomputable def PySem.W.Fast.tw9374924200469790182 : Nat := 0
noncomputable def PySem.W.Fast.tw15876678578930679631 : Nat := 0
noncomputable def PySem.W.Fast.tw14808527312221719758 : Nat := 0
noncomputable def PySem.W.Fast.tw9200854802170306208 : Nat := 0
noncomputable def PySem.W.Fast.tw2106532297946245884 : Nat := 0
noncomputable def PySem.W.Fast.tw16183610915590235390 : Nat := 0
noncomputable def PySem.W.Fast.tw16721660267269482119 : Nat := 0
noncomputable def PySem.W.Fast.tw3201128509916148761 : Nat := 0
noncomputable def PySem.W.Fast.tw625333496025373442 : Nat := 0
noncomputable def PySem.W.Fast.tw13905606947546254801 : Nat := 0
noncomputable def PySem.W.Fast.tw14038341368101372076 : Nat := 0
noncomputable def PySem.W.Fast.tw17439617088703527828 : Nat := 0
noncomputable def PySem.W.Fast.tw8428859802485746867 : Nat := 0
noncomputable def PySem.W.Fast.tw5419144487387361751 : Nat := 0
noncomputable def PySem.W.Fast.tw15329259401556298134 : Nat := 0
noncomputable def PySem.W.Fast.tw3939764417177467916 : Nat := 0
noncomputable def PySem.W.Fast.tw8025314945560473124 : Nat := 0
noncomputable def PySem.W.Fast.tw15981858944412510963 : Nat := 0
noncomputable def PySem.W.Fast.tw9691773990517712658 : Nat := 0
noncomputable def PySem.W.Fast.tw312989438719281695 : Nat := 0
noncomputable def PySem.W.Fast.tw15081491074645906712 : Nat := 0
noncomputable def PySem.W.Fast.tw9854523304748534328 : Nat := 0
noncomputable def PySem.W.Fast.tw3557146547607225154 : Nat := 0
noncomputable def PySem.W.Fast.tw8584600357679494338 : Nat := 0
noncomputable def PySem.W.Fast.tw6377518278732136442 : Nat := 0
noncomputable def PySem.W.Fast.tw878502970099090628 : Nat := 0
noncomputable def PySem.W.Fast.tw11967200470605051009 : Nat := 0
noncomputable def PySem.W.Fast.tw3758566677021034291 : Nat := 0
noncomputable def PySem.W.Fast.tw2187571131486386455 : Nat := 0
noncomputable def PySem.W.Fast.tw7097954045483511711 : Nat := 0
noncomputable def PySem.W.Fast.tw8219716415359985504 : Nat := 0
noncomputable def PySem.W.Fast.tw1674999921293046192 : Nat := 0
noncomputable def PySem.W.Fast.tw8705214413637383177 : Nat := 0
noncomputable def PySem.W.Fast.tw8907958661789372991 : Nat := 0
noncomputable def PySem.W.Fast.tw3034419802789343134 : Nat := 0
noncomputable def PySem.W.Fast.tw4810045121288203681 : Nat := 0
noncomputable def PySem.W.Fast.tw16412942410998445551 : Nat := 0
noncomputable def PySem.W.Fast.tw17980959413179505032 : Nat := 0
noncomputable def PySem.W.Fast.tw7774257162504149943 : Nat := 0
noncomputable def PySem.W.Fast.tw5673417205583695926 : Nat := 0
noncomputable def PySem.W.Fast.tw13838431901798464512 : Nat := 0
noncomputable def PySem.W.Fast.tw17164926921336444425 : Nat := 0
noncomputable def PySem.W.Fast.tw18092400001196827354 : Nat := 0
noncomputable def PySem.W.Fast.tw1009380223798428303 : Nat := 0
noncomputable def PySem.W.Fast.tw9070813467434997132 : Nat := 0
noncomputable def PySem.W.Fast.tw2289536154631463228 : Nat := 0
noncomputable def PySem.W.Fast.tw5153019284378514431 : Nat := 0
noncomputable def PySem.W.Fast.tw5504956251125750538 : Nat := 0
noncomputable def PySem.W.Fast.tw10380134710156247678 : Nat := 0
noncomputable def PySem.W.Fast.tw4737628437856523692 : Nat := 0
noncomputable def PySem.W.Fast.tw600954428709964816 : Nat := 0
noncomputable def PySem.W.Fast.tw3109110913899343258 : Nat := 0
noncomputable def PySem.W.Fast.tw14209378121906641371 : Nat := 0
noncomputable def PySem.W.Fast.tw14400904095481604309 : Nat := 0
noncomputable def PySem.W.Fast.tw13095489608877181469 : Nat := 0
noncomputable def PySem.W.Fast.tw4815300724749166955 : Nat := 0
noncomputable def PySem.W.Fast.tw2268776665143068546 : Nat := 0
noncomputable def PySem.W.Fast.tw17199932998127806127 : Nat := 0
noncomputable def PySem.W.Fast.tw15383511135945556752 : Nat := 0
noncomputable def PySem.W.Fast.tw14287529257991616747 : Nat := 0
noncomputable def PySem.W.Fast.tw11287285383626783951 : Nat := 0
noncomputable def PySem.W.Fast.tw11941929072174778319 : Nat := 0
noncomputable def PySem.W.Fast.tw1541593989411722298 : Nat := 0
noncomputable def PySem.W.Fast.tw3030665154753847453 : Nat := 0
noncomputable def PySem.W.Fast.tw15752222158423447754 : Nat := 0
noncomputable def PySem.W.Fast.tw3349656591730043406 : Nat := 0
noncomputable def PySem.W.Fast.tw8500230370842781309 : Nat := 0
noncomputable def PySem.W.Fast.tw8793971902748131203 : Nat := 0
noncomputable def PySem.W.Fast.tw13870283759051200823 : Nat := 0
noncomputable def PySem.W.Fast.tw3110880385578291713 : Nat := 0
noncomputable def PySem.W.Fast.tw7616783427935715637 : Nat := 0
noncomputable def PySem.W.Fast.tw14905032246982795015 : Nat := 0
noncomputable def PySem.W.Fast.tw10709479990277472950 : Nat := 0
noncomputable def PySem.W.Fast.tw2844811072658569540 : Nat := 0
noncomputable def PySem.W.Fast.tw9584752457759561061 : Nat := 0
noncomputable def PySem.W.Fast.tw13080114852979296059 : Nat := 0
noncomputable def PySem.W.Fast.tw6963621187867835008 : Nat := 0
noncomputable def PySem.W.Fast.tw12828816753967623990 : Nat := 0
noncomputable def PySem.W.Fast.tw17320875541731388694 : Nat := 0
noncomputable def PySem.W.Fast.tw15297545983769916854 : Nat := 0
noncomputable def PySem.W.Fast.tw12800055155835109111 : Nat := 0
noncomputable def PySem.W.Fast.tw9742768477325729490 : Nat := 0
noncomputable def PySem.W.Fast.tw13049592170185635673 : Nat := 0
noncomputable def PySem.W.Fast.tw13355194674960966888 : Nat := 0
noncomputable def PySem.W.Fast.tw13666538288396549473 : Nat := 0
noncomputable def PySem.W.Fast.tw4277938865126112353 : Nat := 0
noncomputable def PySem.W.Fast.tw2795633712358474028 : Nat := 0
noncomputable def PySem.W.Fast.tw17006140890712870475 : Nat := 0
noncomputable def PySem.W.Fast.tw15113620074827333353 : Nat := 0
noncomputable def PySem.W.Fast.tw1215069117852502282 : Nat := 0
noncomputable def PySem.W.Fast.tw8185548221383741202 : Nat := 0
noncomputable def PySem.W.Fast.tw2506696634884409449 : Nat := 0
noncomputable def PySem.W.Fast.tw14653617946953901065 : Nat := 0
noncomputable def PySem.W.Fast.tw15397573955850691077 : Nat := 0
noncomputable def PySem.W.Fast.tw13942994688334805936 : Nat := 0
noncomputable def PySem.W.Fast.tw2994564487058848831 : Nat := 0
noncomputable def PySem.W.Fast.tw3872586135949340209 : Nat := 0
noncomputable def PySem.W.Fast.tw14675551258146425707 : Nat := 0
noncomputable def PySem.W.Fast.tw4626397520878512748 : Nat := 0
noncomputable def PySem.W.Fast.tw1844795183101082361 : Nat := 0
noncomputable def PySem.W.Fast.tw11494332732248125137 : Nat := 0
noncomputable def PySem.W.Fast.tw17034774022400752158 : Nat := 0
noncomputable def PySem.W.Fast.tw10043434222372258942 : Nat := 0
noncomputable def PySem.W.Fast.tw14092795053934850742 : Nat := 0
noncomputable def PySem.W.Fast.tw16558432606681926830 : Nat := 0
noncomputable def PySem.W.Fast.tw8937099941259643964 : Nat := 0
noncomputable def PySem.W.Fast.tw2415448024388236270 : Nat := 0
noncomputable def PySem.W.Fast.tw18011791667712852544 : Nat := 0
noncomputable def PySem.W.Fast.tw17000191958937901425 : Nat := 0
noncomputable def PySem.W.Fast.tw5031616975968153933 : Nat := 0
noncomputable def PySem.W.Fast.tw5683845099369844823 : Nat := 0
noncomputable def PySem.W.Fast.tw3364812855842432501 : Nat := 0
noncomputable def PySem.W.Fast.tw7034884366428862764 : Nat := 0
noncomputable def PySem.W.Fast.tw8364921374535619797 : Nat := 0
noncomputable def PySem.W.Fast.tw4309791746482309743 : Nat := 0
noncomputable def PySem.W.Fast.tw14340448007248668717 : Nat := 0
noncomputable def PySem.W.Fast.tw6125292024670446705 : Nat := 0
noncomputable def PySem.W.Fast.tw9086491962955191746 : Nat := 0
noncomputable def PySem.W.Fast.tw5833397706117993865 : Nat := 0
noncomputable def PySem.W.Fast.tw10467698346758907780 : Nat := 0
noncomputable def PySem.W.Fast.tw3005157689704554825 : Nat := 0
noncomputable def PySem.W.Fast.tw1906802607577686655 : Nat := 0
noncomputable def PySem.W.Fast.tw10072277706325252012 : Nat := 0
noncomputable def PySem.W.Fast.tw4092388413824797196 : Nat := 0
noncomputable def PySem.W.Fast.tw6534638647392386854 : Nat := 0
noncomputable def PySem.W.Fast.tw12269577462581501467 : Nat := 0
noncomputable def PySem.W.Fast.tw8654120924627246305 : Nat := 0
noncomputable def PySem.W.Fast.tw3833525083461877687 : Nat := 0
noncomputable def PySem.W.Fast.tw10406301408683592985 : Nat := 0
noncomputable def PySem.W.Fast.tw5087799387519920551 : Nat := 0
noncomputable def PySem.W.Fast.tw7441539605177167570 : Nat := 0
noncomputable def PySem.W.Fast.tw9350528641224540203 : Nat := 0
noncomputable def PySem.W.Fast.tw16623768838887730776 : Nat := 0
noncomputable def PySem.W.Fast.tw16997910751650924575 : Nat := 0
noncomputable def PySem.W.Fast.tw13151081312768133169 : Nat := 0
open PySem PySem.W PyProof.Rows
set_option maxRecDepth 100000 in
set_option maxHeartbeats 0 in
theorem PySem.Challenge.cw_worthkinds_k40_rules_holds : PySem.Challenge.rw_worthkinds_k40_rules.Holds := by
 w_on; o_law; k_head; (case hw=>w_witness2)
 k_fill
 refine G.walk (l:=PySem.Challenge.rw_worthkinds_k40_rules) rfl rfl G.law_ok ?nl (fun w h Y=>PySem.W.kIn_of Y) ?F
 case nl=>intro p; kernel_rfl
 case F=>
  intro w mg fa h KX G0 hmg
  obtain ⟨a0,d0,C0⟩:∃ a d,G.Fn _ mg "_law_cell" G.U4 ["_law_script","_law_k"] a d:=by
   refine' ⟨_,_,G.fn1 KX G0 ?e ?l ?g ?k (fun F=>F.binds (ps:=["_law_script","_law_k"]) fun _ _ _ _ _ _ us hl=>match us,hl with | [_,_],_=>rfl)⟩
   (case e=>k_is)
   (case l=>k_is)
   (case g=>k_is)
   (case k=>k_is)
  obtain ⟨a1,d1,C1⟩:∃ a d,G.Fn _ mg "_law_pick" G.U5 ["_law_script","_law_k","_law_many"] a d:=by
   refine' ⟨_,_,G.fn1 KX G0 ?e ?l ?g ?k (fun F=>F.binds (ps:=["_law_script","_law_k","_law_many"]) fun _ _ _ _ _ _ us hl=>match us,hl with | [_,_,_],_=>rfl)⟩
   (case e=>k_is)
   (case l=>k_is)
   (case g=>k_is)
   (case k=>k_is)
  obtain ⟨a2,d2,C2⟩:∃ a d,G.Fn _ mg "_law_rule" G.U6 ["_law_script","_law_at_here","_law_deep"] a d:=by
   refine' ⟨_,_,G.fn1 KX G0 ?e ?l ?g ?k (fun F=>F.binds (ps:=["_law_script","_law_at_here","_law_deep"]) fun _ _ _ _ _ _ us hl=>match us,hl with | [_,_,_],_=>rfl)⟩
   (case e=>k_is)
   (case l=>k_is)
   (case g=>k_is)
   (case k=>k_is)
  obtain ⟨a3,d3,C3⟩:∃ a d,G.Fn _ mg "_law_word_of" G.JN ["_law_script","_law_at_here"] a d:=by
   refine' ⟨_,_,G.fn1 KX G0 ?e ?l ?g ?k (fun F=>F.binds (ps:=["_law_script","_law_at_here"]) fun _ _ _ _ _ _ us hl=>match us,hl with | [_,_],_=>rfl)⟩
   (case e=>k_is)
   (case l=>k_is)
   (case g=>k_is)
   (case k=>k_is)
  obtain ⟨a4,d4,C4⟩:∃ a d,G.Fn _ mg "_law_leaf_kind" G.jO ["_law_script","_law_at_here"] a d:=by
   refine' ⟨_,_,G.fn1 KX G0 ?e ?l ?g ?k (fun F=>F.binds (ps:=["_law_script","_law_at_here"]) fun _ _ _ _ _ _ us hl=>match us,hl with | [_,_],_=>rfl)⟩
   (case e=>k_is)
   (case l=>k_is)
   (case g=>k_is)
   (case k=>k_is)
  obtain ⟨a5,d5,C5⟩:∃ a d,G.Fn _ mg "_law_kind" G.Wf ["_law_script","_law_at_here","_law_deep"] a d:=by
   refine' ⟨_,_,G.fn1 KX G0 ?e ?l ?g ?k (fun F=>F.binds (ps:=["_law_script","_law_at_here","_law_deep"]) fun _ _ _ _ _ _ us hl=>match us,hl with | [_,_,_],_=>rfl)⟩
   (case e=>k_is)
   (case l=>k_is)
   (case g=>k_is)
   (case k=>k_is)
  obtain ⟨a6,d6,C6⟩:∃ a d,G.Fn _ mg "_law_rows_of" G.JO ["_law_lists"] a d:=by
   refine' ⟨_,_,G.fn1 KX G0 ?e ?l ?g ?k (fun F=>F.binds (ps:=["_law_lists"]) fun _ _ _ _ _ _ us hl=>match us,hl with | [_],_=>rfl)⟩
   (case e=>k_is)
   (case l=>k_is)
   (case g=>k_is)
   (case k=>k_is)
  obtain ⟨a7,d7,C7⟩:∃ a d,G.Fn _ mg "_law_all" G.wZ ["_law_kind_here"] a d:=by
   refine' ⟨_,_,G.fn1 KX G0 ?e ?l ?g ?k (fun F=>F.binds (ps:=["_law_kind_here"]) fun _ _ _ _ _ _ us hl=>match us,hl with | [_],_=>rfl)⟩
   (case e=>k_is)
   (case l=>k_is)
   (case g=>k_is)
   (case k=>k_is)
  obtain ⟨a8,d8,C8⟩:∃ a d,G.Fn _ mg "_law_size" G.Wh ["_law_kind_here"] a d:=by
   refine' ⟨_,_,G.fn1 KX G0 ?e ?l ?g ?k (fun F=>F.binds (ps:=["_law_kind_here"]) fun _ _ _ _ _ _ us hl=>match us,hl with | [_],_=>rfl)⟩
   (case e=>k_is)
   (case l=>k_is)
   (case g=>k_is)
   (case k=>k_is)
  obtain ⟨a9,d9,C9⟩:∃ a d,G.Fn _ mg "_law_small" G.ue ["_law_script","_law_at_here","_law_most"] a d:=by
   refine' ⟨_,_,G.fn1 KX G0 ?e ?l ?g ?k (fun F=>F.binds (ps:=["_law_script","_law_at_here","_law_most"]) fun _ _ _ _ _ _ us hl=>match us,hl with | [_,_,_],_=>rfl)⟩
   (case e=>k_is)
   (case l=>k_is)
   (case g=>k_is)
   (case k=>k_is)
  obtain ⟨a10,d10,C10⟩:∃ a d,G.Fn _ mg "is_whole" G.UL ["thing"] a d:=by
   refine' ⟨_,_,G.fn1 KX G0 ?e ?l ?g ?k (fun F=>F.binds (ps:=["thing"]) fun _ _ _ _ _ _ us hl=>match us,hl with | [_],_=>rfl)⟩
   (case e=>k_is)
   (case l=>k_is)
   (case g=>k_is)
   (case k=>k_is)
  obtain ⟨a11,d11,C11⟩:∃ a d,G.Fn _ mg "is_bound" G.UM ["thing"] a d:=by
   refine' ⟨_,_,G.fn1 KX G0 ?e ?l ?g ?k (fun F=>F.binds (ps:=["thing"]) fun _ _ _ _ _ _ us hl=>match us,hl with | [_],_=>rfl)⟩
   (case e=>k_is)
   (case l=>k_is)
   (case g=>k_is)
   (case k=>k_is)
  obtain ⟨a12,d12,C12⟩:∃ a d,G.Fn _ mg "is_word" G.U9 ["thing"] a d:=by
   refine' ⟨_,_,G.fn1 KX G0 ?e ?l ?g ?k (fun F=>F.binds (ps:=["thing"]) fun _ _ _ _ _ _ us hl=>match us,hl with | [_],_=>rfl)⟩
   (case e=>k_is)
   (case l=>k_is)
   (case g=>k_is)
   (case k=>k_is)
  obtain ⟨a13,d13,C13⟩:∃ a d,G.Fn _ mg "is_rule_within" G.wp ["thing","levels"] a d:=by
   refine' ⟨_,_,G.fn1 KX G0 ?e ?l ?g ?k (fun F=>F.binds (ps:=["thing","levels"]) fun _ _ _ _ _ _ us hl=>match us,hl with | [_,_],_=>rfl)⟩
   (case e=>k_is)
   (case l=>k_is)
   (case g=>k_is)
   (case k=>k_is)
  obtain ⟨a14,d14,C14⟩:∃ a d,G.Fn _ mg "is_rule" G.Yu ["thing"] a d:=by
   refine' ⟨_,_,G.fn1 KX G0 ?e ?l ?g ?k (fun F=>F.binds (ps:=["thing"]) fun _ _ _ _ _ _ us hl=>match us,hl with | [_],_=>rfl)⟩
   (case e=>k_is)
   (case l=>k_is)
   (case g=>k_is)
   (case k=>k_is)
  obtain ⟨a15,d15,C15⟩:∃ a d,G.Fn _ mg "_law_is_word" G.JP ["_law_thing"] a d:=by
   refine' ⟨_,_,G.fn1 KX G0 ?e ?l ?g ?k (fun F=>F.binds (ps:=["_law_thing"]) fun _ _ _ _ _ _ us hl=>match us,hl with | [_],_=>rfl)⟩
   (case e=>k_is)
   (case l=>k_is)
   (case g=>k_is)
   (case k=>k_is)
  obtain ⟨a16,d16,C16⟩:∃ a d,G.Fn _ mg "_law_whole" G.uf ["_law_thing","_law_low","_law_high"] a d:=by
   refine' ⟨_,_,G.fn1 KX G0 ?e ?l ?g ?k (fun F=>F.binds (ps:=["_law_thing","_law_low","_law_high"]) fun _ _ _ _ _ _ us hl=>match us,hl with | [_,_,_],_=>rfl)⟩
   (case e=>k_is)
   (case l=>k_is)
   (case g=>k_is)
   (case k=>k_is)
  obtain ⟨a17,d17,C17⟩:∃ a d,G.Fn _ mg "_law_is_rule" G.jA ["_law_thing","_law_deep"] a d:=by
   refine' ⟨_,_,G.fn1 KX G0 ?e ?l ?g ?k (fun F=>F.binds (ps:=["_law_thing","_law_deep"]) fun _ _ _ _ _ _ us hl=>match us,hl with | [_,_],_=>rfl)⟩
   (case e=>k_is)
   (case l=>k_is)
   (case g=>k_is)
   (case k=>k_is)
  obtain ⟨a18,d18,C18⟩:∃ a d,G.Fn _ mg "_law_word" G.Ub ["_law_kept"] a d:=by
   refine' ⟨_,_,G.fn1 KX G0 ?e ?l ?g ?k (fun F=>F.binds (ps:=["_law_kept"]) fun _ _ _ _ _ _ us hl=>match us,hl with | [_],_=>rfl)⟩
   (case e=>k_is)
   (case l=>k_is)
   (case g=>k_is)
   (case k=>k_is)
  obtain ⟨a19,d19,C19⟩:∃ a d,G.Fn _ mg "need_rule" G.Uc ["rule"] a d:=by
   refine' ⟨_,_,G.fn1 KX G0 ?e ?l ?g ?k (fun F=>F.binds (ps:=["rule"]) fun _ _ _ _ _ _ us hl=>match us,hl with | [_],_=>rfl)⟩
   (case e=>k_is)
   (case l=>k_is)
   (case g=>k_is)
   (case k=>k_is)
  obtain ⟨a20,d20,C20⟩:∃ a d,G.Fn _ mg "are_unlike" G.wG ["parts"] a d:=by
   refine' ⟨_,_,G.fn1 KX G0 ?e ?l ?g ?k (fun F=>F.binds (ps:=["parts"]) fun _ _ _ _ _ _ us hl=>match us,hl with | [_],_=>rfl)⟩
   (case e=>k_is)
   (case l=>k_is)
   (case g=>k_is)
   (case k=>k_is)
  obtain ⟨a21,d21,C21⟩:∃ a d,G.Fn _ mg "are_rising" G.wH ["numbers"] a d:=by
   refine' ⟨_,_,G.fn1 KX G0 ?e ?l ?g ?k (fun F=>F.binds (ps:=["numbers"]) fun _ _ _ _ _ _ us hl=>match us,hl with | [_],_=>rfl)⟩
   (case e=>k_is)
   (case l=>k_is)
   (case g=>k_is)
   (case k=>k_is)
  obtain ⟨a22,d22,C22⟩:∃ a d,G.Fn _ mg "parts_of" G.UN ["worth"] a d:=by
   refine' ⟨_,_,G.fn1 KX G0 ?e ?l ?g ?k (fun F=>F.binds (ps:=["worth"]) fun _ _ _ _ _ _ us hl=>match us,hl with | [_],_=>rfl)⟩
   (case e=>k_is)
   (case l=>k_is)
   (case g=>k_is)
   (case k=>k_is)
  obtain ⟨a23,d23,C23⟩:∃ a d,G.Fn _ mg "leaves_of" G.Ud ["worth"] a d:=by
   refine' ⟨_,_,G.fn1 KX G0 ?e ?l ?g ?k (fun F=>F.binds (ps:=["worth"]) fun _ _ _ _ _ _ us hl=>match us,hl with | [_],_=>rfl)⟩
   (case e=>k_is)
   (case l=>k_is)
   (case g=>k_is)
   (case k=>k_is)
  obtain ⟨a24,d24,C24⟩:∃ a d,G.Fn _ mg "numbers_in" G.wJ ["worth"] a d:=by
   refine' ⟨_,_,G.fn1 KX G0 ?e ?l ?g ?k (fun F=>F.binds (ps:=["worth"]) fun _ _ _ _ _ _ us hl=>match us,hl with | [_],_=>rfl)⟩
   (case e=>k_is)
   (case l=>k_is)
   (case g=>k_is)
   (case k=>k_is)
  obtain ⟨a25,d25,C25⟩:∃ a d,G.Fn _ mg "is_single_kept" G.wq ["rule","worth"] a d:=by
   refine' ⟨_,_,G.fn1 KX G0 ?e ?l ?g ?k (fun F=>F.binds (ps:=["rule","worth"]) fun _ _ _ _ _ _ us hl=>match us,hl with | [_,_],_=>rfl)⟩
   (case e=>k_is)
   (case l=>k_is)
   (case g=>k_is)
   (case k=>k_is)
  obtain ⟨a26,d26,C26⟩:∃ a d,G.Fn _ mg "is_kept" G.Yx ["rule","worth"] a d:=by
   refine' ⟨_,_,G.fn1 KX G0 ?e ?l ?g ?k (fun F=>F.binds (ps:=["rule","worth"]) fun _ _ _ _ _ _ us hl=>match us,hl with | [_,_],_=>rfl)⟩
   (case e=>k_is)
   (case l=>k_is)
   (case g=>k_is)
   (case k=>k_is)
  obtain ⟨a27,d27,C27⟩:∃ a d,G.Fn _ mg "keeps" G.xw ["rule","worth"] a d:=by
   refine' ⟨_,_,G.fn1 KX G0 ?e ?l ?g ?k (fun F=>F.binds (ps:=["rule","worth"]) fun _ _ _ _ _ _ us hl=>match us,hl with | [_,_],_=>rfl)⟩
   (case e=>k_is)
   (case l=>k_is)
   (case g=>k_is)
   (case k=>k_is)
  obtain ⟨a28,d28,C28⟩:∃ a d,G.Fn _ mg "_law_tried" G.uk ["_law_rule_here","_law_worth"] a d:=by
   refine' ⟨_,_,G.fn1 KX G0 ?e ?l ?g ?k (fun F=>F.binds (ps:=["_law_rule_here","_law_worth"]) fun _ _ _ _ _ _ us hl=>match us,hl with | [_,_],_=>rfl)⟩
   (case e=>k_is)
   (case l=>k_is)
   (case g=>k_is)
   (case k=>k_is)
  obtain ⟨a29,d29,C29⟩:∃ a d,G.Fn _ mg "_law_places" G.wj ["_law_thing"] a d:=by
   refine' ⟨_,_,G.fn1 KX G0 ?e ?l ?g ?k (fun F=>F.binds (ps:=["_law_thing"]) fun _ _ _ _ _ _ us hl=>match us,hl with | [_],_=>rfl)⟩
   (case e=>k_is)
   (case l=>k_is)
   (case g=>k_is)
   (case k=>k_is)
  obtain ⟨a30,d30,C30⟩:∃ a d,G.Fn _ mg "_law_at" G.Yz ["_law_thing","_law_place"] a d:=by
   refine' ⟨_,_,G.fn1 KX G0 ?e ?l ?g ?k (fun F=>F.binds (ps:=["_law_thing","_law_place"]) fun _ _ _ _ _ _ us hl=>match us,hl with | [_,_],_=>rfl)⟩
   (case e=>k_is)
   (case l=>k_is)
   (case g=>k_is)
   (case k=>k_is)
  obtain ⟨a31,d31,C31⟩:∃ a d,G.Fn _ mg "_law_put" G.UO ["_law_thing","_law_place","_law_new"] a d:=by
   refine' ⟨_,_,G.fn1 KX G0 ?e ?l ?g ?k (fun F=>F.binds (ps:=["_law_thing","_law_place","_law_new"]) fun _ _ _ _ _ _ us hl=>match us,hl with | [_,_,_],_=>rfl)⟩
   (case e=>k_is)
   (case l=>k_is)
   (case g=>k_is)
   (case k=>k_is)
  obtain ⟨a32,d32,C32⟩:∃ a d,G.Fn _ mg "_law_spoilt_thing" G.Jh ["_law_script","_law_at_here","_law_thing"] a d:=by
   refine' ⟨_,_,G.fn1 KX G0 ?e ?l ?g ?k (fun F=>F.binds (ps:=["_law_script","_law_at_here","_law_thing"]) fun _ _ _ _ _ _ us hl=>match us,hl with | [_,_,_],_=>rfl)⟩
   (case e=>k_is)
   (case l=>k_is)
   (case g=>k_is)
   (case k=>k_is)
  obtain ⟨a33,d33,C33⟩:∃ a d,G.Fn _ mg "_law_leaves" G.WA ["_law_worth"] a d:=by
   refine' ⟨_,_,G.fn1 KX G0 ?e ?l ?g ?k (fun F=>F.binds (ps:=["_law_worth"]) fun _ _ _ _ _ _ us hl=>match us,hl with | [_],_=>rfl)⟩
   (case e=>k_is)
   (case l=>k_is)
   (case g=>k_is)
   (case k=>k_is)
  obtain ⟨a34,d34,C34⟩:∃ a d,G.Fn _ mg "_law_keeps" G.ja ["_law_rule_here","_law_worth"] a d:=by
   refine' ⟨_,_,G.fn1 KX G0 ?e ?l ?g ?k (fun F=>F.binds (ps:=["_law_rule_here","_law_worth"]) fun _ _ _ _ _ _ us hl=>match us,hl with | [_,_],_=>rfl)⟩
   (case e=>k_is)
   (case l=>k_is)
   (case g=>k_is)
   (case k=>k_is)
  obtain ⟨a35,d35,C35,hB⟩:∃ a d,G.Fn _ mg "law" G.XD ["_law_script"] a d/\∀ (s:PySem.Shared) (v:PySem.Value),BindsTo s d ⟨[v],[]⟩ [("_law_script",v)]:=by
   refine' ⟨_,_,G.fn1 KX G0 ?e ?l ?g ?k (fun F=>F.binds (ps:=["_law_script"]) fun _ _ _ _ _ _ us hl=>match us,hl with | [_],_=>rfl),fun s v=> .of_eq rfl⟩
   (case e=>k_is)
   (case l=>k_is)
   (case g=>k_is)
   (case k=>k_is)
  refine' G.fin_ KX G0 hmg ⟨a0,d0,C0,a1,d1,C1,a2,d2,C2,a3,d3,C3,a4,d4,C4,a5,d5,C5,a6,d6,C6,a7,d7,C7,a8,d8,C8,a9,d9,C9,a10,d10,C10,a11,d11,C11,a12,d12,C12,a13,d13,C13,a14,d14,C14,a15,d15,C15,a16,d16,C16,a17,d17,C17,a18,d18,C18,a19,d19,C19,a20,d20,C20,a21,d21,C21,a22,d22,C22,a23,d23,C23,a24,d24,C24,a25,d25,C25,a26,d26,C26,a27,d27,C27,a28,d28,C28,a29,d29,C29,a30,d30,C30,a31,d31,C31,a32,d32,C32,a33,d33,C33,a34,d34,C34,a35,d35,C35,PySem.W.mg_none_of KX G0 (by k_is),PySem.W.mg_none_of KX G0 (by k_is),PySem.W.mg_none_of KX G0 (by k_is),PySem.W.mg_none_of KX G0 (by k_is),PySem.W.mg_none_of KX G0 (by k_is),PySem.W.mg_none_of KX G0 (by k_is),PySem.W.mg_none_of KX G0 (by k_is),PySem.W.mg_none_of KX G0 (by k_is),PySem.W.mg_none_of KX G0 (by k_is),PySem.W.mg_none_of KX G0 (by k_is),PySem.W.mg_none_of KX G0 (by k_is),PySem.W.mg_none_of KX G0 (by k_is),PySem.W.mg_none_of KX G0 (by k_is),PySem.W.mg_none_of KX G0 (by k_is),PySem.W.mg_none_of KX G0 (by k_is),PySem.W.mg_none_of KX G0 (by k_is),⟨_,PySem.W.mg_of KX G0 (by k_is),_,rfl⟩,⟨_,PySem.W.mg_of KX G0 (by k_is),_,rfl⟩⟩ hB ?n0 ?n1 ?n2 ?n3 ?n4 ?n5 ?n6 ?b0 ?b1 ?b2 ?b3 ?b4 ?b5 ?b6 ?b7 ?b8 ?b9
  (case n0=>k_is)
  (case n1=>k_is)
  (case n2=>k_is)
  (case n3=>k_is)
  (case n4=>k_is)
  (case n5=>k_is)
  (case n6=>k_is)
  (case b0=>kernel_rfl)
  (case b1=>kernel_rfl)
  (case b2=>kernel_rfl)
  (case b3=>kernel_rfl)
  (case b4=>kernel_rfl)
  (case b5=>kernel_rfl)
  (case b6=>kernel_rfl)
  (case b7=>kernel_rfl)
  (case b8=>kernel_rfl)
  (case b9=>kernel_rfl)
