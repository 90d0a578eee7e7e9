import PyProof.Rows.All
import Wide.All
import OpenK.AllK
import Wide.FinOn
import Lean
import PyProof.EqAt
import PyProof.EqKinds
import PyProof.TupleCall
import PyProof.NeKinds
import PyProof.WalksEnum
import PyProof.StrWalks
import PyProof.ExcAttrAll.ValueError
import PyProof.ZipIter
import KE.KRevIter
import PyProof.ListNew
import PyProof.WalksMore
import PyProof.ReprLoop
import PyProof.FactsAll.list
import PyProof.CollectIter
import PyProof.TupleOfGen
import PyProof.Draws
import PyProof.EnumMake
import PySem.Challenge.RW_worthkinds_k42_whole_implied
set_option maxHeartbeats 4000000
set_option Elab.async false
set_option linter.all false
set_option maxRecDepth 100000
namespace L2
open PySem PySem.Spec PyProof.Rows
noncomputable abbrev Key:=Sum Int Str
noncomputable def GK:Key->Value->Bool
 | .inl k,v=>Value.isInt k v
 | .inr x,v=>Value.isStrOf x v
noncomputable def keyH (w:World):Key->Int
 | .inl k=>hashInt k
 | .inr x=>hashStr w x
theorem Zp:∀ {k:Key} {v:Value},GK k v=true->(∃ i t,k=Sum.inl i/\v=Value.int i t)\/(∃ x t,k=Sum.inr x/\v=Value.str x t)
 | .inl i,v,h=>by
  obtain ⟨t,e⟩:=Value.isInt_shape (k:=i) (v:=v) h
  exact .inl ⟨i,t,rfl,e⟩
 | .inr x,v,h=>by
  obtain ⟨t,e⟩:=Value.isStrOf_shape (x:=x) (v:=v) h
  exact .inr ⟨x,t,rfl,e⟩
theorem GL (a b:Int):decide ((Sum.inl a:Key)=Sum.inl b)=(a == b):=by
 by_cases e:a=b
 ·subst e; simp
 ·have h:¬ (Sum.inl a:Key)=Sum.inl b:=fun q=>e (Sum.inl.inj q)
  rw [decide_eq_false h]
  exact (beq_eq_false_iff_ne.mpr e).symm
theorem GM (a b:Str):decide ((Sum.inr a:Key)=Sum.inr b)=decide (a=b):=by
 by_cases e:a=b
 ·subst e; simp
 ·have h:¬ (Sum.inr a:Key)=Sum.inr b:=fun q=>e (Sum.inr.inj q)
  rw [decide_eq_false h,decide_eq_false e]
theorem GN (a:Int) (b:Str):decide ((Sum.inl a:Key)=Sum.inr b)=false:=decide_eq_false (fun q=>nomatch q)
theorem GO (a:Str) (b:Int):decide ((Sum.inr a:Key)=Sum.inl b)=false:=decide_eq_false (fun q=>nomatch q)
noncomputable def qZ (prog:Program) (w:World):PySem.KeyKind prog w Key where
 is:=GK
 hash:=keyH w
 inj:=fun v a b ha hb=>by
  rcases Zp ha with ⟨i,t,rfl,rfl⟩ | ⟨x,t,rfl,rfl⟩
  ·rcases Zp hb with ⟨j,u,rfl,e⟩ | ⟨y,u,rfl,e⟩
   ·injection e with e1 _; rw [e1]
   ·exact nomatch e
  ·rcases Zp hb with ⟨j,u,rfl,e⟩ | ⟨y,u,rfl,e⟩
   ·exact nomatch e
   ·injection e with e1 _; rw [e1]
 byValue:=fun k v h=>by
  rcases Zp h with ⟨i,t,rfl,rfl⟩ | ⟨x,t,rfl,rfl⟩ <;> rfl
 pyHash:=fun hv h=>by
  rcases Zp hv with ⟨i,t,rfl,rfl⟩ | ⟨x,t,rfl,rfl⟩
  ·exact wpAny_pyHash_int h
  ·exact wpAny_pyHash_str h
 eqBool:=fun hu hv h=>by
  rcases Zp hu with ⟨i,t,rfl,rfl⟩ | ⟨x,t,rfl,rfl⟩
  ·rcases Zp hv with ⟨j,u,rfl,rfl⟩ | ⟨y,u,rfl,rfl⟩
   ·rw [GL] at h; exact wpAny_eqBool_int h
   ·rw [GN] at h; exact SeqAt.EqAt.int_str i t y u _ _ _ _ h
  ·rcases Zp hv with ⟨j,u,rfl,rfl⟩ | ⟨y,u,rfl,rfl⟩
   ·rw [GO] at h; exact SeqAt.EqAt.str_int x t j u _ _ _ _ h
   ·rw [GM] at h; exact wpAny_eqBool_str h
 «strs»:=fun k x t v h=>by
  rcases Zp h with ⟨i,u,rfl,e⟩ | ⟨y,u,rfl,e⟩
  ·exact nomatch e
  ·injection e with e1 _
   subst e1
   cases v <;> rfl
end L2
namespace L2
open PySem PySem.Spec PyProof.Rows
inductive V where
 | non | bl (b:Bool) | int (i:Int) | str (x:Str) | byt (b:Array UInt8) | flt (b:UInt64) | ref (a:Addr) | ty (n:String)
 deriving DecidableEq
noncomputable def jk:V->Value->Prop
 | .non,u=>u=Value.none
 | .bl b,u=>u=Value.bool b
 | .int i,u=>∃ t,u=Value.int i t
 | .str x,u=>∃ t,u=Value.str x t
 | .byt b,u=>∃ t,u=Value.bytes b t
 | .flt b,u=>∃ t,u=Value.float b t
 | .ref a,u=>u=Value.ref a
 | .ty n,u=>u=Value.type n
noncomputable abbrev ZD:List V->List Value->Prop:=Paired jk
theorem ZD.length {xs:List V} {us:List Value} (r:ZD xs us):xs.length=us.length:=Paired.length r
theorem ZD.get:∀ {xs:List V} {us:List Value} {i:Nat} {x:V},ZD xs us->xs[i]? =some x->∃ u,us[i]? =some u/\jk x u
 | _,_,_,_, .nil,e=>by simp at e
 | _,_,0,_, .cons r _,e=>by simp at e; subst e; exact ⟨_,rfl,r⟩
 | _,_,i+1,x, .cons _ t,e=>by
  obtain ⟨u,h1,h2⟩:=ZD.get (i:=i) (x:=x) t (by simpa using e)
  exact ⟨u,by simpa using h1,h2⟩
theorem ZD.append:∀ {xs ys:List V} {us ws:List Value},ZD xs us->ZD ys ws->ZD (xs++ys) (us++ws)
 | _,_,_,_, .nil,s=>s
 | _,_,_,_, .cons r t,s=> .cons r (ZD.append t s)
theorem ZD.take:∀ {xs:List V} {us:List Value} (n:Nat),ZD xs us->ZD (xs.take n) (us.take n)
 | _,_,0,_=> .nil
 | _,_,_+1, .nil=> .nil
 | _,_,n+1, .cons r t=> .cons r (ZD.take n t)
theorem ZD.drop:∀ {xs:List V} {us:List Value} (n:Nat),ZD xs us->ZD (xs.drop n) (us.drop n)
 | _,_,0,r=>r
 | _,_,_+1, .nil=> .nil
 | _,_,n+1, .cons _ t=>ZD.drop n t
noncomputable def z1B:Option V->Option Value->Prop
 | some v,some u=>jk v u
 | none,none=>True
 | _,_=>False
noncomputable def KV {κ:Type}:List (κ×V)->List (κ×Value)->Prop:=Paired fun (p:κ×V) (q:κ×Value)=>p.1=q.1/\jk p.2 q.2
noncomputable def kV:Key->V
 | .inl i=> .int i
 | .inr x=> .str x
inductive HO where
 | lst (xs:List V)
 | tup (xs:List V)
 | dK (kvs:List (Key×V)) | dT (kvs:List (List Key×V))
 | set (S:Int->Bool) (n:Nat)
 | ins (C dx:Addr) (fs:List (Str×V))
 | own (x:Addr)
 | xd (fs:List (Str×V))
 | met (f x:Addr)
 | rng (lo hi:Int)
 | frz (o:Obj) (u:HO)
 | tbl (ps:Array Value)
 | ext (φ:Heap->Prop)
noncomputable abbrev Hp:=Addr->Option HO
noncomputable def upd (H:Hp) (a:Addr) (o:HO):Hp:=fun b=>if b=a then some o else H b
theorem Zq {H:Hp} {a:Addr} {o:HO}:upd H a o a=some o:=by unfold upd; rw [if_pos rfl]
theorem zW {H:Hp} {a b:Addr} {o:HO} (h:b ≠ a):upd H a o b=H b:=by unfold upd; rw [if_neg h]
theorem Zb {H:Hp} {a b:Addr} {o:HO} (h:H a=some o) (h' :H b=none):a ≠ b:=by
 intro e; subst e; rw [h] at h'; cases h'
section
variable (P:Program) (w:World)
noncomputable def jl (H:Hp) (h:Heap) (a:Addr):HO->Prop
 | .lst xs=>xs.length<=sizeLine/\∃ (its:List Value) (n:Nat),ZD xs its/\h.get? a=some { cls:= .type "list",data:= .seq its.toArray n }
 | .tup xs=>xs.length<=sizeLine/\∃ its:List Value,ZD xs its/\IsTup h a its.toArray
 | .dK kvs=>kvs.length<=sizeLine/\(a == sysModules)=false/\∃ vs,KV kvs vs/\h.DictOf (qZ P w) a vs
 | .dT kvs=>kvs.length<=sizeLine/\(a == sysModules)=false/\∃ xs:List (List Key×Addr×Value),
   Paired (fun (p:List Key×V) (q:List Key×Addr×Value)=>p.1=q.1/\H q.2.1=some (.tup (p.1.map kV))/\jk p.2 q.2.2) kvs xs/\
   ∃ o es ep,h.get? a=some o/\o.ExactDict/\o.data= .dict es ep/\es.toList=xs.map (entryOfKey (tupleKind (qZ P w)))/\(xs.map (·.1)).Nodup
 | .set S n=>h.SetOf (intKind P w) a S n
 | .ins C dx fs=>H dx=some (.own a)/\fs.length<=1000/\dx ≠ a/\h.get? a=some (PySem.W.instObj C dx)/\
   ∃ mA,h.Ns1 dx mA/\(∀ f,z1B (fs.lookup f) (mA f))/\PySem.Within mA (fs.map (·.1))
 | .own _=>∃ o,h.get? a=some o
 | .xd fs=>∃ mA,h.Ns1 a mA/\∀ f,z1B (fs.lookup f) (mA f)
 | .rng lo hi=>∃ t u v,h.get? a=some { cls:= .type "range",data:= .fields #[.int lo t, .int hi u, .int 1 v] }
 | .frz o u=>h.get? a=some o/\jl H h a u
 | .tbl ps=>h.get? a=some { cls:= .none,data:= .fields ps }
 | .met f x=>h.get? a=some (PySem.W.methodObj (.ref f) (.ref x))
 | .ext φ=>φ h/\(∃ o,h.get? a=some o)/\∀ h1 h2:Heap,φ h1->(∀ o,h1.get? a=some o->h2.get? a=some o)->φ h2
noncomputable def HOk (H:Hp) (h:Heap):Prop:=∀ a o,H a=some o->jl P w H h a o
end
section
variable {P:Program} {w:World} {H H' :Hp} {h h' :Heap} {a:Addr} {o:HO}
theorem jl.lt (x:jl P w H h a o):a < h.objs.size:=by
 cases o with
 | lst xs=>obtain ⟨_,_,_,_,e⟩:=x; exact Heap.lt_size e
 | tup xs=>obtain ⟨_,_,_,p⟩:=x; exact p.lt
 | dK kvs=>obtain ⟨_,_,_,_,o,_,_,e,_⟩:=x; exact Heap.lt_size e
 | dT kvs=>obtain ⟨_,_,_,_,o,_,_,e,_⟩:=x; exact Heap.lt_size e
 | set S n=>obtain ⟨o,_,_,_,e,_⟩:=x; exact Heap.lt_size e
 | ins C dx fs=>obtain ⟨_,_,_,e,_⟩:=x; exact Heap.lt_size e
 | own y=>obtain ⟨_,e⟩:=x; exact Heap.lt_size e
 | xd fs=>obtain ⟨_,⟨_,_,_,e,_⟩,_⟩:=x; exact Heap.lt_size e
 | rng lo hi=>obtain ⟨_,_,_,e⟩:=x; exact Heap.lt_size e
 | frz ob u=>obtain ⟨e,_⟩:=x; exact Heap.lt_size e
 | tbl ps=>exact Heap.lt_size (show h.get? a=some _ from x)
 | met f y=>exact Heap.lt_size (show h.get? a=some _ from x)
 | ext φ=>obtain ⟨_,⟨_,e⟩,_⟩:=x; exact Heap.lt_size e
theorem Paired.mapP {α β:Type} {F G:α->β->Prop}:∀ {l₁:List α} {l₂:List β},Paired F l₁ l₂->(∀ a b,F a b->G a b)->Paired G l₁ l₂
 | _,_, .nil,_=> .nil
 | _,_, .cons r t,f=> .cons (f _ _ r) (Paired.mapP t f)
theorem jl.stay (x:jl P w H h a o) (k:∀ b u,(b=a\/H b=some (.own a))->h.get? b=some u->h'.get? b=some u)
  (ho:∀ b,H b=some (.own a)->H' b=some (.own a)) (ht:∀ b xs,H b=some (.tup xs)->H' b=some (.tup xs)):jl P w H' h' a o:=by
 induction o with
 | lst xs=>obtain ⟨z,its,n,r,e⟩:=x; exact ⟨z,its,n,r,k _ _ (.inl rfl) e⟩
 | tup xs=>obtain ⟨z,its,r,ob,e,c⟩:=x; exact ⟨z,its,r,ob,k _ _ (.inl rfl) e,c⟩
 | dK kvs=>obtain ⟨z,y,vs,r,ob,es,ep,e,c⟩:=x; exact ⟨z,y,vs,r,ob,es,ep,k _ _ (.inl rfl) e,c⟩
 | dT kvs=>
  obtain ⟨z,y,xs,r,ob,es,ep,e,c⟩:=x
  exact ⟨z,y,xs,Paired.mapP r fun p q z=>⟨z.1,ht _ _ z.2.1,z.2.2⟩,ob,es,ep,k _ _ (.inl rfl) e,c⟩
 | set S n=>obtain ⟨ob,es,ep,t,e,c⟩:=x; exact ⟨ob,es,ep,t,k _ _ (.inl rfl) e,c⟩
 | ins C dx fs=>
  obtain ⟨d,z,ne,e,mA,⟨od,es,ep,e2,c⟩,r⟩:=x
  exact ⟨ho _ d,z,ne,k _ _ (.inl rfl) e,mA,⟨od,es,ep,k _ _ (.inr d) e2,c⟩,r⟩
 | own y=>obtain ⟨ob,e⟩:=x; exact ⟨ob,k _ _ (.inl rfl) e⟩
 | xd fs=>obtain ⟨mA,⟨od,es,ep,e,c⟩,r⟩:=x; exact ⟨mA,⟨od,es,ep,k _ _ (.inl rfl) e,c⟩,r⟩
 | rng lo hi=>obtain ⟨t,u,v,e⟩:=x; exact ⟨t,u,v,k _ _ (.inl rfl) e⟩
 | frz ob u ih=>obtain ⟨e,q⟩:=x; exact ⟨k _ _ (.inl rfl) e,ih q⟩
 | tbl ps=>
  have e:h.get? a=some { cls:= .none,data:= .fields ps }:=x
  show h'.get? a=some { cls:= .none,data:= .fields ps }
  exact k a _ (.inl rfl) e
 | met f y=>
  have e:h.get? a=some (PySem.W.methodObj (.ref f) (.ref y)):=x
  show h'.get? a=some (PySem.W.methodObj (.ref f) (.ref y))
  exact k a _ (.inl rfl) e
 | ext φ=>obtain ⟨p,⟨o,e⟩,st⟩:=x; exact ⟨st _ _ p fun o q=>k _ _ (.inl rfl) q,⟨o,k _ _ (.inl rfl) e⟩,st⟩
theorem HOk.lt (x:HOk P w H h) (e:H a=some o):a < h.objs.size:=(x a o e).lt
theorem HOk.fresh (x:HOk P w H h) (e:h.objs.size<=a):H a=none:=by
 cases q:H a with
 | none=>rfl
 | some u=>exact absurd (Nat.lt_of_lt_of_le (x.lt q) e) (Nat.lt_irrefl _)
theorem HOk.kept (x:HOk P w H h) (k:∀ b u,h.get? b=some u->h'.get? b=some u):HOk P w H h' :=fun a o e=>
 (x a o e).stay (fun b u _ q=>k b u q) (fun _ q=>q) fun _ _ q=>q
theorem HOk.laid (x:HOk P w H h) (k:∀ b u,h.get? b=some u->h'.get? b=some u) (hp:h.objs.size<=a) (new:jl P w (upd H a o) h' a o):HOk P w (upd H a o) h' :=fun b u e=>by
 have hn:=x.fresh hp
 by_cases hb:b=a
 ·subst hb; rw [Zq] at e; cases e; exact new
 ·rw [zW hb] at e
  exact (x b u e).stay (fun c v _ q=>k c v q) (fun c q=>by rw [zW (Zb q hn)]; exact q) fun c xs q=>by rw [zW (Zb q hn)]; exact q
end
noncomputable def Rd (H:Hp) (a:Addr) (u:HO):Prop:=H a=some u\/∃ o,H a=some (.frz o u)
theorem Rd.ok {P:Program} {w:World} {H:Hp} {h:Heap} {a:Addr} {u:HO} (r:Rd H a u) (x:HOk P w H h):jl P w H h a u:=by
 rcases r with r | ⟨o,r⟩
 ·exact x a u r
 ·obtain ⟨_,q⟩:=x a _ r
  exact q
noncomputable def Mut:Option HO->Prop
 | some (.lst _)=>True
 | some (.dK _)=>True
 | some (.dT _)=>True
 | some (.set _ _)=>True
 | some (.ins _ _ _)=>True
 | some (.ext _)=>True
 | _=>False
section
variable {P:Program} {w:World} {H:Hp} {h h' :Heap} {x e:Addr} {o' :HO}
theorem HOk.write (ok:HOk P w H h) (mu:Mut (H x)) (he:e=x\/H e=some (.own x)) (k:∀ b u,b ≠ e->h.get? b=some u->h'.get? b=some u) (heo:∃ u,h'.get? e=some u)
  (new:jl P w (upd H x o') h' x o'):HOk P w (upd H x o') h' :=fun b u q=>by
 have nown:∀ c y,H c=some (.own y)->c ≠ x:=fun c y r z=>by subst z; rw [r] at mu; exact mu
 have ntup:∀ c xs,H c=some (.tup xs)->c ≠ x:=fun c xs r z=>by subst z; rw [r] at mu; exact mu
 by_cases hb:b=x
 ·subst hb; rw [Zq] at q; cases q; exact new
 ·rw [zW hb] at q
  by_cases hbe:b=e
  ·have q' :H b=some (.own x):=by
    rcases he with z | z
    ·exact absurd (hbe.trans z) hb
    ·rw [hbe]; exact z
   rw [q] at q'; cases q'
   obtain ⟨v,hv⟩:=heo
   exact ⟨v,by rw [hbe]; exact hv⟩
  ·refine (ok b u q).stay (fun c v hc r=>k c v ?_ r) (fun c r=>by rw [zW (nown c b r)]; exact r) fun c xs r=>by rw [zW (ntup c xs r)]; exact r
   rcases hc with rfl | hc
   ·exact hbe
   ·rintro rfl
    rcases he with z | z
    ·exact nown c b hc z
    ·rw [hc] at z; cases z; exact hb rfl
end
structure Un (fs ex:List Addr) (H H' :Hp) (h h' :Heap):Prop where
 keep:∀ b o,h.get? b=some o->H b=none->b ∉ fs->b ∉ ex->h'.get? b=some o
 slot:∀ b o,h.get? b=some o->H b=none->b∈fs->b ∉ ex->∃ sl,h'.get? b=some { o with slots:=sl }
 free:∀ b o,h.get? b=some o->H b=none->b ∉ ex->H' b=none
 there:∀ b o,h.get? b=some o->b ∉ ex->∃ o',h'.get? b=some o'
 tups:∀ b xs,H b=some (.tup xs)->H' b=some (.tup xs)
 frzs:∀ b o u,H b=some (.frz o u)->H' b=some (.frz o u)
 tbls:∀ b ps,H b=some (.tbl ps)->∃ more,H' b=some (.tbl (ps++more))
section
variable {fs fs' ex ex' :List Addr} {H H1 H2:Hp} {h h1 h2 h' :Heap} {a x e:Addr} {o:HO}
theorem Un.any (u:Un fs ex H H1 h h1) {b:Addr} {ob:Obj} (q:h.get? b=some ob) (n:H b=none) (hx:b ∉ ex):∃ sl,h1.get? b=some { ob with slots:=sl }:=by
 by_cases hb:b∈fs
 ·exact u.slot b ob q n hb hx
 ·exact ⟨ob.slots,u.keep b ob q n hb hx⟩
theorem Un.kept (k:∀ b u,h.get? b=some u->h'.get? b=some u):Un fs ex H H h h' :=
 ⟨fun b ob q _ _ _=>k b ob q,fun b ob q _ _ _=>⟨ob.slots,k b ob q⟩,fun _ _ _ n _=>n,fun b ob q _=>⟨ob,k b ob q⟩,fun _ _ q=>q,fun _ _ _ q=>q,fun _ ps q=>⟨#[],by rw [q]; simp⟩⟩
theorem Un.refl:Un fs ex H H h h:=Un.kept fun _ _ q=>q
theorem Un.laid (k:∀ b u,h.get? b=some u->h'.get? b=some u) (hp:h.objs.size<=a) (hn:H a=none):Un fs ex H (upd H a o) h h' where
 keep:=fun b u q _ _ _=>k b u q
 slot:=fun b u q _ _ _=>⟨u.slots,k b u q⟩
 free:=fun b u q n _=>by rw [zW (Nat.ne_of_lt (Nat.lt_of_lt_of_le (Heap.lt_size q) hp))]; exact n
 there:=fun b u q _=>⟨u,k b u q⟩
 tups:=fun b xs q=>by rw [zW (Zb q hn)]; exact q
 frzs:=fun b u xs q=>by rw [zW (Zb q hn)]; exact q
 tbls:=fun b ps q=>⟨#[],by rw [zW (Zb q hn),q]; simp⟩
theorem Un.write (mu:Mut (H x)) (he:e=x\/H e=some (.own x)) (k:∀ b u,b ≠ e->h.get? b=some u->h'.get? b=some u) (heo:∃ u,h'.get? e=some u):Un fs ex H (upd H x o) h h' :=by
 have hx:∀ b,H b=none->b ≠ x:=fun b n z=>by subst z; rw [n] at mu; exact mu
 have hb:∀ b,H b=none->b ≠ e:=fun b n z=>by
  subst z
  rcases he with r | r
  ·exact hx b n r
  ·rw [n] at r; cases r
 have hm:∀ b u,H b=some u->¬ Mut (some u)->b ≠ x:=fun b u q nm z=>by subst z; rw [q] at mu; exact nm mu
 refine ⟨fun b u q n _ _=>k b u (hb b n) q,fun b u q n _ _=>⟨u.slots,k b u (hb b n) q⟩,fun b u q n _=>by rw [zW (hx b n)]; exact n,fun b u q _=> ?_,
  fun b xs q=>by rw [zW (hm b _ q fun z=>z)]; exact q,fun b u xs q=>by rw [zW (hm b _ q fun z=>z)]; exact q,fun b ps q=>⟨#[],by rw [zW (hm b _ q fun z=>z),q]; simp⟩⟩
 by_cases hbe:b=e
 ·subst hbe; exact heo
 ·exact ⟨u,k b u hbe q⟩
end
noncomputable def trk (h:Heap) (H:Hp):List Addr:=(List.range h.objs.size).filter fun a=>(H a).isSome
noncomputable def XR (h:Heap) (H:Hp):Heap:=PySem.W.hideAll h (trk h H)
theorem Vw (h:Heap) (H:Hp):(XR h H).objs.size=h.objs.size:=PySem.W.hideAll_size _ _
theorem XS {h:Heap} {H:Hp} {b:Addr} {o:Obj} (e:h.get? b=some o) (n:H b=none):(XR h H).get? b=some o:=
 PySem.W.hideAll_get _ e fun hm=>by
  have q:(H b).isSome=true:=(List.mem_filter.mp hm).2
  rw [n] at q; simp at q
theorem KH {h:Heap} {H:Hp} {b:Addr} {o:Obj} (e:(XR h H).get? b=some o):h.get? b=some o/\H b=none:=by
 have e' :h.get? b=some o:=PySem.W.of_hideAll (trk h H) e
 refine ⟨e', ?_⟩
 cases q:H b with
 | none=>rfl
 | some x=>
  have hm:b∈trk h H:=List.mem_filter.mpr ⟨List.mem_range.mpr (Heap.lt_size e'),by simp [q]⟩
  have z:(XR h H).get? b=none:=PySem.W.hideAll_none (trk h H) hm
  rw [z] at e; cases e
end L2
namespace L2
open PySem PySem.Spec PyProof.Rows
structure Mod (K:PySem.W.Frag) (mg:Str->Option Value) (base:Heap):Prop where
 kin:K.In base
 glob:base.Ns mainGlobals mg
 blt:∃ mb,base.Ns builtinsNs mb/\∀ x:Str,x ≠ "__name__"->mb x=bootBuiltins x
 nolimit:base.NoLimit
structure Cx where
 prog:Program
 w:World
 K:PySem.W.Frag
 mg:Str->Option Value
 base:Heap
 A:Around
 N:List Str
 s₀:Shared
 H₀:Hp
 env:Env
 outer:List Env
 stack:List Env
 ex:List Addr
 fn:Str->Bool
 calm:Bool
 pn:List (Addr×Obj)
 xe:Value->Shared->Prop
noncomputable def frs (l:List Env):List Addr:=l.filterMap (·.frame)
noncomputable abbrev Cx.fs (X:Cx):List Addr:=frs X.outer
noncomputable def Vis (sc:Scope) (x:Str):Prop:=sc.names.lookup x=some .local\/sc.names.lookup x=some .cell\/sc.names.lookup x=some .free
noncomputable def Loc (sc:Scope) (x:Str):Prop:=sc.names.lookup x=some .local\/sc.names.lookup x=some .cell
noncomputable def Look (env:Env) (h:Heap) (m:Str->Option Value) (x:Str) (u:Value):Prop:=
 (env.kindOf x=some .local/\m x=some u)\/((env.kindOf x=some .cell\/env.kindOf x=some .free)/\∃ c,env.cells.lookup x=some c/\h.IsCell c (some u))
structure Cx.Ok (X:Cx):Prop where
 mod:Mod X.K X.mg X.base
 kind:X.env.scope.kind= .function
 glob:X.env.globals=mainGlobals
 blt:X.env.builtins=builtinsNs
 above:X.s₀.heap.objs.size<=X.env.locals
 inj:∀ x y c,X.env.cells.lookup x=some c->X.env.cells.lookup y=some c->x=y
 has:∀ x,(X.env.kindOf x=some .cell\/X.env.kindOf x=some .free)->∃ c,X.env.cells.lookup x=some c
 cab:∀ x c,X.fn x=true->X.env.cells.lookup x=some c->X.s₀.heap.objs.size<=c
 hd:X.calm=true->X.A.handled=none
 frames:X.A.frames=some X.stack
 stk:X.stack=X.outer\/(X.stack=X.env :: X.outer/\X.env.frame=some X.env.locals)
 exf:∀ b∈X.ex,b ≠ X.env.locals/\∀ x c,X.env.cells.lookup x=some c->c ≠ b
 bs:∀ b o,X.base.get? b=some o->X.s₀.heap.get? b=some o/\X.H₀ b=none
 bsz:X.base.objs.size<=X.s₀.heap.objs.size
 noex:∀ b o,X.base.get? b=some o->b ∉ X.ex
 exfs:∀ b∈X.ex,b ∉ X.fs
 funs:X.s₀.heap.FunFrames X.base X.outer
 frf:∀ b∈X.fs,X.H₀ b=none
structure Inv (X:Cx) (pins:List (Addr×Obj)) (σ:List (Option V)) (H:Hp) (s:Shared):Prop where
 ok:X.Ok
 os:s.os=X.s₀.os
 bare:AllBare s.gens
 base:Un X.fs X.ex X.H₀ H X.s₀.heap s.heap
 loc:∃ m,s.heap.Ns X.env.locals m/\∀ (i:Nat) (x:Str) (v:V),X.N[i]? =some x->σ[i]? =some (some v)->Vis X.env.scope x->∃ u,jk v u/\Look X.env s.heap m x u
 cell:∀ x c,X.env.cells.lookup x=some c->∃ v,s.heap.IsCell c v
 free:H X.env.locals=none
 freeC:∀ x c,X.env.cells.lookup x=some c->H c=none
 pin:∀ p∈X.pn++pins,s.heap.get? p.1=some p.2/\H p.1=none/\p.1 ≠ X.env.locals/\p.1 ∉ X.fs/\∀ v,p.2.data ≠ .cell v
 hok:HOk X.prog X.w H s.heap
 len:σ.length=X.N.length
section
variable {X:Cx} {pins:List (Addr×Obj)} {σ:List (Option V)} {H H' :Hp} {s:Shared} {h' :Heap}
theorem Cx.Ok.nofr (ok:X.Ok) {b:Addr} {o:Obj} (e:X.base.get? b=some o):b ∉ X.fs:=fun hb=>by
 have:=(ok.funs.mem hb).1
 rw [e] at this; cases this
theorem Inv.bs (I:Inv X pins σ H s):∀ b o,X.base.get? b=some o->s.heap.get? b=some o/\H b=none:=fun b o e=>
 ⟨I.base.keep b o (I.ok.bs b o e).1 (I.ok.bs b o e).2 (I.ok.nofr e) (I.ok.noex b o e),I.base.free b o (I.ok.bs b o e).1 (I.ok.bs b o e).2 (I.ok.noex b o e)⟩
theorem Inv.bk (I:Inv X pins σ H s):∀ b o,X.base.get? b=some o->s.heap.get? b=some o:=fun b o e=>(I.bs b o e).1
theorem Inv.mod (I:Inv X pins σ H s):Mod X.K X.mg X.base:=I.ok.mod
theorem Inv.kIn (I:Inv X pins σ H s):X.K.In s.heap:=I.ok.mod.kin.keeps I.bk
theorem Inv.lt (I:Inv X pins σ H s):X.env.locals < s.heap.objs.size:=let ⟨_,hn,_⟩:=I.loc; hn.lt
theorem Inv.sz (I:Inv X pins σ H s):X.s₀.heap.objs.size<=s.heap.objs.size:=Nat.le_trans I.ok.above (Nat.le_of_lt I.lt)
theorem Inv.nofs (I:Inv X pins σ H s) {a:Addr} (h:s.heap.objs.size<=a):a ∉ X.fs:=fun hb=>by
 obtain ⟨_,o,ho,_⟩:=I.ok.funs.mem hb
 exact absurd (Nat.lt_of_lt_of_le (Heap.lt_size ho) (Nat.le_trans I.sz h)) (Nat.lt_irrefl _)
theorem Inv.cne (I:Inv X pins σ H s):∀ x c,X.env.cells.lookup x=some c->c ≠ X.env.locals:=fun x c e z=>by
 obtain ⟨v,o,ho,hd⟩:=I.cell x c e
 obtain ⟨m,⟨o',es,ep,ho',hd',_⟩,_⟩:=I.loc
 rw [z,ho'] at ho; cases ho; rw [hd'] at hd; cases hd
theorem Inv.funs (I:Inv X pins σ H s):s.heap.FunFrames X.base X.outer:=by
 have all:∀ (l:List Env),(∀ b∈frs l,b∈X.fs)->X.s₀.heap.FunFrames X.base l->s.heap.FunFrames X.base l:=by
  intro l
  induction l with
  | nil=>intro _ _; trivial
  | cons env r ih=>
   intro hs hl
   obtain ⟨hk,⟨L,o,hf,hn,ho,hd⟩,hr⟩:=hl
   have hL:L∈X.fs:=hs L (by unfold frs; rw [List.filterMap_cons,hf]; exact List.mem_cons_self)
   obtain ⟨sl,e⟩:=I.base.slot L o ho (I.ok.frf L hL) hL fun z=>I.ok.exfs L z hL
   exact ⟨hk,⟨L,_,hf,hn,e,hd⟩,ih (fun b hb=>hs b (by unfold frs; rw [List.filterMap_cons,hf]; exact List.mem_cons_of_mem _ hb)) hr⟩
 exact all X.outer (fun _ hb=>hb) I.ok.funs
theorem Inv.stack (I:Inv X pins σ H s):s.heap.FunFrames X.base X.stack:=by
 rcases I.ok.stk with e | ⟨e,hf⟩
 ·rw [e]; exact I.funs
 ·rw [e]
  obtain ⟨m,hn,_⟩:=I.loc
  refine .cons (by rw [I.ok.kind]; decide) hf hn ?_ I.funs
  exact Heap.get?_none_of_le (Nat.le_trans I.ok.bsz I.ok.above)
theorem Inv.stkSub (I:Inv X pins σ H s):∀ b∈frs X.stack,b∈X.env.locals :: X.fs:=fun b hb=>by
 rcases I.ok.stk with e | ⟨e,hf⟩
 ·rw [e] at hb; exact List.mem_cons_of_mem _ hb
 ·rw [e] at hb
  unfold frs at hb
  rw [List.filterMap_cons,hf] at hb
  exact hb
theorem Inv.stkFree (I:Inv X pins σ H s):∀ b∈frs X.stack,H b=none:=fun b hb=>by
 rcases List.mem_cons.mp (I.stkSub b hb) with e | hb
 ·rw [e]; exact I.free
 ·obtain ⟨_,o,ho,_⟩:=I.ok.funs.mem hb
  exact I.base.free b o ho (I.ok.frf b hb) fun z=>I.ok.exfs b z hb
theorem Inv.step {g' :Array GenState} {t' :Nat} {d' :Drawn} {ch:List Addr} (I:Inv X pins σ H s)
  (hch:∀ b∈ch,(b∈X.ex\/X.s₀.heap.objs.size<=b)/\b ≠ X.env.locals/\(∀ x c,X.env.cells.lookup x=some c->c ≠ b)/\∀ p∈X.pn++pins,p.1 ≠ b)
  (keep:∀ b o,b ≠ X.env.locals->b ∉ X.fs->b ∉ ch->s.heap.get? b=some o->H b=none->h'.get? b=some o)
  (slot:∀ b o,b ≠ X.env.locals->b∈X.fs->b ∉ ch->s.heap.get? b=some o->H b=none->∃ sl,h'.get? b=some { o with slots:=sl }) (free:∀ b o,b ∉ ch->s.heap.get? b=some o->H b=none->H' b=none)
  (there:∀ b o,b ∉ ch->s.heap.get? b=some o->∃ o',h'.get? b=some o')
  (tups:∀ b xs,H b=some (.tup xs)->H' b=some (.tup xs)) (frzs:∀ b o u,H b=some (.frz o u)->H' b=some (.frz o u)) (tbls:∀ b ps,H b=some (.tbl ps)->∃ more,H' b=some (.tbl (ps++more)))
  (ns:∀ m,s.heap.Ns X.env.locals m->h'.Ns X.env.locals m) (hok:HOk X.prog X.w H' h') (hg:AllBare g'):
  Inv X pins σ H' { s with heap:=h',gens:=g',drawn:=d',toks:=t' }:=by
 have neL:∀ b o,X.s₀.heap.get? b=some o->b ≠ X.env.locals:=fun b o e=>Nat.ne_of_lt (Nat.lt_of_lt_of_le (Heap.lt_size e) I.ok.above)
 have neC:∀ b o,X.s₀.heap.get? b=some o->b ∉ X.ex->b ∉ ch:=fun b o e hx hb=>by
  rcases (hch b hb).1 with z | z
  ·exact hx z
  ·exact absurd (Nat.lt_of_lt_of_le (Heap.lt_size e) z) (Nat.lt_irrefl _)
 have cellK:∀ x c,X.env.cells.lookup x=some c->∀ v,s.heap.IsCell c v->h'.IsCell c v:=fun x c e v ⟨o,ho,hd⟩=>by
  have nch:c ∉ ch:=fun z=>(hch c z).2.2.1 x c e rfl
  by_cases hc:c∈X.fs
  ·obtain ⟨sl,q⟩:=slot c o (I.cne x c e) hc nch ho (I.freeC x c e)
   exact ⟨_,q,hd⟩
  ·exact ⟨o,keep c o (I.cne x c e) hc nch ho (I.freeC x c e),hd⟩
 refine ⟨I.ok,I.os,hg,⟨fun b o e n hb hx=> ?_,fun b o e n hb hx=> ?_,fun b o e n hx=> ?_,fun b o e hx=> ?_,fun b xs e=>tups b xs (I.base.tups b xs e),fun b o xs e=>frzs b o xs (I.base.frzs b o xs e),fun b ps e=> ?_⟩, ?_,fun x c e=> ?_, ?_,fun x c e=> ?_,fun p hp=> ?_,hok,I.len⟩
 ·exact keep b o (neL b o e) hb (neC b o e hx) (I.base.keep b o e n hb hx) (I.base.free b o e n hx)
 ·obtain ⟨sl,e1⟩:=I.base.slot b o e n hb hx
  obtain ⟨sl',e2⟩:=slot b _ (neL b o e) hb (neC b o e hx) e1 (I.base.free b o e n hx)
  exact ⟨sl',e2⟩
 ·obtain ⟨o',e1⟩:=I.base.there b o e hx
  exact free b o' (neC b o e hx) e1 (I.base.free b o e n hx)
 ·obtain ⟨o',e1⟩:=I.base.there b o e hx
  exact there b o' (neC b o e hx) e1
 ·obtain ⟨m1,e1⟩:=I.base.tbls b ps e
  obtain ⟨m2,e2⟩:=tbls b _ e1
  exact ⟨m1++m2,by rw [e2,Array.append_assoc]⟩
 ·obtain ⟨m,hn,hl⟩:=I.loc
  refine ⟨m,ns m hn,fun i x v e1 e2 e3=> ?_⟩
  obtain ⟨u,r,l⟩:=hl i x v e1 e2 e3
  refine ⟨u,r, ?_⟩
  rcases l with l | ⟨k,c,e,z⟩
  ·exact .inl l
  ·exact .inr ⟨k,c,e,cellK x c e _ z⟩
 ·obtain ⟨v,z⟩:=I.cell x c e
  exact ⟨v,cellK x c e v z⟩
 ·obtain ⟨m,⟨o,_,_,ho,_⟩,_⟩:=I.loc
  exact free _ o (fun z=>(hch _ z).2.1 rfl) ho I.free
 ·obtain ⟨v,o,ho,hd⟩:=I.cell x c e
  exact free c o (fun z=>(hch c z).2.2.1 x c e rfl) ho (I.freeC x c e)
 ·obtain ⟨e,n,ne,nf,d⟩:=I.pin p hp
  have nch:p.1 ∉ ch:=fun z=>(hch p.1 z).2.2.2 p hp rfl
  exact ⟨keep p.1 p.2 ne nf nch e n,free p.1 p.2 nch e n,ne,nf,d⟩
theorem Inv.un {t' :Nat} (I:Inv X pins σ H s) (u:Un X.fs [] H H' s.heap h') (hok:HOk X.prog X.w H' h'):Inv X pins σ H' { s with heap:=h',toks:=t' }:=by
 obtain ⟨m,⟨o,es,ep,ho,r⟩,_⟩:=id I.loc
 obtain ⟨sl,hL⟩:=u.any ho I.free (by simp)
 exact I.step (g' :=s.gens) (d' :=s.drawn) (ch:=[]) (fun _ z=>nomatch z) (fun b o _ hb _ e n=>u.keep b o e n hb (by simp)) (fun b o _ hb _ e n=>u.slot b o e n hb (by simp)) (fun b o _ e n=>u.free b o e n (by simp)) (fun b o _ e=>u.there b o e (by simp)) u.tups u.frzs u.tbls (fun m' hm=>by
  obtain ⟨o',es',ep',ho',r'⟩:=hm
  rw [ho] at ho'; cases ho'
  exact ⟨_,es',ep',hL,r'⟩) hok I.bare
theorem Inv.call {g' :Array GenState} {t' :Nat} {d' :Drawn} {ch:List Addr} (I:Inv X pins σ H s) (u:Un (frs X.stack) ch H H' s.heap h') (hok:HOk X.prog X.w H' h') (hg:AllBare g')
  (hch:∀ b∈ch,(b∈X.ex\/X.s₀.heap.objs.size<=b)/\b ≠ X.env.locals/\(∀ x c,X.env.cells.lookup x=some c->c ≠ b)/\∀ p∈X.pn++pins,p.1 ≠ b):
  Inv X pins σ H' { s with heap:=h',gens:=g',drawn:=d',toks:=t' }:=by
 obtain ⟨m,⟨o,es,ep,ho,r⟩,_⟩:=id I.loc
 obtain ⟨sl,hL⟩:=u.any ho I.free fun z=>(hch _ z).2.1 rfl
 exact I.step (ch:=ch) hch (fun b o hL hb hc e n=>u.keep b o e n (fun z=>(List.mem_cons.mp (I.stkSub b z)).elim hL hb) hc) (fun b o _ _ hc e n=>u.any e n hc) (fun b o hc e n=>u.free b o e n hc) (fun b o hc e=>u.there b o e hc) u.tups u.frzs u.tbls (fun m' hm=>by
  obtain ⟨o',es',ep',ho',r'⟩:=hm
  rw [ho] at ho'; cases ho'
  exact ⟨_,es',ep',hL,r'⟩) hok hg
theorem Inv.turned {t' :Nat} {it:Addr} (I:Inv X pins σ H s) (k:∀ b o,b ≠ it->s.heap.get? b=some o->h'.get? b=some o) (hn:H it=none) (hL:it ≠ X.env.locals)
  (h1:it∈X.ex\/X.s₀.heap.objs.size<=it) (h2:∀ x c,X.env.cells.lookup x=some c->c ≠ it) (h3:∀ p∈X.pn++pins,p.1 ≠ it):Inv X pins σ H { s with heap:=h',toks:=t' }:=by
 have nit:∀ b u,H b=some u->b ≠ it:=fun b u e z=>by rw [z,hn] at e; cases e
 refine I.step (g' :=s.gens) (d' :=s.drawn) (ch:=[it]) (fun b hb=> ?_) (fun b o _ _ hc e _=>k b o (fun z=>hc (by simp [z])) e) (fun b o _ _ hc e _=>⟨o.slots,k b o (fun z=>hc (by simp [z])) e⟩) (fun _ _ _ _ n=>n)
  (fun b o hc e=>⟨o,k b o (fun z=>hc (by simp [z])) e⟩) (fun _ _ e=>e) (fun _ _ _ e=>e) (fun b ps e=>⟨#[],by rw [e]; simp⟩) (fun m hm=> ?_) (fun b u e=> ?_) I.bare
 ·have e:b=it:=by simpa using hb
  subst e
  exact ⟨h1,hL,h2,h3⟩
 ·obtain ⟨o,es,ep,ho,r⟩:=hm
  exact ⟨o,es,ep,k _ o (Ne.symm hL) ho,r⟩
 ·refine (I.hok b u e).stay (fun c v hc q=>k c v ?_ q) (fun _ q=>q) fun _ _ q=>q
  rcases hc with z | z
  ·rw [z]; exact nit b u e
  ·exact nit c _ z
theorem Inv.tok (I:Inv X pins σ H s) (t:Nat):Inv X pins σ H { s with toks:=t }:=I.un (h' :=s.heap) (t' :=t) Un.refl I.hok
theorem Inv.kept {t' :Nat} (I:Inv X pins σ H s) (k:∀ b u,s.heap.get? b=some u->h'.get? b=some u):Inv X pins σ H { s with heap:=h',toks:=t' }:=I.un (Un.kept k) (I.hok.kept k)
theorem Inv.laid {a:Addr} {o:HO} {t' :Nat} (I:Inv X pins σ H s) (k:∀ b u,s.heap.get? b=some u->h'.get? b=some u) (hp:s.heap.objs.size<=a) (new:jl X.prog X.w (upd H a o) h' a o):
  Inv X pins σ (upd H a o) { s with heap:=h',toks:=t' }:=I.un (Un.laid k hp (I.hok.fresh hp)) (I.hok.laid k hp new)
theorem Inv.write {x e:Addr} {o:HO} {t' :Nat} (I:Inv X pins σ H s) (mu:Mut (H x)) (he:e=x\/H e=some (.own x)) (k:∀ b u,b ≠ e->s.heap.get? b=some u->h'.get? b=some u) (heo:∃ u,h'.get? e=some u)
  (new:jl X.prog X.w (upd H x o) h' x o):Inv X pins σ (upd H x o) { s with heap:=h',toks:=t' }:=I.un (Un.write mu he k heo) (I.hok.write mu he k heo new)
theorem Inv.pins_of {pins' :List (Addr×Obj)} (I:Inv X pins σ H s) (h:∀ p∈pins',s.heap.get? p.1=some p.2/\H p.1=none/\p.1 ≠ X.env.locals/\p.1 ∉ X.fs/\∀ v,p.2.data ≠ .cell v):Inv X pins' σ H s:=
 ⟨I.ok,I.os,I.bare,I.base,I.loc,I.cell,I.free,I.freeC,fun p hp=>(List.mem_append.mp hp).elim (fun z=>I.pin p (List.mem_append_left _ z)) (h p),I.hok,I.len⟩
theorem QG {N:List Str} (hN:N.Nodup) {i j:Nat} {x:Str} (a:N[i]? =some x) (b:N[j]? =some x):i=j:=by
 obtain ⟨h1,e1⟩:=List.getElem?_eq_some_iff.mp a
 obtain ⟨h2,e2⟩:=List.getElem?_eq_some_iff.mp b
 exact (List.getElem_inj hN).mp (e1.trans e2.symm)
theorem Yu {M:Model} {A:Around} {E:Value->Shared->Prop} {i:Nat} {x:Str} {v:V} {u:Value} {Q:Unit->Shared->Prop} (I:Inv X pins σ H s) (hN:X.N.Nodup) (hi:X.N[i]? =some x) (hx:Loc X.env.scope x) (r:jk v u)
  (h:∀ s',Inv X pins (σ.set i (some v)) H s' ->(∃ a,Heap.SameBut a s.heap s'.heap/\(a=X.env.locals\/X.env.cells.lookup x=some a))->Q () s') (hf:X.fn x=true\/X.env.scope.names.lookup x=some .local:=by first | exact .inl rfl | exact .inr rfl | assumption):wpAny M A (storeName X.env x u) Q E s:=by
 obtain ⟨m,hn,hl⟩:=id I.loc
 have hcls:(X.env.scope.kind == .class || (X.env.scope.kind == .module && X.env.locals != X.env.globals))=false:=by rw [I.ok.kind]; rfl
 have hiσ:i < σ.length:=by rw [I.len]; exact (List.getElem?_eq_some_iff.mp hi).1
 have cne:=I.cne
 have tracked:∀ {a:Addr} {h' :Heap},(∃ o,s.heap.get? a=some o/\H a=none)->Heap.SameBut a s.heap h' ->HOk X.prog X.w H h' :=fun {a h'} ha hs b ob e=>by
  obtain ⟨_,_,hfree⟩:=ha
  refine (I.hok b ob e).stay (fun c w' hc q=>(hs.2 c ?_).trans q) (fun _ q=>q) fun _ _ q=>q
  rintro rfl
  rcases hc with rfl | hc
  ·rw [hfree] at e; cases e
  ·rw [hfree] at hc; cases hc
 rcases hx with hk | hk
 ·refine wpAny_storeName_local hk hn (fun h' hn' hs=> ?_) hcls
  obtain ⟨oL,_,_,hoL,_⟩:=id hn
  refine h _ ⟨I.ok,I.os,I.bare,⟨fun b o e n hb hx=> ?_,fun b o e n hb hx=> ?_,I.base.free,fun b o e hx=> ?_,I.base.tups,I.base.frzs,I.base.tbls⟩,⟨_,hn',fun j y v' e1 e2 e3=> ?_⟩,fun y c e=> ?_,I.free,I.freeC,fun p hp=> ?_,tracked ⟨oL,hoL,I.free⟩ hs,by simpa using I.len⟩ ⟨_,hs, .inl rfl⟩
  ·exact (hs.2 b (Nat.ne_of_lt (Nat.lt_of_lt_of_le (Heap.lt_size e) I.ok.above))).trans (I.base.keep b o e n hb hx)
  ·obtain ⟨sl,e1⟩:=I.base.slot b o e n hb hx
   exact ⟨sl,(hs.2 b (Nat.ne_of_lt (Nat.lt_of_lt_of_le (Heap.lt_size e) I.ok.above))).trans e1⟩
  ·obtain ⟨o',e1⟩:=I.base.there b o e hx
   exact ⟨o',(hs.2 b (Nat.ne_of_lt (Nat.lt_of_lt_of_le (Heap.lt_size e) I.ok.above))).trans e1⟩
  ·by_cases hj:j=i
   ·subst hj
    rw [hi] at e1; cases e1
    rw [List.getElem?_set_self hiσ] at e2
    cases e2
    exact ⟨u,r, .inl ⟨hk,by simp⟩⟩
   ·rw [List.getElem?_set_ne (Ne.symm hj)] at e2
    obtain ⟨u',r',q⟩:=hl j y v' e1 e2 e3
    refine ⟨u',r', ?_⟩
    rcases q with ⟨k,e⟩ | ⟨k,c,e,z⟩
    ·refine .inl ⟨k, ?_⟩
     have:y ≠ x:=fun e=>hj (QG hN e1 (e ▸ hi))
     simp [this,e]
    ·exact .inr ⟨k,c,e,z.sameBut hs (cne y c e)⟩
  ·obtain ⟨w',z⟩:=I.cell y c e
   exact ⟨w',z.sameBut hs (cne y c e)⟩
  ·obtain ⟨e,n,ne,nf,d⟩:=I.pin p hp
   exact ⟨(hs.2 p.1 ne).trans e,n,ne,nf,d⟩
 ·have hfn:X.fn x=true:=by
   rcases hf with z | z
   ·exact z
   ·rw [z] at hk; cases hk
  obtain ⟨c,hc⟩:=I.ok.has x (.inl hk)
  obtain ⟨w',z⟩:=I.cell x c hc
  refine wpAny_storeName_cell I.ok.kind hk hc z (fun h' hc' hs=> ?_)
  obtain ⟨oc,hoc,hocd⟩:=id z
  refine h { s with heap:=h' } ⟨I.ok,I.os,I.bare,⟨fun b o e n hb hx=> ?_,fun b o e n hb hx=> ?_,I.base.free,fun b o e hx=> ?_,I.base.tups,I.base.frzs,I.base.tbls⟩,⟨m,hn.sameBut hs (Ne.symm (cne x c hc)),fun j y v' e1 e2 e3=> ?_⟩,fun y c' e=> ?_,I.free,I.freeC,fun p hp=> ?_,tracked ⟨oc,hoc,I.freeC x c hc⟩ hs,by simpa using I.len⟩ ⟨c,hs, .inr hc⟩
  ·exact (hs.2 b (Nat.ne_of_lt (Nat.lt_of_lt_of_le (Heap.lt_size e) (I.ok.cab x c hfn hc)))).trans (I.base.keep b o e n hb hx)
  ·obtain ⟨sl,e1⟩:=I.base.slot b o e n hb hx
   exact ⟨sl,(hs.2 b (Nat.ne_of_lt (Nat.lt_of_lt_of_le (Heap.lt_size e) (I.ok.cab x c hfn hc)))).trans e1⟩
  ·obtain ⟨o',e1⟩:=I.base.there b o e hx
   exact ⟨o',(hs.2 b (Nat.ne_of_lt (Nat.lt_of_lt_of_le (Heap.lt_size e) (I.ok.cab x c hfn hc)))).trans e1⟩
  ·by_cases hj:j=i
   ·subst hj
    rw [hi] at e1; cases e1
    rw [List.getElem?_set_self hiσ] at e2
    cases e2
    exact ⟨u,r, .inr ⟨.inl hk,c,hc,hc'⟩⟩
   ·rw [List.getElem?_set_ne (Ne.symm hj)] at e2
    obtain ⟨u',r',q⟩:=hl j y v' e1 e2 e3
    refine ⟨u',r', ?_⟩
    rcases q with q | ⟨k,c',e,z'⟩
    ·exact .inl q
    ·refine .inr ⟨k,c',e,z'.sameBut hs ?_⟩
     rintro rfl
     exact hj (QG hN e1 (I.ok.inj _ _ _ e hc ▸ hi))
  ·by_cases hcc:c' =c
   ·subst hcc; exact ⟨_,hc'⟩
   ·obtain ⟨w2,z2⟩:=I.cell y c' e
    exact ⟨w2,z2.sameBut hs hcc⟩
  ·obtain ⟨e,n,ne,nf,d⟩:=I.pin p hp
   refine ⟨(hs.2 p.1 ?_).trans e,n,ne,nf,d⟩
   intro q
   rw [q,hoc] at e
   have q' :oc=p.2:=Option.some.inj e
   exact d w' (by rw [← q']; exact hocd)
theorem WI {M:Model} {A:Around} {E:Value->Shared->Prop} {i:Nat} {x:Str} {v:V} {u:Value} {Q:Unit->Shared->Prop} (I:Inv X pins σ H s) (hN:X.N.Nodup) (hi:X.N[i]? =some x) (hx:Loc X.env.scope x) (r:jk v u)
  (h:∀ s',Inv X pins (σ.set i (some v)) H s' ->Q () s') (hf:X.fn x=true\/X.env.scope.names.lookup x=some .local:=by first | exact .inl rfl | exact .inr rfl | assumption):wpAny M A (storeName X.env x u) Q E s:=
 Yu I hN hi hx r (fun s' I' _=>h s' I') hf
theorem Inv.call' {s' :Shared} {ch:List Addr} (I:Inv X pins σ H s) (ho:s'.os=s.os) (u:Un (frs X.stack) ch H H' s.heap s'.heap) (hok:HOk X.prog X.w H' s'.heap) (hg:AllBare s'.gens)
  (hch:∀ b∈ch,(b∈X.ex\/X.s₀.heap.objs.size<=b)/\b ≠ X.env.locals/\(∀ x c,X.env.cells.lookup x=some c->c ≠ b)/\∀ p∈X.pn++pins,p.1 ≠ b):Inv X pins σ H' s' :=by
 obtain ⟨h',g',d',t',o'⟩:=s'
 have e:o' =s.os:=ho
 subst e
 exact I.call (g' :=g') (t' :=t') (d' :=d') u hok hg hch
end
noncomputable abbrev XK:=Value->Option Addr->Hp->Prop
noncomputable abbrev St:=List (Option V)
noncomputable abbrev VK:=V->Hp->Prop
noncomputable abbrev TE:=St->Hp->VK->Prop
noncomputable abbrev TT:=St->Hp->(Bool->Hp->Prop)->Prop
noncomputable abbrev TA:=St->Hp->(List V->Hp->Prop)->Prop
structure K4 where
 nx:St->Hp->Prop
 rt:VK
 bk:St->Hp->Prop:=fun _ _=>False
 ct:St->Hp->Prop:=fun _ _=>False
noncomputable abbrev TS:=K4->St->Hp->Prop
noncomputable def EP (X:Cx) (pins:List (Addr×Obj)) (σ:St) (Q:VK) (u:Value) (s' :Shared):Prop:=∃ v H',Inv X pins σ H' s' /\jk v u/\Q v H'
noncomputable def TP (X:Cx) (pins:List (Addr×Obj)) (σ:St) (Q:Bool->Hp->Prop) (b:Bool) (s' :Shared):Prop:=∃ H',Inv X pins σ H' s' /\Q b H'
noncomputable def AP (X:Cx) (pins:List (Addr×Obj)) (σ:St) (Q:List V->Hp->Prop) (us:List Value) (s' :Shared):Prop:=∃ vs H',Inv X pins σ H' s' /\ZD vs us/\Q vs H'
noncomputable def SP (X:Cx) (pins:List (Addr×Obj)) (D:K4) (f:Flow) (s' :Shared):Prop:=
 match f with
 | .next=>∃ σ' H',Inv X pins σ' H' s' /\D.nx σ' H'
 | .brk=>∃ σ' H',Inv X pins σ' H' s' /\D.bk σ' H'
 | .cont=>∃ σ' H',Inv X pins σ' H' s' /\D.ct σ' H'
 | .ret u=>∃ v σ' H',Inv X pins σ' H' s' /\jk v u/\D.rt v H'
noncomputable def PE (X:Cx) (e:Expr) (t:TE):Prop:=
 ∀ (pins:List (Addr×Obj)) (s:Shared) (σ:St) (H:Hp) (Q:VK),Inv X pins σ H s->t σ H Q->wpAny (model X.prog X.w) X.A (eval e X.env) (EP X pins σ Q) X.xe s
noncomputable def PT (X:Cx) (e:Expr) (t:TT):Prop:=
 ∀ (pins:List (Addr×Obj)) (s:Shared) (σ:St) (H:Hp) (Q:Bool->Hp->Prop),Inv X pins σ H s->t σ H Q->wpAny (model X.prog X.w) X.A (isTrue e X.env (eval e X.env)) (TP X pins σ Q) X.xe s
noncomputable def PW (X:Cx) (e:Expr) (t:TT):Prop:=
 ∀ (whole:Sem Value) (pins:List (Addr×Obj)) (s:Shared) (σ:St) (H:Hp) (Q:Bool->Hp->Prop),Inv X pins σ H s->t σ H Q->wpAny (model X.prog X.w) X.A (isTrue e X.env whole) (TP X pins σ Q) X.xe s
theorem PW.pt {X:Cx} {e:Expr} {t:TT} (h:PW X e t):PT X e t:=h _
noncomputable def PA (X:Cx) (es:List Expr) (t:TA):Prop:=
 ∀ (pos:Pos) (pins:List (Addr×Obj)) (s:Shared) (σ:St) (H:Hp) (Q:List V->Hp->Prop),Inv X pins σ H s->t σ H Q->wpAny (model X.prog X.w) X.A (spliced (backTo pos (starEach es X.env))) (AP X pins σ Q) X.xe s
noncomputable def PS (X:Cx) (st:Stmt) (t:TS):Prop:=
 ∀ (pins:List (Addr×Obj)) (s:Shared) (σ:St) (H:Hp) (D:K4),Inv X pins σ H s->t D σ H->wpAny (model X.prog X.w) X.A (exec st X.env) (SP X pins D) X.xe s
noncomputable def PSs (X:Cx) (st:List Stmt) (t:TS):Prop:=
 ∀ (pins:List (Addr×Obj)) (s:Shared) (σ:St) (H:Hp) (D:K4),Inv X pins σ H s->t D σ H->wpAny (model X.prog X.w) X.A (execs st X.env) (SP X pins D) X.xe s
theorem thn {α:Type} {t:Sem α} {Q Q' :α->Shared->Prop} {M:Model} {A:Around} {E:Value->Shared->Prop} {s:Shared} (h:wpAny M A t Q E s) (hQ:∀ a s,Q a s->Q' a s):wpAny M A t Q' E s:=wpAny_mono h hQ fun _ _ x=>x
end L2
namespace L2
open PySem PySem.Spec PyProof.Rows
section
variable {X:Cx}
theorem bin {a b:Expr} {ta tb:TE} (ha:PE X a ta) (hb:PE X b tb) {pins:List (Addr×Obj)} {s:Shared} {σ:St} {H:Hp} {R:V->V->Hp->Prop} (I:Inv X pins σ H s) (h:ta σ H fun x H1=>tb σ H1 fun y H2=>R x y H2)
  {α:Type} {Q:α->Shared->Prop} {f:Value->Value->Sem α}
  (hf:∀ v u s2 x y H2,Inv X pins σ H2 s2->jk x v->jk y u->R x y H2->wpAny (model X.prog X.w) X.A (f v u) Q X.xe s2):
  wpAny (model X.prog X.w) X.A (eval a X.env) (fun v s₁=>wpAny (model X.prog X.w) X.A (eval b X.env) (fun u s₂=>wpAny (model X.prog X.w) X.A (f v u) Q X.xe s₂) X.xe s₁) X.xe s:=by
 refine thn (ha pins s σ H _ I h) fun v s1 ⟨x,H1,I1,r1,q1⟩=> ?_
 refine thn (hb pins s1 σ H1 _ I1 q1) fun u s2 ⟨y,H2,I2,r2,q2⟩=> ?_
 exact hf v u s2 x y H2 I2 r1 r2 q2
noncomputable def KI (i:Nat):TE:=fun σ H Q=>∃ v,σ[i]? =some (some v)/\Q v H
noncomputable def tC (v:V):TE:=fun _ H Q=>Q v H
theorem GP {i:Nat} {x:Str} {pos:Pos} (hN:X.N[i]? =some x) (hv:Vis X.env.scope x) (hd:(x == ("__debug__":Str))=false:=by decide) (hcd:(x == ("__classdict__":Str))=false:=by decide):PE X (.Name x pos) (KI i):=by
 intro pins s σ H Q I h
 obtain ⟨v,e,h⟩:=h
 obtain ⟨m,hn,hl⟩:=I.loc
 obtain ⟨u,r,l⟩:=hl i x v hN e hv
 have fin:EP X pins σ Q u s:=⟨v,H,I,r,h⟩
 rcases l with ⟨hk,hm⟩ | ⟨hk,c,hc,hcell⟩
 ·exact wpAny_Name (wpAny_loadName_local I.ok.kind hk hn hm fin) hd
 ·rcases hk with hk | hk
  ·exact wpAny_Name (wpAny_loadName_cell I.ok.kind hk hc hcell fin) hd
  ·exact wpAny_Name (wpAny_loadName_free I.ok.kind hk hc hcell fin hcd) hd
theorem GQ {i j pos}:PE X (.Constant (.int i) j pos) (tC (.int i)):=fun _ _ _ H _ I h=>wpAny_Constant_int ⟨.int i,H,I.tok _,⟨_,rfl⟩,h⟩
theorem z1C {b j pos}:PE X (.Constant (.bool b) j pos) (tC (.bl b)):=fun _ _ _ H _ I h=>Constant_bool ⟨.bl b,H,I,rfl,h⟩
theorem K5 {x j pos}:PE X (.Constant (.str x) j pos) (tC (.str x)):=fun _ _ _ H _ I h=>Calls.Constant_str ⟨.str x,H,I.tok _,⟨_,rfl⟩,h⟩
noncomputable def Gl (X:Cx) (x:Str):Prop:=X.env.kindOf x=some .globalImplicit
theorem Q0 {E:Value->Shared->Prop} {pins:List (Addr×Obj)} {s:Shared} {σ:St} {H:Hp} {x:Str} {u:Value} {pos:Pos} {Q:Value->Shared->Prop} (I:Inv X pins σ H s) (hg:Gl X x) (hm:X.mg x=some u) (h:Q u s)
  (hd:(x == ("__debug__":Str))=false:=by decide):wpAny (model X.prog X.w) X.A (eval (.Name x pos) X.env) Q E s:=
 Calls.Name_function_global I.ok.kind hg (Calls.loadGlobal_global (by rw [I.ok.glob]; exact I.mod.glob.keeps I.bk) hm h) hd
theorem wH {E:Value->Shared->Prop} {pins:List (Addr×Obj)} {s:Shared} {σ:St} {H:Hp} {x:Str} {u:Value} {pos:Pos} {Q:Value->Shared->Prop} (I:Inv X pins σ H s) (hg:Gl X x) (hm:X.mg x=none) (hv:bootBuiltins x=some u) (h:Q u s)
  (hn:x ≠ "__name__":=by decide) (hd:(x == ("__debug__":Str))=false:=by decide):wpAny (model X.prog X.w) X.A (eval (.Name x pos) X.env) Q E s:=by
 obtain ⟨mb,h1,h2⟩:=I.mod.blt
 exact Calls.Name_function_global I.ok.kind hg (Calls.loadGlobal_builtin (by rw [I.ok.glob]; exact I.mod.glob.keeps I.bk) hm (by rw [I.ok.blt]; exact h1.keeps I.bk) ((h2 x hn).trans hv) h) hd
theorem KJ {x:Str} {v:V} {u:Value} {pos:Pos} (hg:Gl X x) (hm:X.mg x=some u) (r:jk v u) (hd:(x == ("__debug__":Str))=false:=by decide):PE X (.Name x pos) (tC v):=
 fun _ _ _ H _ I h=>Q0 I hg hm ⟨v,H,I,r,h⟩ hd
theorem Q1 {x:Str} {v:V} {u:Value} {pos:Pos} (hg:Gl X x) (hm:X.mg x=none) (hv:bootBuiltins x=some u) (r:jk v u) (hn:x ≠ "__name__":=by decide) (hd:(x == ("__debug__":Str))=false:=by decide):PE X (.Name x pos) (tC v):=
 fun _ _ _ H _ I h=>wH I hg hm hv ⟨v,H,I,r,h⟩ hn hd
variable {a b:Expr} {ta tb:TE} {pos:Pos}
variable {tA tB' :TT} {rest:List Expr}
noncomputable def tAnd (t u:TT):TT:=fun σ H Q=>t σ H fun c H1=>if c=true then u σ H1 Q else Q false H1
noncomputable def tOr (t u:TT):TT:=fun σ H Q=>t σ H fun c H1=>if c=true then Q true H1 else u σ H1 Q
noncomputable def tNot (t:TT):TT:=fun σ H Q=>t σ H fun c H1=>Q (!c) H1
theorem KK (ha:PT X a tA):PW X (.BoolOp .And [a] pos) tA:=by
 intro wh pins s σ H Q I h
 refine isTrue_and (thn (ha pins s σ H Q I h) fun c s1 e=> ?_)
 cases c with
 | true=>exact isTrue_and_nil e
 | false=>exact e
theorem GR (ha:PT X a tA):PW X (.BoolOp .Or [a] pos) tA:=by
 intro wh pins s σ H Q I h
 refine isTrue_or (thn (ha pins s σ H Q I h) fun c s1 e=> ?_)
 cases c with
 | false=>exact isTrue_or_nil e
 | true=>exact e
theorem GS (ha:PT X a tA) (hb:PW X (.BoolOp .And (b :: rest) pos) tB'):PW X (.BoolOp .And (a :: b :: rest) pos) (tAnd tA tB'):=by
 intro wh pins s σ H Q I h
 refine isTrue_and (thn (ha pins s σ H _ I h) fun c s1 ⟨H1,I1,q1⟩=> ?_)
 cases c with
 | true=>exact hb wh pins s1 σ H1 Q I1 q1
 | false=>exact ⟨H1,I1,q1⟩
theorem z1D (ha:PT X a tA) (hb:PW X (.BoolOp .Or (b :: rest) pos) tB'):PW X (.BoolOp .Or (a :: b :: rest) pos) (tOr tA tB'):=by
 intro wh pins s σ H Q I h
 refine isTrue_or (thn (ha pins s σ H _ I h) fun c s1 ⟨H1,I1,q1⟩=> ?_)
 cases c with
 | true=>exact ⟨H1,I1,q1⟩
 | false=>exact hb wh pins s1 σ H1 Q I1 q1
theorem GT (ha:PT X a tA):PT X (.UnaryOp .Not a pos) (tNot tA):=by
 intro pins s σ H Q I h
 exact isTrue_not (ha pins s σ H (fun c H1=>Q (!c) H1) I h)
noncomputable def z1E (ta tb:TE):TE:=fun σ H Q=>ta σ H fun x H1=>∃ c,x= .bl c/\if c=true then tb σ H1 Q else Q (.bl false) H1
noncomputable def tOrV (ta tb:TE):TE:=fun σ H Q=>ta σ H fun x H1=>∃ c,x= .bl c/\if c=true then Q (.bl true) H1 else tb σ H1 Q
noncomputable def z1F (ta:TE):TE:=fun σ H Q=>ta σ H fun x H1=>∃ c,x= .bl c/\Q (.bl (!c)) H1
theorem GU {op} {t:TE} (h:PE X a t):PE X (.BoolOp op [a] pos) t:=fun pins s σ H Q I hw=>BoolOp_one (h pins s σ H Q I hw)
theorem GV (ha:PE X a ta) (hb:PE X (.BoolOp .And (b :: rest) pos) tb):PE X (.BoolOp .And (a :: b :: rest) pos) (z1E ta tb):=by
 intro pins s σ H Q I h
 refine BoolOp_and (thn (ha pins s σ H _ I h) fun v s1 ⟨x,H1,I1,r1,q1⟩=> ?_)
 obtain ⟨c,rfl,q1⟩:=q1
 cases r1
 refine wpAny_truthy_bool ?_
 cases c with
 | true=>exact hb pins s1 σ H1 Q I1 q1
 | false=>exact ⟨.bl false,H1,I1,rfl,q1⟩
theorem z1G (ha:PE X a ta) (hb:PE X (.BoolOp .Or (b :: rest) pos) tb):PE X (.BoolOp .Or (a :: b :: rest) pos) (tOrV ta tb):=by
 intro pins s σ H Q I h
 refine BoolOp_or (thn (ha pins s σ H _ I h) fun v s1 ⟨x,H1,I1,r1,q1⟩=> ?_)
 obtain ⟨c,rfl,q1⟩:=q1
 cases r1
 refine wpAny_truthy_bool ?_
 cases c with
 | false=>exact hb pins s1 σ H1 Q I1 q1
 | true=>exact ⟨.bl true,H1,I1,rfl,q1⟩
theorem GW (ha:PE X a ta):PE X (.UnaryOp .Not a pos) (z1F ta):=by
 intro pins s σ H Q I h
 refine UnaryOp_ (thn (ha pins s σ H _ I h) fun v s1 ⟨x,H1,I1,r1,q1⟩=> ?_)
 obtain ⟨c,rfl,q1⟩:=q1
 cases r1
 exact not_of (wpAny_truthy_bool ⟨.bl (!c),H1,I1,rfl,q1⟩)
noncomputable def tIf (t:TT) (ta tb:TE):TE:=fun σ H Q=>t σ H fun c H1=>if c=true then ta σ H1 Q else tb σ H1 Q
theorem XT {c:Expr} (hc:PT X c tA) (ha:PE X a ta) (hb:PE X b tb):PE X (.IfExp c a b pos) (tIf tA ta tb):=by
 intro pins s σ H Q I h
 refine wpAny_IfExp (thn (hc pins s σ H _ I h) fun d s1 ⟨H1,I1,q1⟩=> ?_)
 cases d with
 | true=>exact ha pins s1 σ H1 Q I1 q1
 | false=>exact hb pins s1 σ H1 Q I1 q1
end
end L2
namespace L2
open PySem PySem.Spec PyProof.Rows
noncomputable def SqL (K:PySem.W.Frag) (H:Hp) (a:Addr) (xs:List V):Prop:=
 Rd H a (.lst xs)\/
  ∃ (o:Obj) (its:Array Value) (n:Nat),K.lookup a=some o/\o.cls= .type "list"/\o.dict=none/\o.data= .seq its n/\its.size<=sizeLine/\ZD xs its.toList
noncomputable def SqT (K:PySem.W.Frag) (H:Hp) (a:Addr) (xs:List V):Prop:=
 Rd H a (.tup xs)\/
  ∃ (o:Obj) (its:Array Value) (n:Nat),K.lookup a=some o/\o.cls= .type "tuple"/\o.data= .seq its n/\its.size<=sizeLine/\ZD xs its.toList
noncomputable def absV:Value->Option V
 | .none=>some .non
 | .bool b=>some (.bl b)
 | .int i _=>some (.int i)
 | .str x _=>some (.str x)
 | .bytes b _=>some (.byt b)
 | .float b _=>some (.flt b)
 | .ref a=>some (.ref a)
 | .type n=>some (.ty n)
 | _=>none
theorem jk.abs {x:V} {u:Value} (r:jk x u):absV u=some x:=by
 cases x with
 | non=>cases r; rfl
 | bl _=>cases r; rfl
 | int _=>obtain ⟨t,rfl⟩:=r; rfl
 | str _=>obtain ⟨t,rfl⟩:=r; rfl
 | byt _=>obtain ⟨t,rfl⟩:=r; rfl
 | flt _=>obtain ⟨t,rfl⟩:=r; rfl
 | ref _=>cases r; rfl
 | ty _=>cases r; rfl
theorem jk.inj {x y:V} {u:Value} (r:jk x u) (q:jk y u):x=y:=Option.some.inj (r.abs.symm.trans q.abs)
theorem ZD.inj:∀ {xs ys:List V} {us:List Value},ZD xs us->ZD ys us->xs=ys
 | _,_,_, .nil, .nil=>rfl
 | _,_,_, .cons r t, .cons r' t' =>by rw [r.inj r',ZD.inj t t']
section
variable {X:Cx} {pins:List (Addr×Obj)} {σ:St} {H:Hp} {s:Shared} {a:Addr} {xs ys:List V}
theorem SqL.of {K:PySem.W.Frag} (h:H a=some (.lst xs)):SqL K H a xs:= .inl (.inl h)
theorem SqT.of {K:PySem.W.Frag} (h:H a=some (.tup xs)):SqT K H a xs:= .inl (.inl h)
theorem Inv.list (I:Inv X pins σ H s) (h:SqL X.K H a xs):∃ its:List Value,ZD xs its/\PlainL s.heap a its.toArray/\xs.length<=sizeLine:=by
 rcases h with h | ⟨o,its,n,hk,hc,hd,hs,hz,r⟩
 ·obtain ⟨z,its,n,r,e⟩:=h.ok I.hok
  exact ⟨its,r,⟨_,n,e,rfl,rfl,rfl⟩,z⟩
 ·refine ⟨its.toList,r,⟨o,n,I.kIn a o hk,hc,hd,by simpa using hs⟩, ?_⟩
  have e:=r.length
  simp only [Array.length_toList] at e
  omega
theorem Inv.tuple (I:Inv X pins σ H s) (h:SqT X.K H a xs):∃ its:List Value,ZD xs its/\IsTup s.heap a its.toArray/\xs.length<=sizeLine:=by
 rcases h with h | ⟨o,its,n,hk,hc,hs,hz,r⟩
 ·obtain ⟨z,its,r,p⟩:=h.ok I.hok
  exact ⟨its,r,p,z⟩
 ·refine ⟨its.toList,r,⟨o,I.kIn a o hk,hc,n,by simpa using hs⟩, ?_⟩
  have e:=r.length
  simp only [Array.length_toList] at e
  omega
theorem Inv.list_inj (I:Inv X pins σ H s) (h:SqL X.K H a xs) (h' :SqL X.K H a ys):xs=ys:=by
 obtain ⟨its,r,⟨o,n,e,_,_,d⟩,_⟩:=I.list h
 obtain ⟨its',r',⟨o',n',e',_,_,d'⟩,_⟩:=I.list h'
 rw [e] at e'; cases e'
 rw [d] at d'
 injection d' with d1 _
 have:its=its' :=by simpa using congrArg Array.toList d1
 subst this
 exact r.inj r'
theorem Inv.tuple_inj (I:Inv X pins σ H s) (h:SqT X.K H a xs) (h' :SqT X.K H a ys):xs=ys:=by
 obtain ⟨its,r,⟨o,e,_,n,d⟩,_⟩:=I.tuple h
 obtain ⟨its',r',⟨o',e',_,n',d'⟩,_⟩:=I.tuple h'
 rw [e] at e'; cases e'
 rw [d] at d'
 injection d' with d1 _
 have:its=its' :=by simpa using congrArg Array.toList d1
 subst this
 exact r.inj r'
end
noncomputable abbrev Cx.wish (X:Cx) (E:Value->Shared->Prop):Cx:={ X with xe:=E }
noncomputable abbrev Cx.nox (X:Cx):Cx:=X.wish fun _ _=>False
theorem Cx.Ok.wish {X:Cx} (ok:X.Ok) (E:Value->Shared->Prop):(X.wish E).Ok:=
 ⟨ok.mod,ok.kind,ok.glob,ok.blt,ok.above,ok.inj,ok.has,ok.cab,ok.hd,ok.frames,ok.stk,ok.exf,ok.bs,ok.bsz,ok.noex,ok.exfs,ok.funs,ok.frf⟩
theorem Cx.Ok.unwish {X:Cx} {E:Value->Shared->Prop} (ok:(X.wish E).Ok):X.Ok:=
 ⟨ok.mod,ok.kind,ok.glob,ok.blt,ok.above,ok.inj,ok.has,ok.cab,ok.hd,ok.frames,ok.stk,ok.exf,ok.bs,ok.bsz,ok.noex,ok.exfs,ok.funs,ok.frf⟩
section
variable {X:Cx} {pins:List (Addr×Obj)} {σ:St} {H:Hp} {s:Shared} {E:Value->Shared->Prop}
theorem Inv.wish (I:Inv X pins σ H s) (E:Value->Shared->Prop):Inv (X.wish E) pins σ H s:=⟨I.ok.wish E,I.os,I.bare,I.base,I.loc,I.cell,I.free,I.freeC,I.pin,I.hok,I.len⟩
theorem Inv.unwish (I:Inv (X.wish E) pins σ H s):Inv X pins σ H s:=⟨I.ok.unwish,I.os,I.bare,I.base,I.loc,I.cell,I.free,I.freeC,I.pin,I.hok,I.len⟩
theorem SP.unwish {D:K4} {f:Flow} {s' :Shared} (h:SP (X.wish E) pins D f s'):SP X pins D f s' :=by
 cases f with
 | next=>obtain ⟨σ',H',I,q⟩:=h; exact ⟨σ',H',I.unwish,q⟩
 | brk=>obtain ⟨σ',H',I,q⟩:=h; exact ⟨σ',H',I.unwish,q⟩
 | cont=>obtain ⟨σ',H',I,q⟩:=h; exact ⟨σ',H',I.unwish,q⟩
 | ret u=>obtain ⟨v,σ',H',I,r,q⟩:=h; exact ⟨v,σ',H',I.unwish,r,q⟩
theorem PSs.nox {st:List Stmt} {t:TS} (h:PSs X.nox st t):PSs X st t:=fun pins s σ H D I hw=>
 wpAny_mono (h pins s σ H D (I.wish _) hw) (fun _ _ q=>q.unwish) fun _ _ z=>False.elim z
end
section
variable {X:Cx} {st:Stmt} {rest:List Stmt} {t u:TS} {e:Expr} {te:TE} {pos:Pos}
noncomputable def z1H:TS:=fun D σ H=>D.nx σ H
noncomputable def tSeq (t u:TS):TS:=fun D σ H=>t { D with nx:=u D } σ H
theorem KL:PSs X [] z1H:=fun _ _ σ H _ I h=>wpAny_execs_nil ⟨σ,H,I,h⟩
theorem XU (h1:PS X st t) (h2:PSs X rest u):PSs X (st :: rest) (tSeq t u):=by
 intro pins s σ H D I h
 refine wpAny_execs_cons (thn (h1 pins s σ H { D with nx:=u D } I h) fun f s1 q=> ?_)
 cases f with
 | next=>
  obtain ⟨σ',H',I',q⟩:=q
  exact h2 pins s1 σ' H' D I' q
 | ret v=>exact q
 | brk=>exact q
 | cont=>exact q
theorem KM (h1:PS X st t):PSs X [st] t:=by
 intro pins s σ H D I h
 refine wpAny_execs_cons (thn (h1 pins s σ H D I h) fun f s1 q=> ?_)
 cases f with
 | next=>exact wpAny_execs_nil q
 | ret v=>exact q
 | brk=>exact q
 | cont=>exact q
theorem Inv.quiet {pins:List (Addr×Obj)} {σ:St} {H:Hp} {s:Shared} (I:Inv X pins σ H s):interactive X.env=false:=by simp [interactive,I.ok.kind]
noncomputable def z1I (te:TE):TS:=fun D σ H=>te σ H fun _ H1=>D.nx σ H1
theorem Q2 (he:PE X e te) (hs:swapsWith e none pos.line X.env=pure false:=by rfl):PS X (.Expr e pos) (z1I te):=by
 intro pins s σ H D I h
 exact wpAny_Expr_any (thn (he pins s σ H _ I h) fun v s1 ⟨x,H1,I1,r1,q1⟩=>⟨σ,H1,I1,q1⟩) I.quiet hs
noncomputable def tRet (te:TE):TS:=fun D σ H=>te σ H D.rt
theorem K6 (he:PE X e te):PS X (.Return (some e) pos) (tRet te):=by
 intro pins s σ H D I h
 exact wpAny_Return_some (thn (he pins s σ H _ I h) fun v s1 ⟨x,H1,I1,r1,q1⟩=>⟨x,σ,H1,I1,r1,q1⟩)
noncomputable def tIfS (c:TT) (t u:TS):TS:=fun D σ H=>c σ H fun b H1=>if b=true then t D σ H1 else u D σ H1
theorem z1J {c:Expr} {a b:List Stmt} {tc:TT} (hc:PT X c tc) (ha:PSs X a t) (hb:PSs X b u):PS X (.If c a b pos) (tIfS tc t u):=by
 intro pins s σ H D I h
 refine wpAny_If (thn (hc pins s σ H _ I h) fun d s1 ⟨H1,I1,q1⟩=> ?_)
 cases d with
 | true=>exact ha pins s1 σ H1 D I1 q1
 | false=>exact hb pins s1 σ H1 D I1 q1
end
noncomputable abbrev TG:=V->St->Hp->(St->Hp->Prop)->Prop
noncomputable abbrev TGs:=List V->St->Hp->(St->Hp->Prop)->Prop
noncomputable def PG (X:Cx) (target:Expr) (t:TG):Prop:=
 ∀ (pins:List (Addr×Obj)) (s:Shared) (σ:St) (H:Hp) (v:V) (u:Value) (Q:St->Hp->Prop),Inv X pins σ H s->jk v u->t v σ H Q->
  wpAny (model X.prog X.w) X.A (assign target X.env u) (fun _ s' =>∃ σ' H',Inv X pins σ' H' s' /\Q σ' H') X.xe s
noncomputable def PGs (X:Cx) (ts:List Expr) (t:TGs):Prop:=
 ∀ (pins:List (Addr×Obj)) (s:Shared) (σ:St) (H:Hp) (vs:List V) (us:List Value) (Q:St->Hp->Prop),Inv X pins σ H s->ZD vs us->t vs σ H Q->
  wpAny (model X.prog X.w) X.A (assignInOrder ((assignEach ts X.env).map (·.2)) us) (fun _ s' =>∃ σ' H',Inv X pins σ' H' s' /\Q σ' H') X.xe s
section
variable {X:Cx} {pos:Pos}
noncomputable def Yv (i:Nat):TG:=fun v σ H Q=>Q (σ.set i (some v)) H
theorem zH {i:Nat} {x:Str} (hN:X.N.Nodup) (hi:X.N[i]? =some x) (hx:Loc X.env.scope x) (hf:X.fn x=true\/X.env.scope.names.lookup x=some .local:=by first | exact .inl rfl | exact .inr rfl | assumption):PG X (.Name x pos) (Yv i):=by
 intro pins s σ H v u Q I r h
 exact wpAny_assign_Name (WI I hN hi hx r (fun s' I' =>⟨_,H,I',h⟩) hf)
noncomputable def z1K:TGs:=fun vs σ H Q=>vs=[]/\Q σ H
noncomputable def Vx (t:TG) (u:TGs):TGs:=fun vs σ H Q=>∃ v r,vs=v :: r/\t v σ H fun σ' H' =>u r σ' H' Q
theorem Uo:PGs X [] z1K:=by
 intro pins s σ H vs us Q I r h
 obtain ⟨e,h⟩:=h
 subst e
 cases r
 exact assignInOrder_nil ⟨σ,H,I,h⟩
theorem jI {e:Expr} {es:List Expr} {t:TG} {u:TGs} (h1:PG X e t) (h2:PGs X es u)
  (hs:(assignEach (e :: es) X.env).map (·.2)=assign e X.env :: (assignEach es X.env).map (·.2):=by rfl):PGs X (e :: es) (Vx t u):=by
 intro pins s σ H vs us Q I r h
 obtain ⟨v,vr,e1,h⟩:=h
 subst e1
 cases r with
 | cons r rr=>
  rw [hs]
  refine assignInOrder_cons (thn (h1 pins s σ H _ _ _ I r h) fun _ s1 ⟨σ1,H1,I1,q1⟩=> ?_)
  exact h2 pins s1 σ1 H1 _ _ Q I1 rr q1
noncomputable def z1L (K:PySem.W.Frag) (n:Nat) (t:TGs):TG:=fun v σ H Q=>∃ a xs,v= .ref a/\SqT K H a xs/\xs.length=n/\t xs σ H Q
theorem Yw {es:List Expr} {k:Nat} {t:TGs} {n:Nat} (hc:X.calm=true) (h:PGs X es t)
  (hn:(assignEach es X.env).length=n:=by rfl) (hst:(assignEach es X.env).findIdx? (·.1)=none:=by rfl):PG X (.Tuple es k pos) (z1L X.K n t):=by
 intro pins s σ H v u Q I r hw
 obtain ⟨a,xs,e1,hq,hl,hw⟩:=hw
 subst e1
 cases r
 obtain ⟨its,rv,ht,hz⟩:=I.tuple hq
 refine assign_Tuple_tuple (I.ok.hd hc) ht (by simp [hn,← hl,rv.length]) hst fun h' hx=> ?_
 have I1:Inv X pins σ H { s with heap:=h' }:=I.kept (t' :=s.toks) fun b o e=>hx b o (Nat.ne_of_lt (Heap.lt_size e)) e
 exact h pins _ σ H xs _ Q I1 (by simpa using rv) hw
noncomputable def tAsg (te:TE) (g:TG):TS:=fun D σ H=>te σ H fun x H1=>g x σ H1 D.nx
theorem GX {tg e:Expr} {te:TE} {g:TG} (he:PE X e te) (hg:PG X tg g) (hs:swapsWithSole [tg] e pos.line X.env=pure false:=by rfl) (hw:swappedStores [tg] e X.env=pure none:=by rfl)
  (h1:(assignEach [tg] X.env).map (·.2)=[assign tg X.env]:=by rfl):PS X (.Assign [tg] e pos) (tAsg te g):=by
 intro pins s σ H D I h
 refine wpAny_Assign_stores (thn (he pins s σ H _ I h) fun v s1 ⟨x,H1,I1,r1,q1⟩=> ?_) hs hw
 rw [h1]
 exact thn (hg pins s1 σ H1 x v _ I1 r1 q1) fun _ s2 q=>q
theorem Vy {i:Nat} {x:Str} {e:Expr} {te:TE} {pos' :Pos} (hN:X.N.Nodup) (hi:X.N[i]? =some x) (hx:Loc X.env.scope x) (he:PE X e te) (hs:swapsWith e (some (.Name x pos')) pos.line X.env=pure false:=by rfl) (hf:X.fn x=true\/X.env.scope.names.lookup x=some .local:=by first | exact .inl rfl | exact .inr rfl | assumption):
  PS X (.Assign [.Name x pos'] e pos) (tAsg te (Yv i)):=by
 intro pins s σ H D I h
 refine wpAny_Assign_Name (thn (he pins s σ H _ I h) fun v s1 ⟨y,H1,I1,r1,q1⟩=> ?_) hs
 exact WI I1 hN hi hx r1 (fun s2 I2=>⟨_,H1,I2,q1⟩) hf
end
section
variable {X:Cx} {pos:Pos}
noncomputable def GY (c:TT) (tb:TS):TS:=fun D σ H=>∃ W:Nat->St->Hp->Prop,(∃ m,W m σ H)/\∀ m σ H,W m σ H->
 c σ H fun b H1=>if b=true then ∃ N:St->Hp->Prop,(∀ σ' H',N σ' H' ->∃ m',m' < m/\W m' σ' H')/\tb { D with nx:=N,ct:=N,bk:=D.nx } σ H1 else D.nx σ H1
theorem XV {c:Expr} {body:List Stmt} {tc:TT} {tb:TS} (hp:PassesOwn (model X.prog X.w) X.A X.env X.xe) (hc:PT X c tc) (hb:PSs X body tb):PS X (.While c body [] pos) (GY tc tb):=by
 intro pins s σ H D I h
 obtain ⟨W,⟨m0,w0⟩,turn⟩:=h
 refine wpAny_While (codeAny_whileLoop (fun n s' =>∃ σ' H',Inv X pins σ' H' s' /\W n σ' H') ?_ m0 ⟨σ,H,I,w0⟩)
 rintro n s1 ⟨σ1,H1,I1,w1⟩
 refine wpAny_passesOwn hp (thn (hc pins s1 σ1 H1 _ I1 (turn n σ1 H1 w1)) fun b s2 ⟨H2,I2,q2⟩=> ?_)
 cases b with
 | true=>
  obtain ⟨N,hN,q2⟩:=q2
  rw [if_pos rfl]
  refine wpAny_passesOwn hp (thn (hb pins s2 σ1 H2 _ I2 q2) fun f s3 q3=> ?_)
  cases f with
  | next=>
   obtain ⟨σ3,H3,I3,n3⟩:=q3
   obtain ⟨m',hm,w3⟩:=hN σ3 H3 n3
   exact ⟨m',hm,σ3,H3,I3,w3⟩
  | cont=>
   obtain ⟨σ3,H3,I3,n3⟩:=q3
   obtain ⟨m',hm,w3⟩:=hN σ3 H3 n3
   exact ⟨m',hm,σ3,H3,I3,w3⟩
  | brk=>exact q3
  | ret v=>exact q3
 | false=>
  rw [if_neg Bool.false_ne_true]
  exact wpAny_execs_nil ⟨σ1,H2,I2,q2⟩
end
structure It where
 go:Nat->Hp->Prop
 yld:Nat->Hp->V->Hp->Prop
 stop:Nat->Hp->Prop
noncomputable def Yx (X:Cx) (pins:List (Addr×Obj)) (H:Hp) (b:Addr):Prop:=
 H b=none/\b ≠ X.env.locals/\b ∉ X.fs/\(b∈X.ex\/X.s₀.heap.objs.size<=b)/\(∀ x c,X.env.cells.lookup x=some c->c ≠ b)/\∀ p∈X.pn++pins,p.1 ≠ b
theorem Inv.fpOk {X:Cx} {pins:List (Addr×Obj)} {σ:St} {H H' :Hp} {s:Shared} {b:Addr} (I:Inv X pins σ H s) (hb:s.heap.objs.size<=b) (hn:H' b=none):Yx X pins H' b:=by
 refine ⟨hn,Nat.ne_of_gt (Nat.lt_of_lt_of_le I.lt hb),I.nofs hb, .inr (Nat.le_trans I.sz hb),fun x c e z=> ?_,fun p hp z=> ?_⟩
 ·obtain ⟨v,q⟩:=I.cell x c e
  exact absurd (Nat.lt_of_lt_of_le q.lt (by rw [z]; exact hb)) (Nat.lt_irrefl _)
 ·exact absurd (Nat.lt_of_lt_of_le (Heap.lt_size (I.pin p hp).1) (by rw [z]; exact hb)) (Nat.lt_irrefl _)
structure Vp (P:Program) (w:World) (K:PySem.W.Frag) (tg:Expr) (J:It) (fp:List Addr) (it:Addr) (tn:Nat->Heap->Prop):Prop where
 mem:it∈fp
 obj:∀ i h,tn i h->∀ b∈fp,∃ o,h.get? b=some o/\∀ v,o.data ≠ .cell v
 keep:∀ i h h',tn i h->(∀ b∈fp,∀ o,h.get? b=some o->h'.get? b=some o)->tn i h'
 item:∀ (X:Cx),X.prog=P->X.w=w->X.K=K->X.calm=true->∀ (i:Nat) (pins:List (Addr×Obj)) (s:Shared) (σ:St) (H:Hp) (E:Value->Shared->Prop),Inv X pins σ H s->(∀ b∈fp,Yx X pins H b)->tn i s.heap->J.go i H->
  wpAny (model P w) X.A (pyNext (.ref it)) (fun r s1=>∃ u,r=some u/\
   wpAny (model P w) X.A (letOwnedTupleGo tg (.ref it) u) (fun _ s2=>∃ x H',Inv X pins σ H' s2/\jk x u/\J.yld i H x H' /\tn (i+1) s2.heap/\∀ b∈fp,H' b=none) E s1) E s
 done:∀ (X:Cx),X.prog=P->X.w=w->X.K=K->X.calm=true->∀ (i:Nat) (pins:List (Addr×Obj)) (s:Shared) (σ:St) (H:Hp) (E:Value->Shared->Prop),Inv X pins σ H s->(∀ b∈fp,Yx X pins H b)->tn i s.heap->J.stop i H->
  wpAny (model P w) X.A (pyNext (.ref it)) (fun r s1=>r=none/\Inv X pins σ H s1) E s
 self:∀ (A:Around) (i:Nat) (s:Shared) (Q:Value->Shared->Prop) (E:Value->Shared->Prop),tn i s.heap->Q (.ref it) s->wpAny (model P w) A (pyIter (.ref it)) Q E s
noncomputable abbrev TI:=St->Hp->(It->Hp->Prop)->Prop
noncomputable def PIE (X:Cx) (pins:List (Addr×Obj)) (σ:St) (tg:Expr) (R:It->Hp->Prop) (itv:Value) (s2:Shared):Prop:=
 ∃ (it:Addr) (fp:List Addr) (tn:Nat->Heap->Prop) (J:It) (H' :Hp),itv= .ref it/\Inv X pins σ H' s2/\Vp X.prog X.w X.K tg J fp it tn/\tn 0 s2.heap/\(∀ b∈fp,Yx X pins H' b)/\R J H'
noncomputable def PI (X:Cx) (tg iter:Expr) (wi:TI):Prop:=
 ∀ (pins:List (Addr×Obj)) (s:Shared) (σ:St) (H:Hp) (R:It->Hp->Prop),Inv X pins σ H s->wi σ H R->
  wpAny (model X.prog X.w) X.A (eval iter X.env) (fun v s1=>wpAny (model X.prog X.w) X.A (pyIter v) (PIE X pins σ tg R) X.xe s1) X.xe s
theorem vw {M:Model} {A:Around} {E:Value->Shared->Prop} {s:Shared} {tg:Expr} {it:Addr} {u:Value} {o:Obj} {n:String} {vs:Array Value} {Q:Unit->Shared->Prop} (ho:s.heap.get? it=some o) (hc:o.cls= .type n) (hd:o.data= .fields vs)
  (hn:["enumerate","zip","dict_itemiterator","dict_reverseitemiterator","odict_iterator","itertools.zip_longest","itertools.pairwise"].contains n=false) (hQ:Q () s):wpAny M A (letOwnedTupleGo tg (.ref it) u) Q E s:=by
 unfold letOwnedTupleGo
 cases tg <;> first
  | exact wpAny_pure hQ
  | (cases u <;> first
    | exact wpAny_pure hQ
    | (refine wpAny_bind (wpAny_load ho ?_); rw [hc,hd]; show wpAny M A (if (["enumerate","zip","dict_itemiterator","dict_reverseitemiterator","odict_iterator","itertools.zip_longest","itertools.pairwise"].contains n && vs[0]? == some (rawInt _))=true then _ else _) Q E s; rw [if_neg (by intro h; rw [hn,Bool.false_and] at h; cases h)]; exact wpAny_pure hQ))
noncomputable def Itl (K:PySem.W.Frag) (a:Addr):It:=
 ⟨fun i H=>∃ xs x,SqL K H a xs/\xs[i]? =some x,fun i H x H' =>H' =H/\∀ xs,SqL K H a xs->xs[i]? =some x,fun i H=>∃ xs,SqL K H a xs/\xs.length<=i⟩
noncomputable def Itt (K:PySem.W.Frag) (a:Addr):It:=
 ⟨fun i H=>∃ xs x,SqT K H a xs/\xs[i]? =some x,fun i H x H' =>H' =H/\∀ xs,SqT K H a xs->xs[i]? =some x,fun i H=>∃ xs,SqT K H a xs/\xs.length<=i⟩
noncomputable def Itr (lo:Int) (n:Nat):It:=⟨fun i _=>i < n,fun i H x H' =>H' =H/\x= .int (lo+i),fun i _=>n<=i⟩
theorem Vz {P:Program} {w:World} {K:PySem.W.Frag} {tg:Expr} (a it:Addr):Vp P w K tg (Itl K a) [it] it (fun i h=>h.IsListIter it a i) where
 mem:=by simp
 obj:=fun i h st b hb=>by
  have e:b=it:=by simpa using hb
  subst e
  obtain ⟨o,e,c,d⟩:=st
  exact ⟨o,e,fun v z=>by rw [d] at z; cases z⟩
 keep:=fun i h h' st k=>st.at fun o e=>k it (by simp) o e
 item:=by
  intro X hP hw hK hc i pins s σ H E I hf st hg
  subst hP hw hK
  obtain ⟨xs,x,hq,hx⟩:=hg
  obtain ⟨its,rv,p,hz⟩:=I.list hq
  obtain ⟨u,hu,ru⟩:=rv.get hx
  obtain ⟨f0,f1,f2,f3,f4,f5⟩:=hf it (by simp)
  refine wpAny_pyNext_list_item st p.isList (x:=u) (by simpa using hu) fun h' st' sb=> ?_
  have I1:Inv X pins σ H { s with heap:=h' }:=I.turned (t' :=s.toks) (fun b o hb e=>(sb.2 b hb).trans e) f0 f1 f3 f4 f5
  obtain ⟨o,e,c,d⟩:=id st'
  exact ⟨u,rfl,vw (s:={ s with heap:=h' }) e c d (by decide) ⟨x,H,I1,ru,⟨rfl,fun ys hy=>by rw [I.list_inj hy hq]; exact hx⟩,st',fun b hb=>(hf b hb).1⟩⟩
 done:=by
  intro X hP hw hK hc i pins s σ H E I hf st hg
  subst hP hw hK
  obtain ⟨xs,hq,hx⟩:=hg
  obtain ⟨its,rv,p,hz⟩:=I.list hq
  obtain ⟨f0,f1,f2,f3,f4,f5⟩:=hf it (by simp)
  have hl:=rv.length
  exact wpAny_pyNext_list_end (I.ok.hd hc) st p.isList (by simp; omega) fun h' eb=>⟨rfl,I.turned (t' :=s.toks) (fun b o hb e=>eb b o hb e) f0 f1 f3 f4 f5⟩
 self:=fun _ _ _ _ _ st h=>wpAny_pyIter_listiter st h
theorem vx {P:Program} {w:World} {K:PySem.W.Frag} {tg:Expr} (a it:Addr):Vp P w K tg (Itt K a) [it] it (fun i h=>h.IsTupleIter it a i) where
 mem:=by simp
 obj:=fun i h st b hb=>by
  have e:b=it:=by simpa using hb
  subst e
  obtain ⟨o,e,c,d⟩:=st
  exact ⟨o,e,fun v z=>by rw [d] at z; cases z⟩
 keep:=fun i h h' st k=>st.at fun o e=>k it (by simp) o e
 item:=by
  intro X hP hw hK hc i pins s σ H E I hf st hg
  subst hP hw hK
  obtain ⟨xs,x,hq,hx⟩:=hg
  obtain ⟨its,rv,p,hz⟩:=I.tuple hq
  obtain ⟨u,hu,ru⟩:=rv.get hx
  obtain ⟨f0,f1,f2,f3,f4,f5⟩:=hf it (by simp)
  refine wpAny_pyNext_tuple_item st (show s.heap.IsTuple a its.toArray from p) (x:=u) (by simpa using hu) fun h' st' sb=> ?_
  have I1:Inv X pins σ H { s with heap:=h' }:=I.turned (t' :=s.toks) (fun b o hb e=>(sb.2 b hb).trans e) f0 f1 f3 f4 f5
  obtain ⟨o,e,c,d⟩:=id st'
  exact ⟨u,rfl,vw (s:={ s with heap:=h' }) e c d (by decide) ⟨x,H,I1,ru,⟨rfl,fun ys hy=>by rw [I.tuple_inj hy hq]; exact hx⟩,st',fun b hb=>(hf b hb).1⟩⟩
 done:=by
  intro X hP hw hK hc i pins s σ H E I hf st hg
  subst hP hw hK
  obtain ⟨xs,hq,hx⟩:=hg
  obtain ⟨its,rv,p,hz⟩:=I.tuple hq
  obtain ⟨f0,f1,f2,f3,f4,f5⟩:=hf it (by simp)
  have hl:=rv.length
  exact wpAny_pyNext_tuple_end (I.ok.hd hc) st (show s.heap.IsTuple a its.toArray from p) (by simp; omega) fun h' eb=>⟨rfl,I.turned (t' :=s.toks) (fun b o hb e=>eb b o hb e) f0 f1 f3 f4 f5⟩
 self:=fun _ _ _ _ _ st h=>wpAny_pyIter_tupleiter st h
theorem vy {P:Program} {w:World} {K:PySem.W.Frag} {tg:Expr} (it:Addr) (lo:Int) (n:Nat):Vp P w K tg (Itr lo n) [it] it (fun i h=>IsRangeIter h it (lo+(i:Nat)*1) ((n:Int) - (i:Nat)) 1) where
 mem:=by simp
 obj:=fun i h st b hb=>by
  have e:b=it:=by simpa using hb
  subst e
  exact ⟨_,st,fun v z=>by
   have z' :Data.fields _=Data.cell v:=z
   cases z'⟩
 keep:=fun i h h' st k=>k it (by simp) _ st
 item:=by
  intro X hP hw hK hc i pins s σ H E I hf st hg
  subst hP hw hK
  obtain ⟨f0,f1,f2,f3,f4,f5⟩:=hf it (by simp)
  have W:=Walks.range (prog:=X.prog) (w:=X.w) (I.ok.hd hc) it lo 1 n
  refine W.item i s _ _ hg st fun v h' tk hv st' kk=> ?_
  obtain ⟨t,rfl⟩:=hv
  have I1:Inv X pins σ H { s with heap:=h',toks:=tk }:=I.turned (fun b o hb e=>kk b o (by simpa using hb) e) f0 f1 f3 f4 f5
  refine ⟨_,rfl,vw (s:={ s with heap:=h',toks:=tk }) (n:="range_iterator") st' rfl rfl (by decide) ⟨.int (lo+i),H,I1,⟨t, ?_⟩,⟨rfl,rfl⟩,st',fun b hb=>(hf b hb).1⟩⟩
  rw [Int.mul_one]
 done:=by
  intro X hP hw hK hc i pins s σ H E I hf st hg
  subst hP hw hK
  obtain ⟨f0,f1,f2,f3,f4,f5⟩:=hf it (by simp)
  exact wpAny_pyNext_range_end (I.ok.hd hc) st (by have:n<=i:=hg; omega) fun h' eb=>⟨rfl,I.turned (t' :=s.toks) (fun b o hb e=>eb b o hb e) f0 f1 f3 f4 f5⟩
 self:=fun _ _ _ _ _ st h=>wpAny_pyIter_rangeiter st h
end L2
namespace L2
open PySem PySem.Spec PyProof.Rows
section
variable {X:Cx} {tg:Expr}
theorem QH {pins:List (Addr×Obj)} {σ:St} {H:Hp} {s:Shared} {R:It->Hp->Prop} {E:Value->Shared->Prop} {lo hi:Int} {t u v:Tok} {tk:Nat} (I:Inv X pins σ H s) (h1: -(2 ^ 62)<=lo) (h2:lo < 2 ^ 62) (h3: -(2 ^ 62)<=hi) (h4:hi < 2 ^ 62)
  (q:R (Itr lo (hi - lo).toNat) H):wpAny (model X.prog X.w) X.A (pyIter (.ref s.heap.objs.size)) (PIE X pins σ tg R) E { s with heap:=s.heap.push { cls:= .type "range",data:= .fields #[.int lo t, .int hi u, .int 1 v] },toks:=tk }:=by
 refine wpAny_pyIter_range (IsRange.new ..) (small_one h1 h2 h3 h4) ?_
 have I1:Inv X pins σ H { s with heap:=s.heap.push { cls:= .type "range",data:= .fields #[.int lo t, .int hi u, .int 1 v] },toks:=tk }:=I.kept fun b o e=>Heap.get?_push_of_some _ e
 refine ⟨(s.heap.push { cls:= .type "range",data:= .fields #[.int lo t, .int hi u, .int 1 v] }).objs.size,[(s.heap.push { cls:= .type "range",data:= .fields #[.int lo t, .int hi u, .int 1 v] }).objs.size],_,_,H,rfl,
  I1.kept (t' :=tk) fun b o e=>Heap.get?_push_of_some _ e,vy _ lo (hi - lo).toNat, ?_,fun b hb=> ?_,q⟩
 ·have e1:lo+((0:Nat):Int)*1=lo:=by simp
  have e2:(((hi - lo).toNat:Nat):Int) - ((0:Nat):Int)=Builtin.Range.rangeSize lo hi 1:=by rw [rangeSize_one]; split <;> omega
  show IsRangeIter _ _ (lo+((0:Nat):Int)*1) ((((hi - lo).toNat:Nat):Int) - ((0:Nat):Int)) 1
  rw [e1,e2]
  exact Heap.get?_push_size _ rfl
 ·have e:b=(s.heap.push { cls:= .type "range",data:= .fields #[.int lo t, .int hi u, .int 1 v] }).objs.size:=by simpa using hb
  subst e
  exact I1.fpOk (Nat.le_refl _) (I1.hok.fresh (Nat.le_refl _))
noncomputable def z1M (ta:TA):TI:=fun σ H R=>ta σ H fun vs H1=>∃ j:Int,vs=[.int j]/\ -(2 ^ 62)<=j/\j < 2 ^ 62/\R (Itr 0 j.toNat) H1
noncomputable def z1N (ta:TA):TI:=fun σ H R=>ta σ H fun vs H1=>∃ i j:Int,vs=[.int i, .int j]/\(-(2 ^ 62)<=i/\i < 2 ^ 62/\ -(2 ^ 62)<=j/\j < 2 ^ 62)/\R (Itr i (j - i).toNat) H1
theorem VA {a:Expr} {ta:TA} {p pos:Pos} (hg:Gl X "range") (hm:X.mg "range"=none) (ha:PA X [a] ta) (hs:starEach [a] X.env=[(false,eval a X.env)]:=by rfl):PI X tg (.Call (.Name "range" p) [a] [] pos) (z1M ta):=by
 intro pins s σ H R I h
 refine Call_ (wH I hg hm boot_range (PyProof.Rows.callWith_type1 (thn (ha pos pins s σ H _ I h) fun us s1 ⟨vs,H1,I1,r1,q1⟩=> ?_) hs rfl))
 obtain ⟨j,e,q1,q2,q⟩:=q1
 subst e
 cases r1 with
 | cons r rr=>
  cases rr
  obtain ⟨t,rfl⟩:=r
  exact call_range_1 (QH I1 (by omega) (by omega) q1 q2 (by simpa using q))
theorem VB {a b:Expr} {ta:TA} {p pos:Pos} (hg:Gl X "range") (hm:X.mg "range"=none) (ha:PA X [a,b] ta) (hs:starEach [a,b] X.env=[(false,eval a X.env),(false,eval b X.env)]:=by rfl) (hs2:starEach [b] X.env=[(false,eval b X.env)]:=by rfl):
  PI X tg (.Call (.Name "range" p) [a,b] [] pos) (z1N ta):=by
 intro pins s σ H R I h
 refine Call_ (wH I hg hm boot_range (PyProof.Rows.callWith_type1 (thn (ha pos pins s σ H _ I h) fun us s1 ⟨vs,H1,I1,r1,q1⟩=> ?_) (by rw [hs,hs2]) (by rw [hs2]; rfl)))
 obtain ⟨i,j,e,⟨q1,q2,q3,q4⟩,q⟩:=q1
 subst e
 cases r1 with
 | cons r rr=>
  cases rr with
  | cons r' rr=>
   cases rr
   obtain ⟨t,rfl⟩:=r
   obtain ⟨t',rfl⟩:=r'
   exact call_range_2 (QH I1 q1 q2 q3 q4 q)
noncomputable def tFor (wi:TI) (g:TG) (tb:TS):TS:=fun D σ H=>wi σ H fun J H1=>∃ W:Nat->Nat->St->Hp->Prop,(∃ m,W 0 m σ H1)/\∀ i m σ H,W i m σ H->
 (J.stop i H/\D.nx σ H)\/(J.go i H/\∃ N:St->Hp->Prop,(∀ σ' H',N σ' H' ->∃ m',m' < m/\W (i+1) m' σ' H')/\∀ x H',J.yld i H x H' ->g x σ H' fun σ2 H2=>tb { D with nx:=N,ct:=N,bk:=D.nx } σ2 H2)
noncomputable def Yy (fp:List Addr) (h:Heap):List (Addr×Obj):=fp.filterMap fun b=>(h.get? b).map fun o=>(b,o)
theorem Wb {fp:List Addr} {h:Heap} {b:Addr} {o:Obj} (hb:b∈fp) (e:h.get? b=some o):(b,o)∈Yy fp h:=List.mem_filterMap.mpr ⟨b,hb,by rw [e]; rfl⟩
theorem VC {fp:List Addr} {h:Heap} {p:Addr×Obj} (hp:p∈Yy fp h):p.1∈fp/\h.get? p.1=some p.2:=by
 obtain ⟨b,hb,e⟩:=List.mem_filterMap.mp hp
 cases q:h.get? b with
 | none=>rw [q] at e; cases e
 | some o=>
  rw [q] at e
  have e' :(b,o)=p:=Option.some.inj e
  subst e'
  exact ⟨hb,q⟩
theorem Inv.pinned {pins:List (Addr×Obj)} {σ:St} {H:Hp} {s:Shared} {fp:List Addr} (I:Inv X pins σ H s) (hf:∀ b∈fp,Yx X pins H b) (ho:∀ b∈fp,∃ o,s.heap.get? b=some o/\∀ v,o.data ≠ .cell v):Inv X (pins++Yy fp s.heap) σ H s:=
 I.pins_of fun p hp=>(List.mem_append.mp hp).elim (fun z=>I.pin p (List.mem_append_right _ z)) fun z=>by
  obtain ⟨hb,e⟩:=VC z
  obtain ⟨f0,f1,f2,_⟩:=hf p.1 hb
  obtain ⟨o,e',d⟩:=ho p.1 hb
  rw [e] at e'; cases e'
  exact ⟨e,f0,f1,f2,d⟩
theorem Inv.unpinned {pins pl:List (Addr×Obj)} {σ:St} {H:Hp} {s:Shared} (I:Inv X (pins++pl) σ H s):Inv X pins σ H s:=I.pins_of fun p hp=>I.pin p (List.mem_append_right _ (List.mem_append_left _ hp))
theorem GZ {iter:Expr} {body:List Stmt} {wi:TI} {g:TG} {tb:TS} {pos:Pos} (hp:PassesOwn (model X.prog X.w) X.A X.env X.xe) (hc:X.calm=true) (hi:PI X tg iter wi) (hg:PG X tg g) (hb:PSs X body tb)
  (hs:∀ x,foldedSetIterable iter X.env x=pure x:=by intro _; rfl):PS X (.For tg iter body [] pos) (tFor wi g tb):=by
 intro pins s σ H D I h
 refine wpAny_For (thn (hi pins s σ H _ I h) fun v s1 h1=>thn h1 fun itv s2 h2=> ?_) hs
 obtain ⟨it,fp,tn,J,H2,e,I2,T,st2,f2,W,⟨m0,w0⟩,turn⟩:=h2
 subst e
 have stat:∀ {H' :Hp},(∀ b∈fp,H' b=none)->∀ b∈fp,Yx X pins H' b:=fun hn b hb=>⟨hn b hb,(f2 b hb).2⟩
 refine codeAny_forLoop_any (fun n s' =>∃ i σ' H',Inv X pins σ' H' s' /\tn i s'.heap/\(∀ b∈fp,H' b=none)/\W i n σ' H') ?_ m0 ⟨0,σ,H2,I2,st2,fun b hb=>(f2 b hb).1,w0⟩
 rintro n s3 ⟨i,σ3,H3,I3,st3,fr3,w3⟩
 rcases turn i n σ3 H3 w3 with ⟨stop,qn⟩ | ⟨go,N,hN,step⟩
 ·refine wpAny_passesOwn hp (thn (T.done X rfl rfl rfl hc i pins s3 σ3 H3 X.xe I3 (stat fr3) st3 stop) fun r s4 ⟨hr,I4⟩=> ?_)
  subst hr
  exact wpAny_execs_nil ⟨σ3,H3,I4,qn⟩
 ·refine wpAny_passesOwn hp (thn (T.item X rfl rfl rfl hc i pins s3 σ3 H3 X.xe I3 (stat fr3) st3 go) fun r s4 ⟨u,hr,h4⟩=> ?_)
  subst hr
  refine wpAny_passesOwn hp (thn h4 fun _ s5 ⟨x,H5,I5,r5,y5,st5,fr5⟩=> ?_)
  have I5' :=I5.pinned (stat fr5) (T.obj _ _ st5)
  refine wpAny_passesOwn hp (thn (hg _ s5 σ3 H5 x u _ I5' r5 (step x H5 y5)) fun _ s6 ⟨σ6,H6,I6,q6⟩=> ?_)
  refine wpAny_passesOwn hp (thn (hb _ s6 σ6 H6 _ I6 q6) fun f s7 q7=> ?_)
  have again:∀ {σ7:St} {H7:Hp},Inv X (pins++Yy fp s5.heap) σ7 H7 s7->N σ7 H7->∃ m,m < n/\∃ i σ' H',Inv X pins σ' H' s7/\tn i s7.heap/\(∀ b∈fp,H' b=none)/\W i m σ' H' :=fun {σ7 H7} I7 n7=>by
   obtain ⟨m',hm,w7⟩:=hN σ7 H7 n7
   refine ⟨m',hm,i+1,σ7,H7,I7.unpinned,T.keep _ _ _ st5 fun b hb o e=>(I7.pin (b,o) (List.mem_append_right _ (List.mem_append_right _ (Wb hb e)))).1,fun b hb=> ?_,w7⟩
   obtain ⟨o,e,d⟩:=T.obj _ _ st5 b hb
   exact (I7.pin (b,o) (List.mem_append_right _ (List.mem_append_right _ (Wb hb e)))).2.1
  cases f with
  | next=>obtain ⟨σ7,H7,I7,n7⟩:=q7; exact again I7 n7
  | cont=>obtain ⟨σ7,H7,I7,n7⟩:=q7; exact again I7 n7
  | brk=>obtain ⟨σ7,H7,I7,q7⟩:=q7; exact ⟨σ7,H7,I7.unpinned,q7⟩
  | ret v=>obtain ⟨x7,σ7,H7,I7,r7,q7⟩:=q7; exact ⟨x7,σ7,H7,I7.unpinned,r7,q7⟩
end
end L2
namespace L2
open PySem PySem.Spec PyProof.Rows
noncomputable abbrev R2:=V->V->Hp->VK->Prop
noncomputable def OpR (X:Cx) (f:Value->Value->Sem Value) (r:R2):Prop:=
 ∀ (pins:List (Addr×Obj)) (s:Shared) (σ:St) (H:Hp) (x y:V) (v u:Value) (Q:VK),Inv X pins σ H s->jk x v->jk y u->r x y H Q->
  wpAny (model X.prog X.w) X.A (f v u) (EP X pins σ Q) X.xe s
noncomputable def UnR (X:Cx) (f:Value->Sem Value) (r:V->Hp->VK->Prop):Prop:=
 ∀ (pins:List (Addr×Obj)) (s:Shared) (σ:St) (H:Hp) (x:V) (v:Value) (Q:VK),Inv X pins σ H s->jk x v->r x H Q->
  wpAny (model X.prog X.w) X.A (f v) (EP X pins σ Q) X.xe s
noncomputable def Jn (X:Cx) (f:Value) (r:List V->Hp->VK->Prop):Prop:=
 ∀ (pins:List (Addr×Obj)) (s:Shared) (σ:St) (H:Hp) (xs:List V) (us:List Value) (Q:VK),Inv X pins σ H s->ZD xs us->r xs H Q->
  wpAny (model X.prog X.w) X.A (call f us) (EP X pins σ Q) X.xe s
noncomputable def TruR (X:Cx) (r:V->Hp->(Bool->Hp->Prop)->Prop):Prop:=
 ∀ (pins:List (Addr×Obj)) (s:Shared) (σ:St) (H:Hp) (x:V) (v:Value) (Q:Bool->Hp->Prop),Inv X pins σ H s->jk x v->r x H Q->
  wpAny (model X.prog X.w) X.A (truthy v) (TP X pins σ Q) X.xe s
noncomputable def tOp (r:R2) (ta tb:TE):TE:=fun σ H Q=>ta σ H fun x H1=>tb σ H1 fun y H2=>r x y H2 Q
noncomputable def tUn (r:V->Hp->VK->Prop) (ta:TE):TE:=fun σ H Q=>ta σ H fun x H1=>r x H1 Q
noncomputable def rI (C:Int->Int->Prop) (g:Int->Int->V):R2:=fun x y H Q=>∃ i j,x= .int i/\y= .int j/\C i j/\Q (g i j) H
noncomputable def rI0 (g:Int->Int->V):R2:=fun x y H Q=>∃ i j,x= .int i/\y= .int j/\Q (g i j) H
noncomputable def rU (g:Int->V):V->Hp->VK->Prop:=fun x H Q=>∃ i,x= .int i/\Q (g i) H
section
variable {X:Cx} {a b c:Expr} {ta tb tc:TE} {pos:Pos}
theorem z1O (ha:PE X a ta) (hb:PE X b tb) {pins:List (Addr×Obj)} {s:Shared} {σ:St} {H:Hp} {R:V->V->Hp->Prop} (I:Inv X pins σ H s)
  (h:ta σ H fun x H1=>tb σ H1 fun y H2=>R x y H2) {Q:Value->Shared->Prop} {f:Value->Value->Sem Value}
  (hf:∀ v u s2 x y H2,Inv X pins σ H2 s2->jk x v->jk y u->R x y H2->wpAny (model X.prog X.w) X.A (f v u) Q X.xe s2):
  wpAny (model X.prog X.w) X.A (eval a X.env) (fun v s₁=>wpAny (model X.prog X.w) X.A (eval b X.env) (fun u s₂=>wpAny (model X.prog X.w) X.A (f v u) Q X.xe s₂) X.xe s₁) X.xe s:=by
 refine thn (ha pins s σ H _ I h) fun v s1 ⟨x,H1,I1,r1,q1⟩=> ?_
 refine thn (hb pins s1 σ H1 _ I1 q1) fun u s2 ⟨y,H2,I2,r2,q2⟩=> ?_
 exact hf v u s2 x y H2 I2 r1 r2 q2
theorem z1P {op:Operator} {r:R2} (ho:OpR X (binaryOp op) r) (ha:PE X a ta) (hb:PE X b tb):PE X (.BinOp a op b pos) (tOp r ta tb):=by
 intro pins s σ H Q I h
 exact wpAny_BinOp (z1O ha hb I h fun v u s2 x y H2 I2 rx ry q=>ho pins s2 σ H2 x y v u Q I2 rx ry q)
theorem z1Q {op:UnaryOp} {r:V->Hp->VK->Prop} (ho:UnR X (unaryOp op) r) (ha:PE X a ta):PE X (.UnaryOp op a pos) (tUn r ta):=by
 intro pins s σ H Q I h
 exact UnaryOp_ (thn (ha pins s σ H _ I h) fun v s1 ⟨x,H1,I1,r1,q1⟩=>ho pins s1 σ H1 x v Q I1 r1 q1)
theorem opI {f:Value->Value->Sem Value} {C:Int->Int->Prop} {g:Int->Int->Int}
  (rule:∀ (i j:Int) (t u:Tok) (s:Shared) (Q:Value->Shared->Prop) (E:Value->Shared->Prop),C i j->Q (.int (g i j) s.toks) { s with toks:=s.toks+1 }->wpAny (model X.prog X.w) X.A (f (.int i t) (.int j u)) Q E s):
  OpR X f (rI C fun i j=> .int (g i j)):=by
 intro pins s σ H x y v u Q I rx ry h
 obtain ⟨i,j,rfl,rfl,hc,q⟩:=h
 obtain ⟨t,rfl⟩:=rx
 obtain ⟨t',rfl⟩:=ry
 exact rule i j t t' s _ _ hc ⟨.int (g i j),H,I.tok _,⟨_,rfl⟩,q⟩
theorem opI0 {f:Value->Value->Sem Value} {g:Int->Int->Int}
  (rule:∀ (i j:Int) (t u:Tok) (s:Shared) (Q:Value->Shared->Prop) (E:Value->Shared->Prop),Q (.int (g i j) s.toks) { s with toks:=s.toks+1 }->wpAny (model X.prog X.w) X.A (f (.int i t) (.int j u)) Q E s):
  OpR X f (rI0 fun i j=> .int (g i j)):=by
 intro pins s σ H x y v u Q I rx ry h
 obtain ⟨i,j,rfl,rfl,q⟩:=h
 obtain ⟨t,rfl⟩:=rx
 obtain ⟨t',rfl⟩:=ry
 exact rule i j t t' s _ _ ⟨.int (g i j),H,I.tok _,⟨_,rfl⟩,q⟩
theorem z1o {f:Value->Value->Sem Value} {g:Int->Int->Bool}
  (rule:∀ (i j:Int) (t u:Tok) (s:Shared) (Q:Value->Shared->Prop) (E:Value->Shared->Prop),Q (.bool (g i j)) s->wpAny (model X.prog X.w) X.A (f (.int i t) (.int j u)) Q E s):
  OpR X f (rI0 fun i j=> .bl (g i j)):=by
 intro pins s σ H x y v u Q I rx ry h
 obtain ⟨i,j,rfl,rfl,q⟩:=h
 obtain ⟨t,rfl⟩:=rx
 obtain ⟨t',rfl⟩:=ry
 exact rule i j t t' s _ _ ⟨.bl (g i j),H,I,rfl,q⟩
noncomputable def CDiv (i j:Int):Prop:=0 < j/\j < 1073741824
noncomputable def Ys (i j:Int):Prop:=(-(2 ^ 64) < i/\i < 2 ^ 64)\/(-(2 ^ 64) < j/\j < 2 ^ 64)
theorem Ys.ok {i j:Int} (h:Ys i j):IntMulOk i j:=by
 rcases h with ⟨h1,h2⟩ | ⟨h1,h2⟩
 ·exact .of_left (intBits_le_64 h1 h2)
 ·exact .of_right (intBits_le_64 h1 h2)
theorem z00:OpR X (binaryOp .Add) (rI0 fun i j=> .int (i+j)):=opI0 fun _ _ _ _ _ _ _ q=>add_int q
theorem z01:OpR X (binaryOp .Sub) (rI0 fun i j=> .int (i - j)):=opI0 fun _ _ _ _ _ _ _ q=>sub_int q
theorem z02:OpR X (binaryOp .Mult) (rI Ys fun i j=> .int (i*j)):=opI fun _ _ _ _ _ _ _ hc q=>mul_int q hc.ok
theorem KN:OpR X (binaryOp .FloorDiv) (rI CDiv fun i j=> .int (i / j)):=opI fun i j _ _ _ _ _ hc q=>by
 have h1:(0:Int) < j:=hc.1
 have h2:j < 1073741824:=hc.2
 exact floordiv_int (by omega) (by rw [Int.fdiv_eq_ediv_of_nonneg i (by omega)]; exact q) (.inl (PyProof.noPylong_small (by omega)))
theorem z03:OpR X (binaryOp .Mod) (rI (fun _ j=>0 < j) fun i j=> .int (i % j)):=opI fun i j _ _ _ _ _ hc q=>by
 have h1:(0:Int) < j:=hc
 exact mod_int' (by omega) (by rw [Int.fmod_eq_emod_of_nonneg i (by omega)]; exact q)
theorem unI {f:Value->Sem Value} {g:Int->Int}
  (rule:∀ (i:Int) (t:Tok) (s:Shared) (Q:Value->Shared->Prop) (E:Value->Shared->Prop),Q (.int (g i) s.toks) { s with toks:=s.toks+1 }->wpAny (model X.prog X.w) X.A (f (.int i t)) Q E s):
  UnR X f (rU fun i=> .int (g i)):=by
 intro pins s σ H x v Q I rx h
 obtain ⟨i,rfl,q⟩:=h
 obtain ⟨t,rfl⟩:=rx
 exact rule i t s _ _ ⟨.int (g i),H,I.tok _,⟨_,rfl⟩,q⟩
theorem z04:UnR X (unaryOp .USub) (rU fun i=> .int (-i)):=unI fun _ _ _ _ _ q=>neg_int q
theorem VD:OpR X (binaryOp .Add) (fun x y H Q=>∃ i k,x= .int i/\y= .bl k/\Q (.int (i+b2i k)) H):=by
 intro pins s σ H x y v u Q I rx ry h
 obtain ⟨i,k,rfl,rfl,q⟩:=h
 obtain ⟨t,rfl⟩:=rx
 cases ry
 exact add_int_bool ⟨.int (i+b2i k),H,I.tok _,⟨_,rfl⟩,q⟩
end
section
variable {X:Cx} {a b c:Expr} {ta tb tc:TE} {pos:Pos}
theorem z1R:OpR X (compareOp .Lt) (rI0 fun i j=> .bl (decide (i < j))):=z1o fun _ _ _ _ _ _ _ q=>lt_int q
theorem z1S:OpR X (compareOp .LtE) (rI0 fun i j=> .bl (decide (i<=j))):=z1o fun _ _ _ _ _ _ _ q=>le_int q
theorem z1T:OpR X (compareOp .Gt) (rI0 fun i j=> .bl (decide (j < i))):=z1o fun _ _ _ _ _ _ _ q=>gt_int q
theorem z1U:OpR X (compareOp .GtE) (rI0 fun i j=> .bl (decide (j<=i))):=z1o fun _ _ _ _ _ _ _ q=>ge_int q
theorem zl (b:Expr) {op:CmpOp} (h:op ≠ .In:=by decide) (h2:op ≠ .NotIn:=by decide):behindInMarks op b=false:=by
 have e1:(op == CmpOp.In)=false:=by cases op <;> first | rfl | exact absurd rfl h
 have e2:(op == CmpOp.NotIn)=false:=by cases op <;> first | rfl | exact absurd rfl h2
 cases b <;> simp [behindInMarks,e1,e2]
theorem KO {op:CmpOp} {r:R2} (ho:OpR X (compareOp op) r) (ha:PE X a ta) (hb:PE X b tb) (hm:behindInMarks op b=false):PE X (.Compare a [op] [b] pos) (tOp r ta tb):=by
 intro pins s σ H Q I h
 exact wpAny_Compare1 (z1O ha hb I h fun v u s2 x y H2 I2 rx ry q=>ho pins s2 σ H2 x y v u Q I2 rx ry q) hm
noncomputable def z05 (t:TE):TT:=fun σ H Q=>t σ H fun x H' =>∃ k,x= .bl k/\Q k H'
theorem KP {op:CmpOp} {r:R2} (ho:OpR X (compareOp op) r) (ha:PE X a ta) (hb:PE X b tb) (hm:behindInMarks op b=false):PT X (.Compare a [op] [b] pos) (z05 (tOp r ta tb)):=by
 intro pins s σ H Q I h
 refine wpAny_isTrue_Compare1 (thn (ha pins s σ H _ I h) fun v s1 ⟨x,H1,I1,r1,q1⟩=>thn (hb pins s1 σ H1 _ I1 q1) fun u s2 ⟨y,H2,I2,r2,q2⟩=>
  thn (ho pins s2 σ H2 x y v u _ I2 r1 r2 q2) fun c s3 ⟨z,H3,I3,r3,k,e,q3⟩=> ?_) hm
 subst e
 cases r3
 exact wpAny_truthy_bool ⟨H3,I3,q3⟩
noncomputable def K7 (r r' :R2) (ta tb tc:TE):TE:=fun σ H Q=>ta σ H fun x H1=>tb σ H1 fun y H2=>r x y H2 fun z H3=>∃ k,z= .bl k/\
 (if k=true then tc σ H3 fun w' H4=>r' y w' H4 Q else Q (.bl false) H3)
theorem XW {op op' :CmpOp} {r r' :R2} (ho:OpR X (compareOp op) r) (ho' :OpR X (compareOp op') r') (ha:PE X a ta) (hb:PE X b tb) (hc:PE X c tc)
  (hm:lastMarks [op,op'] [b,c]=false:=by with_unfolding_all rfl):PE X (.Compare a [op,op'] [b,c] pos) (K7 r r' ta tb tc):=by
 intro pins s σ H Q I h
 refine Compare_chain (thn (ha pins s σ H _ I h) fun v s1 ⟨x,H1,I1,r1,q1⟩=>chain_link (thn (hb pins s1 σ H1 _ I1 q1) fun u s2 ⟨y,H2,I2,r2,q2⟩=>
  thn (ho pins s2 σ H2 x y v u _ I2 r1 r2 q2) fun d s3 ⟨z,H3,I3,r3,k,e,q3⟩=> ?_)) hm
 subst e
 cases r3
 refine wpAny_truthy_bool ?_
 cases k with
 | false=>exact ite_ff ⟨.bl false,H3,I3,rfl,q3⟩
 | true=>exact ite_tt (chain_last (thn (hc pins s3 σ H3 _ I3 q3) fun w' s4 ⟨z',H4,I4,r4,q4⟩=>ho' pins s4 σ H4 y z' u w' Q I4 r2 r4 q4))
theorem XX {op op' :CmpOp} {r r' :R2} (ho:OpR X (compareOp op) r) (ho' :OpR X (compareOp op') r') (ha:PE X a ta) (hb:PE X b tb) (hc:PE X c tc)
  (hm:lastMarks [op,op'] [b,c]=false:=by with_unfolding_all rfl):PT X (.Compare a [op,op'] [b,c] pos) (z05 (K7 r r' ta tb tc)):=by
 intro pins s σ H Q I h
 refine isTrue_chain (thn (ha pins s σ H _ I h) fun v s1 ⟨x,H1,I1,r1,q1⟩=>test_link (thn (hb pins s1 σ H1 _ I1 q1) fun u s2 ⟨y,H2,I2,r2,q2⟩=>
  thn (ho pins s2 σ H2 x y v u _ I2 r1 r2 q2) fun d s3 ⟨z,H3,I3,r3,k,e,q3⟩=> ?_)) hm
 subst e
 cases r3
 refine wpAny_truthy_bool ?_
 cases k with
 | false=>
  obtain ⟨k',e',q'⟩:=q3
  cases e'
  exact ite_ff ⟨H3,I3,q'⟩
 | true=>
  refine ite_tt (test_last (thn (hc pins s3 σ H3 _ I3 q3) fun w' s4 ⟨z',H4,I4,r4,q4⟩=>thn (ho' pins s4 σ H4 y z' u w' _ I4 r2 r4 q4) fun d' s5 ⟨z2,H5,I5,r5,k2,e2,q5⟩=> ?_))
  subst e2
  cases r5
  exact wpAny_truthy_bool ⟨H5,I5,q5⟩
noncomputable def TruV (K:PySem.W.Frag) (x:V) (H:Hp) (k:Bool):Prop:=
 match x with
 | .non=>k=false
 | .bl b=>k=b
 | .int i=>k=(i != 0)
 | .str y=>y.length<=sizeLine/\k=((y.length:Int) != 0)
 | .byt y=>y.size<=sizeLine/\k=((y.size:Int) != 0)
 | .ref p=>(∃ xs,SqL K H p xs/\k= !xs.isEmpty)\/(∃ xs,SqT K H p xs/\k= !xs.isEmpty)\/∃ kvs,H p=some (.dK kvs)/\k= !kvs.isEmpty
 | _=>False
theorem vz {κ:Type} {kvs:List (κ×V)} {vs:List (κ×Value)} (r:KV kvs vs):(!vs.isEmpty)= !kvs.isEmpty:=by
 cases r <;> rfl
theorem yn {xs:List V} {its:List Value} (r:ZD xs its):(!its.toArray.isEmpty)= !xs.isEmpty:=by
 cases r <;> simp
theorem yo:(sizeLine:Nat) < 2 ^ 63:=by rw [sizeLine_eq]; decide
theorem z06:TruR X (fun x H Q=>∃ k,TruV X.K x H k/\Q k H):=by
 intro pins s σ H x v Q I rx h
 obtain ⟨k,e,q⟩:=h
 have hl:=yo
 have hs:sizeLine=16777216:=sizeLine_eq
 cases x with
 | non=>
  cases rx
  have e' :k=false:=e
  subst e'
  exact truthy_none ⟨H,I,q⟩
 | bl b=>
  cases rx
  have e' :k=b:=e
  subst e'
  exact wpAny_truthy_bool ⟨H,I,q⟩
 | int i=>
  obtain ⟨t,rfl⟩:=rx
  have e' :k=(i != 0):=e
  subst e'
  exact PySem.P.truthy_int ⟨H,I,q⟩
 | str y=>
  obtain ⟨t,rfl⟩:=rx
  obtain ⟨hy,e'⟩:y.length<=sizeLine/\k=((y.length:Int) != 0):=e
  subst e'
  exact PySem.P.truthy_str (by omega) ⟨H,I.tok _,q⟩
 | byt y=>
  obtain ⟨t,rfl⟩:=rx
  obtain ⟨hy,e'⟩:y.size<=sizeLine/\k=((y.size:Int) != 0):=e
  subst e'
  exact PySem.W.truthy_bytes (by omega) ⟨H,I.tok _,q⟩
 | ref p=>
  cases rx
  have e' :(∃ xs,SqL X.K H p xs/\k= !xs.isEmpty)\/(∃ xs,SqT X.K H p xs/\k= !xs.isEmpty)\/∃ kvs,H p=some (.dK kvs)/\k= !kvs.isEmpty:=e
  rcases e' with ⟨xs,hx,e'⟩ | ⟨xs,hx,e'⟩ | ⟨kvs,hx,e'⟩
  ·subst e'
   obtain ⟨its,r,pl,hz⟩:=I.list hx
   have hlen:=r.length
   exact wpAny_truthy_list pl.isList (by simp only [List.size_toArray]; omega) ⟨H,I.tok _,by rw [yn r]; exact q⟩
  ·subst e'
   obtain ⟨its,r,pl,hz⟩:=I.tuple hx
   have hlen:=r.length
   exact truthy_tuple pl (by simp only [List.size_toArray]; omega) ⟨H,I.tok _,by rw [yn r]; exact q⟩
  ·subst e'
   obtain ⟨hz,hS,vs,r,m⟩:kvs.length<=sizeLine/\(p == sysModules)=false/\∃ vs,KV kvs vs/\s.heap.DictOf (qZ X.prog X.w) p vs:=I.hok p _ hx
   have hlen:kvs.length=vs.length:=Paired.length r
   exact wpAny_truthy_dict hS m (by omega) ⟨H,I.tok _,by rw [vz r]; exact q⟩
 | _=>exact (show False from e).elim
theorem XY (ha:PE X a ta) (he:∀ whole,isTrue a X.env whole=(do let v ← whole; standAt a.pos; holding [v] (truthy v))):
  PT X a (fun σ H Q=>ta σ H fun x H' =>∃ k,TruV X.K x H' k/\Q k H'):=by
 intro pins s σ H Q I h
 exact isTrue_plain (thn (ha pins s σ H _ I h) fun v s1 ⟨x,H1,I1,r1,q1⟩=>z06 pins s1 σ H1 x v Q I1 r1 q1) (he _)
theorem vA:OpR X (binaryOp .Add) (fun x y H Q=>∃ i j,x= .str i/\y= .str j/\i.length+j.length<=sizeLine/\Q (.str (i++j)) H):=by
 intro pins s σ H x y v u Q I rx ry h
 obtain ⟨i,j,rfl,rfl,hz,q⟩:=h
 obtain ⟨t,rfl⟩:=rx
 obtain ⟨t',rfl⟩:=ry
 exact add_str (fun t' tk=>⟨.str (i++j),H,I.tok _,⟨_,rfl⟩,q⟩) hz
theorem wI {x:V} {us:List Value} (r:ZD [x] us):∃ u,us=[u]/\jk x u:=by
 cases r with
 | cons r1 r2=>cases r2; exact ⟨_,rfl,r1⟩
theorem VE {x y:V} {us:List Value} (r:ZD [x,y] us):∃ u w',us=[u,w']/\jk x u/\jk y w' :=by
 cases r with
 | cons r1 r2=>
  cases r2 with
  | cons r3 r4=>cases r4; exact ⟨_,_,rfl,r1,r3⟩
theorem VF (hc:X.calm=true):Jn X (.builtin "min") (fun xs H Q=>∃ i j,xs=[.int i, .int j]/\Q (.int (if j < i then j else i)) H):=by
 intro pins s σ H xs us Q I r h
 obtain ⟨i,j,rfl,q⟩:=h
 obtain ⟨u,w',rfl,⟨t,rfl⟩,⟨t',rfl⟩⟩:=VE r
 refine min_two_ints (I.ok.hd hc) fun h' tk k=>⟨_,H,I.kept k, ?_,q⟩
 by_cases hj:j < i
 ·rw [if_pos hj,if_pos hj]; exact ⟨_,rfl⟩
 ·rw [if_neg hj,if_neg hj]; exact ⟨_,rfl⟩
theorem VG:Jn X (.type "int") (fun xs H Q=>(∃ i,xs=[.int i]/\Q (.int i) H)\/∃ k,xs=[.bl k]/\Q (.int (if k then 1 else 0)) H):=by
 intro pins s σ H xs us Q I r h
 rcases h with ⟨i,rfl,q⟩ | ⟨k,rfl,q⟩
 ·obtain ⟨u,rfl,t,rfl⟩:=wI r
  exact call_int_int ⟨.int i,H,I,⟨_,rfl⟩,q⟩
 ·obtain ⟨u,rfl,r1⟩:=wI r
  cases r1
  exact call_int_bool ⟨.int (if k then 1 else 0),H,I.tok _,⟨_,rfl⟩,q⟩
end
end L2
namespace L2
open PySem PySem.Spec PyProof.Rows
structure z1V (h:Heap) (x dx C:Addr) (mA:Str->Option Value):Prop where
 obj:h.get? x=some (PySem.W.instObj C dx)
 ns:h.Ns1 dx mA
 ne:dx ≠ x
theorem VH {h:Heap} {dx:Addr} {mA:Str->Option Value} (n:h.Ns1 dx mA):∃ od,h.get? dx=some od/\∀ name,PySem.W.lookIn name od=some (mA name):=by
 obtain ⟨o,es,ep,ho,hd,hk,_,hm⟩:=n
 refine ⟨o,ho,fun name=> ?_⟩
 have e:=hm name
 unfold nsFind findBy at e
 rw [← Array.find?_toList] at e
 unfold PySem.W.lookIn
 rw [hd]
 dsimp only
 split
 ·rename_i y q
  rw [q] at e
  exact congrArg some e
 ·rename_i q
  rw [q] at e
  have a:es.toList.any (·.refKey)=false:=by
   rw [List.any_eq_false]
   intro y hy
   obtain ⟨z,t,hkey⟩:=hk y (Array.mem_toList_iff.mp hy)
   simp [DictEntry.refKey,hkey]
  have a' :¬ es.toList.any (·.refKey)=true:=by rw [a]; exact Bool.false_ne_true
  rw [if_neg a']
  exact congrArg some e
theorem z1V.look {h:Heap} {x dx C:Addr} {mA:Str->Option Value} (I:z1V h x dx C mA):∃ od,PySem.W.InstAt h x (PySem.W.instObj C dx) C (some od)/\∀ name,PySem.W.lookIn name od=some (mA name):=
 let ⟨od,ho,hl⟩:=VH I.ns
 ⟨od,⟨I.obj,rfl,rfl,ho⟩,hl⟩
section
variable {prog:Program} {w:World} {A:Around} {E:Value->Shared->Prop} {s:Shared} {K:PySem.W.Frag} {x dx C f:Addr} {mA:Str->Option Value} {name:Str} {v:Value}
end
section
variable {P:Program} {w:World} {H H' :Hp} {h h' :Heap} {a C dx:Addr} {fs fs' :List (Str×V)}
theorem KQ (hok:HOk P w H h) (e:H a=some (.ins C dx fs)):∃ mA,z1V h a dx C mA/\(∀ f,z1B (fs.lookup f) (mA f))/\PySem.Within mA (fs.map (·.1))/\fs.length<=1000/\H dx=some (.own a):=by
 obtain ⟨d,z,ne,ob,mA,n,r,q⟩:=(show jl P w H h a (.ins C dx fs) from hok a _ e)
 exact ⟨mA,⟨ob,n,ne⟩,r,q,z,d⟩
end
structure Cls (K:PySem.W.Frag) (C:Addr):Prop where
 pg:PySem.W.plainGet K C Str.empty=true
 hd:PySem.W.hasDictIn K C=true
 po:PySem.W.plainOver K C=true
 sa:PySem.W.findIn K (.ref C) "__setattr__"=some (some (.builtin "object.__setattr__"))
theorem Cls.get {K:PySem.W.Frag} {C:Addr} (c:Cls K C) (f:Str):PySem.W.plainGet K C f=true:=c.pg
section
variable {X:Cx} {pins:List (Addr×Obj)} {σ:St} {H:Hp} {s:Shared} {a C dx:Addr} {fs:List (Str×V)} {f:Str} {v:V} {A:Around} {E:Value->Shared->Prop}
end
section
variable {X:Cx} {o e value:Expr} {f:Str} {pos pos' tpos:Pos} {ta tv:TE}
end
section
variable {X:Cx} {pins:List (Addr×Obj)} {σ:St} {H:Hp} {s:Shared} {A:Around} {E:Value->Shared->Prop} {Q:Value->Shared->Prop} {c:Value} {b:Bool}
inductive vC (K:PySem.W.Frag) (H:Hp):V->Value->Prop where
 | non:vC K H .non (.type "NoneType")
 | bl (x:Bool):vC K H (.bl x) (.type "bool")
 | int (i:Int):vC K H (.int i) (.type "int")
 | str (x:Str):vC K H (.str x) (.type "str")
 | flt (x:UInt64):vC K H (.flt x) (.type "float")
 | lst {a:Addr} {xs:List V} (e:H a=some (.lst xs)):vC K H (.ref a) (.type "list")
 | frz {a:Addr} {o:Obj} {xs:List V} (e:H a=some (.frz o (.lst xs))):vC K H (.ref a) (.type "list")
 | tup {a:Addr} {xs:List V} (e:H a=some (.tup xs)):vC K H (.ref a) (.type "tuple")
 | dK {a:Addr} {kvs:List (Key×V)} (e:H a=some (.dK kvs)):vC K H (.ref a) (.type "dict")
 | dT {a:Addr} {kvs:List (List Key×V)} (e:H a=some (.dT kvs)):vC K H (.ref a) (.type "dict")
 | ins {a C dx:Addr} {fs:List (Str×V)} (e:H a=some (.ins C dx fs)) (cl:Cls K C) (ha:PySem.W.findIn K (.ref C) "__class__"=some (some (.builtin "object.__class__")))
   (hn:PySem.W.specialIn K (.builtin "object.__class__") "__get__"=some (some (.builtin "getset_descriptor.__get__"))) (htk:PySem.W.takesIn K (.builtin "object.__class__")=some true)
   (hm:PySem.W.mroIn K C (.type "object")=some true):vC K H (.ref a) (.ref C)
theorem VI {x:V} {u t:Value} (I:Inv X pins σ H s) (rx:jk x u) (ty:vC X.K H x t) (e:PySem.W.kitOne X.K t c=some b) (h:∀ tk,Q (.bool b) { s with toks:=tk }):
  wpAny (model X.prog X.w) A (call (.builtin "isinstance") [u,c]) Q E s:=by
 cases ty with
 | non=>cases (show u=Value.none from rx); exact PySem.W.kia_one PySem.W.kitx_none I.kIn True.intro e (fun z=>nomatch z) h
 | bl y=>cases (show u=Value.bool y from rx); exact PySem.W.kia_one PySem.W.kitx_bool I.kIn True.intro e (fun z=>nomatch z) h
 | int i=>obtain ⟨t,q⟩:=(show ∃ t,u=Value.int i t from rx); cases q; exact PySem.W.kia_one PySem.W.kitx_int I.kIn True.intro e (fun z=>nomatch z) h
 | str y=>obtain ⟨t,q⟩:=(show ∃ t,u=Value.str y t from rx); cases q; exact PySem.W.kia_one PySem.W.kitx_str I.kIn True.intro e (fun z=>nomatch z) h
 | flt y=>obtain ⟨t,q⟩:=(show ∃ t,u=Value.float y t from rx); cases q; exact PySem.W.kia_one PySem.W.kitx_float I.kIn True.intro e (fun z=>nomatch z) h
 | @lst a xs ea=>
  cases (show u=Value.ref a from rx)
  obtain ⟨_,_,n,_,h1⟩:=(show jl X.prog X.w H s.heap a (.lst xs) from I.hok a _ ea)
  exact PySem.W.kia_one PySem.W.kitx_list I.kIn ⟨_,h1,rfl⟩ e (fun z=>nomatch z) h
 | @frz a ob xs ea=>
  cases (show u=Value.ref a from rx)
  obtain ⟨_,_,_,n,_,h1⟩:=(show jl X.prog X.w H s.heap a (.frz ob (.lst xs)) from I.hok a _ ea)
  exact PySem.W.kia_one PySem.W.kitx_list I.kIn ⟨_,h1,rfl⟩ e (fun z=>nomatch z) h
 | @tup a xs ea=>
  cases (show u=Value.ref a from rx)
  obtain ⟨_,_,_,p⟩:=(show jl X.prog X.w H s.heap a (.tup xs) from I.hok a _ ea)
  obtain ⟨o,h1,h2,_⟩:=p
  exact PySem.W.kia_one PySem.W.kitx_tuple I.kIn ⟨o,h1,h2⟩ e (fun z=>nomatch z) h
 | @dK a kvs ea=>
  cases (show u=Value.ref a from rx)
  obtain ⟨_,_,vs,_,p⟩:=(show jl X.prog X.w H s.heap a (.dK kvs) from I.hok a _ ea)
  obtain ⟨o,es,ep,h1,h2,_⟩:=p
  exact PySem.W.kia_one PySem.W.kitx_dict I.kIn ⟨o,h1,h2.1⟩ e (fun z=>nomatch z) h
 | @dT a kvs ea=>
  cases (show u=Value.ref a from rx)
  obtain ⟨_,_,xs,_,o,es,ep,h1,h2,_⟩:=(show jl X.prog X.w H s.heap a (.dT kvs) from I.hok a _ ea)
  exact PySem.W.kia_one PySem.W.kitx_dict I.kIn ⟨o,h1,h2.1⟩ e (fun z=>nomatch z) h
 | @ins a C dx fs ea cl ha hn htk hm=>
  cases (show u=Value.ref a from rx)
  obtain ⟨mA,O,_⟩:=KQ I.hok ea
  obtain ⟨od,J,_⟩:=O.look
  exact PySem.W.kia_one (PySem.W.kitx_own (cl.get _) cl.hd ha hn htk hm) I.kIn J e (fun z=>nomatch z) h
end
end L2
namespace L2
open PySem PySem.Spec PyProof.Rows
structure uW (k:Nat) (A:Around):Prop where
 hd:A.handled=none
 dp:A.depth+3*k+5 < recursionLimit
 un:A.units+16*k+200 < cLine
theorem uW.mono {j k:Nat} {A:Around} (r:uW k A) (h:j<=k):uW j A:=⟨r.hd,by have:=r.dp; omega,by have:=r.un; omega⟩
theorem uW.deeper {k:Nat} {A:Around} (r:uW (k+1) A) (env:Env):uW k (A.deeper env):=
 ⟨r.hd,by have:=r.dp; show A.depth+1+3*k+5 < _; omega,by have:=r.un; show A.units+3+16*k+200 < _; omega⟩
theorem uW.depth {k:Nat} {A:Around} (r:uW k A):A.depth < recursionLimit:=by have:=r.dp; omega
theorem uW.units {k:Nat} {A:Around} (r:uW k A):A.units+64 < cLine:=by have:=r.un; omega
noncomputable def tNil:TA:=fun _ H Q=>Q [] H
noncomputable def z1W (ta:TE) (tr:TA):TA:=fun σ H Q=>ta σ H fun x H1=>tr σ H1 fun xs H2=>Q (x :: xs) H2
section
variable {X:Cx} {e:Expr} {es:List Expr} {te:TE} {t:TA} {pos:Pos}
theorem ZW:PA X [] tNil:=fun _ _ _ _ H Q I h=>Calls.spliced_nil ⟨[],H,I, .nil,h⟩
theorem zS (ha:PE X e te) (hr:PA X es t) (hs:starEach (e :: es) X.env=(false,eval e X.env) :: starEach es X.env:=by rfl):PA X (e :: es) (z1W te t):=by
 intro pos pins s σ H Q I h
 rw [hs]
 show wpAny _ _ (spliced ((false,eval e X.env) :: backTo pos (starEach es X.env))) _ _ s
 refine Calls.spliced_cons (thn (ha pins s σ H _ I h) fun u s1 ⟨x,H1,I1,r1,q1⟩=> ?_)
 exact thn (hr pos pins s1 σ H1 _ I1 q1) fun us s2 ⟨xs,H2,I2,r2,q2⟩=>⟨x :: xs,H2,I2, .cons r1 r2,q2⟩
noncomputable def tTup (t:TA):TE:=fun σ H Q=>t σ H fun xs H1=>xs.length<=sizeLine/\∀ p,H1 p=none->Q (.ref p) (upd H1 p (.tup xs))
noncomputable def tLst (t:TA):TE:=fun σ H Q=>t σ H fun xs H1=>xs.length<=sizeLine/\∀ p,H1 p=none->Q (.ref p) (upd H1 p (.lst xs))
theorem K8 {x1} (h:PA X es t):PE X (.Tuple es x1 pos) (tTup t):=by
 intro pins s σ H Q I hq
 refine wpAny_Tuple_spliced (thn (h pos pins s σ H _ I hq) fun us s1 ⟨xs,H1,I1,r,z,q⟩=>⟨by rw [← r.length]; exact z, ?_⟩)
 have hf:H1 s1.heap.objs.size=none:=I1.hok.fresh (Nat.le_refl _)
 refine ⟨.ref s1.heap.objs.size,upd H1 s1.heap.objs.size (.tup xs),I1.laid (t' :=s1.toks) (fun b u e=>Heap.get?_push_of_some _ e) (Nat.le_refl _) ?_,rfl,q _ hf⟩
 exact ⟨z,us,r,⟨_,Heap.get?_push_size _ rfl,rfl,_,rfl⟩⟩
theorem K9 (h:PA X es t):PE X (.List es pos) (tLst t):=by
 intro pins s σ H Q I hq
 refine wpAny_List_spliced (thn (h pos pins s σ H _ I hq) fun us s1 ⟨xs,H1,I1,r,z,q⟩=>⟨by rw [← r.length]; exact z, ?_⟩)
 have hf:H1 s1.heap.objs.size=none:=I1.hok.fresh (Nat.le_refl _)
 refine ⟨.ref s1.heap.objs.size,upd H1 s1.heap.objs.size (.lst xs),I1.laid (t' :=s1.toks) (fun b u e=>Heap.get?_push_of_some _ e) (Nat.le_refl _) ?_,rfl,q _ hf⟩
 exact ⟨z,us,0,r,Heap.get?_push_size _ rfl⟩
end
noncomputable abbrev Sp:=List V->Hp->VK->XK->Prop
noncomputable abbrev CXT:=List Env->Hp->Shared->XK->Value->Shared->Prop
structure z1p (P:Program) (w:World) (K:PySem.W.Frag) (mg:Str->Option Value) (base:Heap) (A:Around) (outer:List Env) (s:Shared) (H:Hp):Prop where
 frames:A.frames=some outer
 mod:Mod K mg base
 bs:∀ b o,base.get? b=some o->s.heap.get? b=some o/\H b=none
 bsz:base.objs.size<=s.heap.objs.size
 funs:s.heap.FunFrames base outer
 frf:∀ b∈frs outer,H b=none
 hok:HOk P w H s.heap
 bare:AllBare s.gens
noncomputable def CE (outer:List Env) (P:Program) (w:World) (H:Hp) (s:Shared) (Q:VK) (u:Value) (s' :Shared):Prop:=
 ∃ v H',s'.os=s.os/\AllBare s'.gens/\Un (frs outer) [] H H' s.heap s'.heap/\HOk P w H' s'.heap/\jk v u/\Q v H'
noncomputable def CR (CX:CXT) (outer:List Env) (P:Program) (w:World) (H:Hp) (s:Shared) (Q:VK) (E:XK) (r:Result) (s' :Shared):Prop:=
 match r with
 | .ok (.ret u)=>CE outer P w H s Q u s'
 | .ok _=>False
 | .error e=>CX outer H s E e s'
structure j2 (P:Program) (w:World) (K:PySem.W.Frag) (mg:Str->Option Value) (base:Heap) (CX:CXT) (k:Nat) (f:Addr) (fd:FuncData) (ps:List Str) (sp:Sp):Prop where
 len:∀ vs H Q E,sp vs H Q E->vs.length=ps.length
 run:∀ (A:Around) (outer:List Env) (s:Shared) (H:Hp) (args:Args) (us:List Value) (vs:List V) (Q:VK) (E:XK),uW k A->z1p P w K mg base A outer s H->BindsTo s fd args (ps.zip us)->ZD vs us->sp vs H Q E->
  codeAny (model P w) A (.call (.ref f) args) (CR CX outer P w H s Q E) s
section
variable {X:Cx} {pins:List (Addr×Obj)} {σ:St} {H:Hp} {s s' :Shared}
theorem Inv.env0 (I:Inv X pins σ H s):z1p X.prog X.w X.K X.mg X.base X.A X.stack s H:=
 ⟨I.ok.frames,I.ok.mod,I.bs,Nat.le_trans I.ok.bsz I.sz,I.stack,I.stkFree,I.hok,I.bare⟩
theorem Inv.after {Q:VK} {u:Value} (I:Inv X pins σ H s) (h:CE X.stack X.prog X.w H s Q u s'):EP X pins σ Q u s' :=by
 obtain ⟨v,H',os,bare,un,hok,r,q⟩:=h
 obtain ⟨hh,g,d,t,os'⟩:=s'
 obtain rfl:os' =s.os:=os
 exact ⟨v,H',I.call (h' :=hh) (g' :=g) (d' :=d) (t' :=t) (ch:=[]) un hok bare (fun b z=>absurd z (by simp)),r,q⟩
end
noncomputable def z1X (sp:Sp) (dvs:List V) (E:XK) (t:TA):TE:=fun σ H Q=>t σ H fun vs H1=>sp (vs++dvs) H1 Q E
noncomputable def Binds (K:PySem.W.Frag) (fd:FuncData) (ps:List Str) (ds:List Value):Prop:=
 ∀ (s:Shared) (us:List Value),K.In s.heap->(us++ds).length=ps.length->BindsTo s fd ⟨us,[]⟩ (ps.zip (us++ds))
theorem Binds.all {K:PySem.W.Frag} {fd:FuncData} {ps:List Str} (h:∀ us:List Value,us.length=ps.length->bindArgs fd ⟨us,[]⟩=pure (ps.zip us)):Binds K fd ps []:=fun s us _ hl=>by
 rw [List.append_nil] at hl ⊢
 exact .of_eq (h us hl)
noncomputable def Up (CX:CXT) (X:Cx) (E:XK):Prop:=∀ (pins:List (Addr×Obj)) (σ:St) (H:Hp) (s:Shared) (e:Value) (s' :Shared),Inv X pins σ H s->CX X.stack H s E e s' ->X.xe e s'
section
variable {X:Cx} {CX:CXT} {k:Nat} {f C:Addr} {fd:FuncData} {ps:List Str} {sp:Sp} {dvs:List V} {ds:List Value} {E:XK} {x m:Str} {p pos apos:Pos} {e o:Expr} {es:List Expr} {ta:TE} {t:TA}
theorem z07 {pins:List (Addr×Obj)} {σ:St} {H:Hp} {s:Shared} {Q:VK} {us:List Value} {vs:List V} (F:j2 X.prog X.w X.K X.mg X.base CX k f fd ps sp) (hr:uW k X.A) (hb:Binds X.K fd ps ds) (hd:ZD dvs ds) (hx:Up CX X E)
  (I:Inv X pins σ H s) (r:ZD vs us) (h:sp (vs++dvs) H Q E):wpAny (model X.prog X.w) X.A (call (.ref f) us) (EP X pins σ Q) X.xe s:=by
 have r2:ZD (vs++dvs) (us++ds):=r.append hd
 have hl:(us++ds).length=ps.length:=by rw [← r2.length]; exact F.len _ _ _ _ h
 refine wpAny_call (codeAny_mono (F.run X.A X.stack s H ⟨us,[]⟩ (us++ds) (vs++dvs) Q E hr I.env0 (hb s us I.kIn hl) r2 h) fun r s' hq=> ?_)
 cases r with
 | error e=>exact hx pins σ H s e s' I hq
 | ok fl=>
  cases fl with
  | ret u=>exact I.after hq
  | next=>exact False.elim hq
  | brk=>exact False.elim hq
  | cont=>exact False.elim hq
theorem KR (F:j2 X.prog X.w X.K X.mg X.base CX k f fd ps sp) (hr:uW k X.A) (hg:Gl X x) (hm:X.mg x=some (.ref f)) (hk:PySem.W.keepIn X.K (.ref f)=true) (hb:Binds X.K fd ps ds) (hd:ZD dvs ds) (hx:Up CX X E)
  (ha:PA X (e :: es) t) (hdb:(x == ("__debug__":Str))=false:=by decide) (he:starEach (e :: es) X.env=(false,eval e X.env) :: starEach es X.env:=by rfl) (hpl:(backTo pos (starEach es X.env)).any (·.1)=false:=by rfl):
  PE X (.Call (.Name x p) (e :: es) [] pos) (z1X sp dvs E t):=by
 intro pins s σ H Q I h
 refine wpAny_Call_Name_kw (Q0 I hg hm ?_ hdb)
 refine PySem.W.callWith_K (h₀:=X.base) I.ok.mod.kin hk (thn (ha pos pins s σ H _ I h) fun us s1 ⟨vs,H1,I1,r,q⟩=>⟨I1.kIn, ?_⟩) he hpl
 exact z07 F hr hb hd hx I1 r q
end
section
variable {X:Cx} {CX:CXT} {k:Nat} {f C:Addr} {fd:FuncData} {ps ks:List Str} {sp:Sp} {E:XK} {x m:Str} {p pos apos kpos:Pos} {e o:Expr} {es:List Expr} {kws:List Keyword} {te ta:TE} {t tk:TA} {nm:Option Str}
variable {g:List Value->List Value->List Value} {gV:List V->List V->List V}
end
structure zr (N P:List Str) (sc:Scope):Prop where
 kind:sc.kind= .function
 co:sc.isCoroutine=false
 gen:sc.isGenerator=false
 nd:N.Nodup
 pre:N.take P.length=P
 par:∀ x∈P,sc.names.lookup x=some .local\/sc.names.lookup x=some .cell
 nofree:∀ y∈sc.names,y.2 ≠ .free
theorem Yz {kindOf:Str->Option NameKind} {x:Str}:∀ {binds:List (Str×Value)} {m:Str->Option Value},(∀ v,(x,v) ∉ binds)->bindL kindOf binds m x=m x
 | [],_,_=>rfl
 | (n,v) :: r,m,h=>by
  unfold bindL
  rw [Yz fun w hw=>h w (List.mem_cons_of_mem _ hw)]
  split
  ·have:x ≠ n:=by rintro rfl; exact h v List.mem_cons_self
   simp [this]
  ·rfl
theorem YA {kindOf:Str->Option NameKind} {x:Str}:∀ {binds:List (Str×Value)} {m:Str->Option Value},(∀ v,(x,v) ∉ binds)->bindC kindOf binds m x=m x
 | [],_,_=>rfl
 | (n,v) :: r,m,h=>by
  unfold bindC
  rw [YA fun w hw=>h w (List.mem_cons_of_mem _ hw)]
  split
  ·rfl
  ·have:x ≠ n:=by rintro rfl; exact h v List.mem_cons_self
   simp [this]
theorem YB {kindOf:Str->Option NameKind} {x:Str} {v:Value}:∀ {P:List Str} {vs:List Value} {i:Nat} {m:Str->Option Value},P.Nodup->P[i]? =some x->vs[i]? =some v->kindOf x=some .local->
  bindL kindOf (P.zip vs) m x=some v
 | [],_,_,_,_,h,_,_=>by simp at h
 | _ :: _,[],_,_,_,_,h,_=>by simp at h
 | p :: P,w :: vs,0,m,nd,h1,h2,hk=>by
  simp at h1 h2; subst h1; subst h2
  show bindL kindOf ((p,w) :: P.zip vs) m p=_
  unfold bindL
  rw [Yz fun v hv=>(List.nodup_cons.mp nd).1 (List.of_mem_zip hv).1,if_pos hk]
  simp
 | p :: P,w :: vs,i+1,m,nd,h1,h2,hk=>by
  show bindL kindOf ((p,w) :: P.zip vs) m x=_
  unfold bindL
  exact YB (i:=i) (List.nodup_cons.mp nd).2 (by simpa using h1) (by simpa using h2) hk
theorem YC {kindOf:Str->Option NameKind} {x:Str} {v:Value}:∀ {P:List Str} {vs:List Value} {i:Nat} {m:Str->Option Value},P.Nodup->P[i]? =some x->vs[i]? =some v->kindOf x ≠ some .local->
  bindC kindOf (P.zip vs) m x=some v
 | [],_,_,_,_,h,_,_=>by simp at h
 | _ :: _,[],_,_,_,_,h,_=>by simp at h
 | p :: P,w :: vs,0,m,nd,h1,h2,hk=>by
  simp at h1 h2; subst h1; subst h2
  show bindC kindOf ((p,w) :: P.zip vs) m p=_
  unfold bindC
  rw [YA fun v hv=>(List.nodup_cons.mp nd).1 (List.of_mem_zip hv).1,if_neg hk]
  simp
 | p :: P,w :: vs,i+1,m,nd,h1,h2,hk=>by
  show bindC kindOf ((p,w) :: P.zip vs) m x=_
  unfold bindC
  exact YC (i:=i) (List.nodup_cons.mp nd).2 (by simpa using h1) (by simpa using h2) hk
noncomputable def start (N:List Str) (vs:List V):St:=vs.map some++List.replicate (N.length - vs.length) none
noncomputable def yc (CX:CXT) (P:Program) (w:World) (K:PySem.W.Frag) (mg:Str->Option Value) (base:Heap) (N:List Str) (qual:Str) (scope:Scope) (f:Addr) (cd:Value) (A:Around) (outer:List Env) (s:Shared) (H:Hp) (E:XK):Cx where
 prog:=P
 w:=w
 K:=K
 mg:=mg
 base:=base
 A:=A.deeper (envOfC qual scope s.heap.objs.size f cd)
 N:=N
 s₀:=s
 H₀:=H
 env:=envOfC qual scope s.heap.objs.size f cd
 outer:=outer
 stack:=envOfC qual scope s.heap.objs.size f cd :: outer
 ex:=[]
 calm:=true
 fn:=fun _=>true
 pn:=[]
 xe:=fun e s' =>wpAny (model P w) (A.deeper (envOfC qual scope s.heap.objs.size f cd)) (leaving (envOfC qual scope s.heap.objs.size f cd) e) (fun _ s'' =>CX outer H s E e s'') (fun e' s'' =>CX outer H s E e' s'') s'
theorem QI {sc:Scope} {n:Nat} {x:Str} (h:sc.names.lookup x=some .cell):∃ c,(cellsFrom n sc.names []).lookup x=some c:=by
 have q:=PySem.W.cellsFrom_some sc.names n [] (.inl h)
 exact Option.isSome_iff_exists.mp q
theorem VJ {CX:CXT} {P:Program} {w:World} {K:PySem.W.Frag} {mg:Str->Option Value} {base:Heap} {N ps:List Str} {qual:Str} {scope:Scope} {f:Addr} {cd:Value} {A:Around} {outer:List Env} {s s1:Shared} {H:Hp} {E:XK} {us:List Value} {vs:List V}
  (S:zr N ps scope) (hd:A.handled=none) (e0:z1p P w K mg base A outer s H) (hl:vs.length=ps.length) (r:ZD vs us)
  (x:InCallC s s.heap.objs.size (bindL (envOfC qual scope s.heap.objs.size f cd).kindOf (ps.zip us) fun _=>none) (cellsFrom (s.heap.objs.size+1) scope.names []) (bindC (envOfC qual scope s.heap.objs.size f cd).kindOf (ps.zip us) fun _=>none) s1):
  Inv (yc CX P w K mg base N qual scope f cd A outer s H E) [] (start N vs) H s1:=by
 have hpl:ps.length<=N.length:=by have:=congrArg List.length S.pre; rw [List.length_take] at this; omega
 obtain ⟨h1,tk,rfl,hk⟩:=x.done
 have noA:∀ b:Addr,b ∉ (yc CX P w K mg base N qual scope f cd A outer s H E).ex:=fun b z=>absurd (show b∈([]:List Addr) from z) (by simp)
 refine ⟨⟨e0.mod,S.kind,rfl,rfl,Nat.le_refl _,fun y z c h1 h2=> ?_,fun y hy=> ?_,fun y c _ h=> ?_,fun _=>hd,Around.frames_deeper e0.frames, .inr ⟨rfl,rfl⟩,fun b z=>absurd z (noA b),e0.bs,e0.bsz,fun b _ _=>noA b,fun b z=>absurd z (noA b),e0.funs,e0.frf⟩,
  rfl,e0.bare,Un.kept hk,⟨_,x.toInCall.ns,fun i y v h1 h2 h3=> ?_⟩,fun y c h=>⟨_,x.cell y c h⟩,e0.hok.fresh (Nat.le_refl _),fun y c h=> ?_,fun p hp=>absurd (show p∈([]:List (Addr×Obj)) from hp) (by simp),e0.hok.kept hk, ?_⟩
 ·exact name_of_addr x.apart (PySem.mem_of_lookup h1) (PySem.mem_of_lookup h2)
 ·have hy:scope.names.lookup y=some .cell\/scope.names.lookup y=some .free:=hy
  rcases hy with hy | hy
  ·exact QI hy
  ·exact absurd rfl (S.nofree _ (PySem.mem_of_lookup hy))
 ·exact Nat.le_of_lt (x.above y c (PySem.mem_of_lookup h))
 ·have hi:i < vs.length:=by
   unfold start at h2
   by_cases hi:i < vs.length
   ·exact hi
   ·rw [List.getElem?_append_right (by simpa using hi)] at h2
    rw [List.getElem?_replicate] at h2
    split at h2 <;> cases h2
  have ha:vs[i]? =some v:=by
   unfold start at h2
   rw [List.getElem?_append_left (by simpa using hi),List.getElem?_map] at h2
   cases e:vs[i]? with
   | none=>rw [e] at h2; cases h2
   | some a=>rw [e] at h2; cases h2; rfl
  obtain ⟨u,hu,rv⟩:=r.get ha
  have hp:ps[i]? =some y:=by
   rw [← S.pre,List.getElem?_take_of_lt (by omega)]; exact h1
  have ndP:ps.Nodup:=by rw [← S.pre]; exact S.nd.sublist (List.take_sublist _ _)
  refine ⟨u,rv, ?_⟩
  rcases S.par y (List.mem_of_getElem? hp) with k | k
  ·exact .inl ⟨k,YB ndP hp hu k⟩
  ·obtain ⟨c,e⟩:=QI (n:=s.heap.objs.size+1) k
   refine .inr ⟨.inl k,c,e, ?_⟩
   have q:=x.cell y c e
   rw [YC ndP hp hu (by show scope.names.lookup y ≠ _; rw [k]; decide)] at q
   exact q
 ·exact e0.hok.fresh (Nat.le_of_lt (x.above y c (PySem.mem_of_lookup h)))
 ·unfold start
  show _=N.length
  rw [List.length_append,List.length_map,List.length_replicate]
  omega
theorem z08 {CX:CXT} {P:Program} {w:World} {K:PySem.W.Frag} {mg:Str->Option Value} {base:Heap} {k:Nat} {f:Addr} {name qual:Str} {params:Arguments} {body:List Stmt} {scope:Scope} {dV kV doc pm cdv ct oc:Value} {an od:Option Addr}
  {osl:Array (Option Value)} {N ps:List Str} {sp:Sp} (lk:K.lookup f=some ⟨oc,od, .func (PySem.W.fnOf name qual params body scope dV kV doc pm an cdv ct),osl⟩) (hcd:PySem.W.codeIn K cdv qual=true) (S:zr N ps scope)
  (len:∀ vs H Q E,sp vs H Q E->vs.length=ps.length)
  (hbody:∀ (A:Around) (outer:List Env) (s:Shared) (H:Hp) (vs:List V) (Q:VK) (E:XK),uW k (A.deeper (envOfC qual scope s.heap.objs.size f cdv))->sp vs H Q E->
   ∃ t,PSs (yc CX P w K mg base N qual scope f cdv A outer s H E) body t/\t { nx:=fun _ H' =>Q .non H',rt:=Q } (start N vs) H):
  j2 P w K mg base CX (k+1) f (PySem.W.fnOf name qual params body scope dV kV doc pm an cdv ct) ps sp:=by
 refine ⟨len,fun A outer s H args us vs Q E hr e0 hb r hsp=> ?_⟩
 have hl:=len _ _ _ _ hsp
 have KX:K.In s.heap:=e0.mod.kin.keeps fun b o e=>(e0.bs b o e).1
 have lim:s.heap.NoLimit:=e0.mod.nolimit.keeps fun b o e=>(e0.bs b o e).1
 have hkind:∀ y∈ps.zip us,scope.names.lookup y.1=some .local\/(scope.names.lookup y.1=some .cell/\((cellsFrom (s.heap.objs.size+1) scope.names []).lookup y.1).isSome=true):=fun ⟨n,v⟩ hy=>by
  rcases S.par n (List.of_mem_zip hy).1 with q | q
  ·exact .inl q
  ·exact .inr ⟨q,PySem.W.cellsFrom_some _ _ _ (.inl q)⟩
 refine codeAny_call_function hr.depth (KX _ _ lk) rfl S.co S.gen rfl (PySem.W.codeRec_of KX hcd) (hb _ _ _ _ ?_)
 refine wpAny_newFunctionEnv_cells S.kind hkind fun env he s1 x=> ?_
 subst he
 refine ⟨lim.keeps x.toInCall.keep,codeAny_func ?_⟩
 obtain ⟨t,ht,hq⟩:=hbody A outer s H vs Q E (hr.deeper _) hsp
 have I:Inv (yc CX P w K mg base N qual scope f cdv A outer s H E) [] (start N vs) H s1:=VJ S hr.hd e0 hl r x
 refine wpAny_mono (ht [] s1 (start N vs) H _ I hq) (fun fl s' hs=> ?_) fun e s' hs=>hs
 have fin:∀ {σ' :St} {H' :Hp} {v:V} {u:Value},Inv (yc CX P w K mg base N qual scope f cdv A outer s H E) [] σ' H' s' ->jk v u->Q v H' ->CE outer P w H s Q u s' :=
  fun {σ' H' v u} J rv q=>⟨v,H',J.os,J.bare,J.base,J.hok,rv,q⟩
 cases fl with
 | ret u=>
  obtain ⟨v,σ',H',J,rv,q⟩:=hs
  exact fin J rv q
 | next=>
  obtain ⟨σ',H',J,q⟩:=hs
  exact fin (v:=V.non) (u:=Value.none) J rfl q
 | brk=>
  obtain ⟨_,_,_,q⟩:=hs
  exact False.elim q
 | cont=>
  obtain ⟨_,_,_,q⟩:=hs
  exact False.elim q
end L2
namespace L2
open PySem PySem.Spec PyProof.Rows
section
variable {X:Cx} {x:Str} {p pos:Pos} {e:Expr} {es:List Expr} {t:TA} {id T:String} {r:List V->Hp->VK->Prop}
noncomputable def tCB (r:List V->Hp->VK->Prop) (t:TA):TE:=fun σ H Q=>t σ H fun vs H1=>r vs H1 Q
theorem WJ (hc:Jn X (.builtin id) r) (hg:Gl X x) (hm:X.mg x=none) (hv:bootBuiltins x=some (.builtin id)) (ha:PA X (e :: es) t) (hn:x ≠ "__name__":=by decide) (hdb:(x == ("__debug__":Str))=false:=by decide)
  (he:starEach (e :: es) X.env=(false,eval e X.env) :: starEach es X.env:=by rfl) (hpl:(backTo pos (starEach es X.env)).any (·.1)=false:=by rfl):PE X (.Call (.Name x p) (e :: es) [] pos) (tCB r t):=by
 intro pins s σ H Q I h
 refine wpAny_Call_Name_kw (wH I hg hm hv ?_ hn hdb)
 exact PyProof.Rows.callWith_builtin1 (thn (ha pos pins s σ H _ I h) fun us s1 ⟨vs,H1,I1,r1,q1⟩=>hc pins s1 σ H1 vs us Q I1 r1 q1) he hpl
theorem WK (hc:Jn X (.type T) r) (hg:Gl X x) (hm:X.mg x=none) (hv:bootBuiltins x=some (.type T)) (ha:PA X (e :: es) t) (hn:x ≠ "__name__":=by decide) (hdb:(x == ("__debug__":Str))=false:=by decide)
  (he:starEach (e :: es) X.env=(false,eval e X.env) :: starEach es X.env:=by rfl) (hpl:(backTo pos (starEach es X.env)).any (·.1)=false:=by rfl):PE X (.Call (.Name x p) (e :: es) [] pos) (tCB r t):=by
 intro pins s σ H Q I h
 refine wpAny_Call_Name_kw (wH I hg hm hv ?_ hn hdb)
 exact PyProof.Rows.callWith_type1 (thn (ha pos pins s σ H _ I h) fun us s1 ⟨vs,H1,I1,r1,q1⟩=>hc pins s1 σ H1 vs us Q I1 r1 q1) he hpl
end
end L2
namespace HT
open PySem PyProof.Rows
section
open PySem.SeqAt
open PySem.AutoSeq1 (wpAny_loadPart')
open PySem.MeetsSeq PySem.MeetsSeq2 PySem.MeetsSeq3
end
section
variable {prog:Program} {w:World} {A:Around} {E:Value->Shared->Prop} {s:Shared}
theorem cat_tup {t b:Addr} {vs ws:List Value} {Q:Value->Shared->Prop} (ht:IsTup s.heap t vs.toArray) (hb:IsTup s.heap b ws.toArray) (hv:vs ≠ [])
  (h1:ws=[]->Q (.ref t) s) (h2:ws ≠ []->Q (.ref s.heap.objs.size) { s with heap:=s.heap.push { cls:= .type "tuple",data:= .seq (vs++ws).toArray } })
  (hsz:vs.length+ws.length<=sizeLine):wpAny (model prog w) A (binaryOp .Add (.ref t) (.ref b)) Q E s:=by
 obtain ⟨⟨cls,dd,data,sl⟩,ho,hc,n,hd⟩:=id ht
 obtain ⟨⟨cls2,dd2,data2,sl2⟩,ho2,hc2,n2,hd2⟩:=id hb
 simp only at hc hd hc2 hd2
 subst hc hd hc2 hd2
 have e:vs.toArray++ws.toArray=(vs++ws).toArray:=by simp
 by_cases hw:ws=[]
 ·exact concat_meets ⟨_,ho,rfl⟩ ⟨_,ho2,rfl⟩ noFill_tuple_add seq_tuple_add PySem.F.slot_tuple_add PySem.F.entry_tuple_add (PySem.F.args_tuple_add_2 _ _)
   (tuple_addW1 t b vs.toArray ws.toArray n n2 dd dd2 sl sl2 (by simpa using hv) (by simp [hw])) ⟨ho,ho2,h1 hw⟩
 ·refine concat_meets ⟨_,ho,rfl⟩ ⟨_,ho2,rfl⟩ noFill_tuple_add seq_tuple_add PySem.F.slot_tuple_add PySem.F.entry_tuple_add (PySem.F.args_tuple_add_2 _ _)
   (tuple_addW2 t b vs.toArray ws.toArray n n2 dd dd2 sl sl2 (by simpa using hv) (by simpa using hw) (by rw [List.size_toArray,List.size_toArray]; exact hsz)) ⟨ho,ho2, ?_⟩
  rw [e]
  exact h2 hw
noncomputable def sIx (n d:Nat):Option Int->Nat
 | none=>d
 | some v=>if v < 0 then (v+(n:Int)).toNat else min v.toNat n
theorem sIx_none (n d:Nat):sIx n d none=d:=rfl
theorem sIx_nat (n d k:Nat):sIx n d (some (k:Int))=min k n:=by
 show (if (k:Int) < 0 then ((k:Int)+(n:Int)).toNat else min (k:Int).toNat n)=min k n
 rw [if_neg (by omega),Int.toNat_natCast]
theorem z09 (n d:Nat) (hd:d<=n) (o:Option Int):sIx n d o<=n:=by
 cases o with
 | none=>exact hd
 | some v=>
  show (if v < 0 then (v+(n:Int)).toNat else min v.toNat n)<=n
  by_cases hv:v < 0
  ·rw [if_pos hv]; omega
  ·rw [if_neg hv]; exact Nat.min_le_right _ _
theorem VL (v:Int) (n d:Nat):(if v < 0 then max (v+(n:Int)) 0 else min v (n:Int))=((sIx n d (some v):Nat):Int):=by
 show (if v < 0 then max (v+(n:Int)) 0 else min v (n:Int))=(((if v < 0 then (v+(n:Int)).toNat else min v.toNat n):Nat):Int)
 by_cases hv:v < 0
 ·simp only [if_pos hv]; omega
 ·simp only [if_neg hv]; omega
theorem vD (lo hi:Option Int) (n:Nat):Builtin.Slice.sliceAdjust lo hi 1 (n:Int)=(((sIx n 0 lo:Nat):Int),((sIx n n hi:Nat):Int)):=by
 have h1:¬ ((1:Int) < 0):=by omega
 unfold Builtin.Slice.sliceAdjust
 simp only [h1,if_false]
 refine Prod.ext ?_ ?_
 ·cases lo with
  | none=>rfl
  | some v=>exact VL v n 0
 ·cases hi with
  | none=>rfl
  | some v=>exact VL v n n
theorem vF (i j:Nat):Builtin.Slice.slicePlaces (i:Int) (j:Int) 1=j - i:=by
 unfold Builtin.Slice.slicePlaces
 have h1:(1:Int) > 0:=by omega
 simp only [h1,if_true,Int.ediv_one]
 split <;> omega
theorem yq {v:Value} {o:Option Int} {Q:Option Int->Shared->Prop} (p:IsPart v o) (h:Q o s):wpAny (model prog w) A (Builtin.Slice.slicePartIndex v) Q E s:=by
 cases p with
 | none=>exact slicePart_none h
 | int i t=>exact slicePart_int h
theorem sliceApplied_gen {sl:Addr} {vl vu:Value} {lo hi:Option Int} {n:Nat} {Q:Int×Int×Nat->Shared->Prop} (hs:s.heap.IsSliceOf sl vl vu .none) (pl:IsPart vl lo) (pu:IsPart vu hi)
  (h:Q (((sIx n 0 lo:Nat):Int),1,sIx n n hi - sIx n 0 lo) s):wpAny (model prog w) A (Builtin.Slice.sliceApplied (.ref sl) (pure (n:Int))) Q E s:=by
 obtain ⟨os,hos,hcs,hds⟩:=id hs
 unfold Builtin.Slice.sliceApplied Builtin.Slice.sliceFields
 refine wpAny_bind (wpAny_bind (wpAny_field hos hds (x:=vl) rfl (wpAny_bind (wpAny_field hos hds (x:=vu) rfl (wpAny_bind (wpAny_field hos hds (x:= .none) rfl (wpAny_pure ?_)))))))
 refine wpAny_bind (slicePart_none ?_)
 show wpAny _ _ (if ((1:Int) == 0)=true then _ else _) _ _ s
 rw [if_neg (by decide)]
 refine wpAny_bind (yq pl (wpAny_bind (yq pu (wpAny_bind (wpAny_pure ?_)))))
 show wpAny _ _ (match Builtin.Slice.sliceAdjust lo hi 1 (n:Int) with | (lo,hi)=>pure (lo,(1:Int),Builtin.Slice.slicePlaces lo hi 1)) _ _ s
 rw [vD lo hi n]
 show wpAny _ _ (pure (((sIx n 0 lo:Nat):Int),(1:Int),Builtin.Slice.slicePlaces ((sIx n 0 lo:Nat):Int) ((sIx n n hi:Nat):Int) 1)) _ _ s
 rw [vF]
 exact wpAny_pure h
theorem XZ (xs:Array Value) (i k:Nat):((List.range k).filterMap fun (m:Nat)=>xs[((i:Int)+(m:Int)*1).toNat]?).toArray=((xs.toList.drop i).take k).toArray:=by
 have e:(fun (m:Nat)=>xs[((i:Int)+(m:Int)*1).toNat]?)=fun m=>xs[i+m]? :=by
  funext m
  have:((i:Int)+(m:Int)*1).toNat=i+m:=by omega
  rw [this]
 rw [e]
 have:=pick_run xs i k
 rw [List.filterMap_map] at this
 have e2:((fun x=>xs[x]?) ∘ fun x=>i+x)=fun m=>xs[i+m]? :=rfl
 rw [e2] at this
 rw [this]
theorem getItem_tuple_cut {t sl:Addr} {items:Array Value} {vl vu:Value} {lo hi:Option Int} {Q:Value->Shared->Prop} (ht:IsTup s.heap t items) (hs:s.heap.IsSliceOf sl vl vu .none) (pl:IsPart vl lo) (pu:IsPart vu hi)
  (hw:¬ (sIx items.size 0 lo=0/\sIx items.size items.size hi=items.size))
  (h:Q (.ref s.heap.objs.size) { s with heap:=s.heap.push { cls:= .type "tuple",data:= .seq ((items.toList.drop (sIx items.size 0 lo)).take (sIx items.size items.size hi - sIx items.size 0 lo)).toArray } })
  (hsz:items.size<=sizeLine):wpAny (model prog w) A (getItem (.ref t) (.ref sl)) Q E s:=by
 have htake:sizeOk (.seq ((items.toList.drop (sIx items.size 0 lo)).take (sIx items.size items.size hi - sIx items.size 0 lo)).toArray):=by
  show ((items.toList.drop (sIx items.size 0 lo)).take (sIx items.size items.size hi - sIx items.size 0 lo)).toArray.size<=sizeLine
  rw [List.size_toArray,List.length_take,List.length_drop,Array.length_toList]
  omega
 have hj:sIx items.size items.size hi<=items.size:=z09 _ _ (Nat.le_refl _) hi
 obtain ⟨os,hos,hcs,hds⟩:=id hs
 have hTs:s.TypeIs (.ref sl) "slice":=⟨os,hos,hcs⟩
 unfold getItem
 try with_reducible refine wpAny_holding ?_
 first | refine wpAny_bind (wpAny_pure ?_) | skip
 refine wpAny_bind (wpAny_sequenceKey ht.typeIs (by decide) ?_)
 refine wpAny_bind (wpAny_callSpecial?_slot (name:=Str.ofString "__getitem__") ht.typeIs PyProof.Rows.slot_tuple_getitem
  (wpAny_call_entry PyProof.Rows.slot_tuple_getitem ht.typeIs entry_tuple_getitem ?_ (args_tuple_getitem _ _)))
 show wpAny _ _ (Builtin.Tuple.tupleItemsOf (.ref t) >>= _) _ _ s
 refine wpAny_bind (tupleItemsOf_ ht ?_)
 refine wpAny_bind (wpAny_typeOf hTs ?_)
 rw [if_pos (by decide)]
 refine wpAny_bind (sliceApplied_gen hs pl pu ?_)
 have hno:¬ ((((sIx items.size 0 lo:Nat):Int) == 0 && (1:Int) == 1 && (sIx items.size items.size hi - sIx items.size 0 lo) == items.size)=true):=by
  intro q
  rw [Bool.and_eq_true,Bool.and_eq_true] at q
  have q1:((sIx items.size 0 lo:Nat):Int)=0:=eq_of_beq q.1.1
  have q2:sIx items.size items.size hi - sIx items.size 0 lo=items.size:=eq_of_beq q.2
  exact hw ⟨by omega,by omega⟩
 show wpAny _ _ (if (((sIx items.size 0 lo:Nat):Int) == 0 && (1:Int) == 1 && (sIx items.size items.size hi - sIx items.size 0 lo) == items.size)=true then _ else _) _ _ s
 rw [if_neg hno,XZ]
 first
  | exact wpAny_bind (m:=Builtin.Tuple.tupleExact _) (wpAny_newObj_type (wpAny_pure ⟨_,rfl,wpAny_pure h⟩) htake)
  | exact wpAny_bind (m:=Builtin.Tuple.tupleExact _) (wpAny_newObj_type (wpAny_bind (wpAny_pure (wpAny_pure ⟨_,rfl,wpAny_pure h⟩))) htake)
  | exact wpAny_bind (wpAny_bind (m:=Builtin.Tuple.tupleExact _) (wpAny_newObj_type (wpAny_pure (wpAny_pure ⟨_,rfl,wpAny_pure h⟩)) htake))
  | exact wpAny_bind (wpAny_bind (m:=Builtin.Tuple.tupleExact _) (wpAny_newObj_type (wpAny_pure ⟨_,rfl,wpAny_pure h⟩) htake))
end
end HT
namespace L2
open PySem PySem.Spec PyProof.Rows
noncomputable abbrev TO:=St->Hp->(Option Int->Hp->Prop)->Prop
noncomputable def PO (X:Cx) (e:Option Expr) (t:TO):Prop:=
 ∀ (pins:List (Addr×Obj)) (s:Shared) (σ:St) (H:Hp) (Q:Option Int->Hp->Prop),Inv X pins σ H s->t σ H Q->
  wpAny (model X.prog X.w) X.A (evalPart e X.env) (fun u s' =>∃ o H',Inv X pins σ H' s' /\IsPart u o/\Q o H') X.xe s
noncomputable def KS:TO:=fun _ H Q=>Q none H
noncomputable def z1Y (t:TE):TO:=fun σ H Q=>t σ H fun x H1=>∃ i,x= .int i/\Q (some i) H1
section
variable {X:Cx} {e:Expr} {te:TE} {lo hi:Option Expr} {tl th:TO} {pos p2:Pos}
theorem KT:PO X none KS:=by
 intro pins s σ H Q I h
 rw [evalPart_none]
 exact wpAny_pure ⟨none,H,I, .none,h⟩
theorem KU (h:PE X e te):PO X (some e) (z1Y te):=by
 intro pins s σ H Q I hw
 rw [evalPart_some]
 refine thn (h pins s σ H _ I hw) fun u s1 ⟨x,H1,I1,r1,q1⟩=> ?_
 obtain ⟨i,rfl,q⟩:=q1
 obtain ⟨t,rfl⟩:=r1
 exact ⟨some i,H1,I1, .int i t,q⟩
noncomputable def SlR (X:Cx) (r:V->Option Int->Option Int->Hp->VK->Prop):Prop:=
 ∀ (pins:List (Addr×Obj)) (s:Shared) (σ:St) (H:Hp) (x:V) (v vl vu:Value) (lo hi:Option Int) (sl:Addr) (Q:VK),Inv X pins σ H s->jk x v->s.heap.IsSliceOf sl vl vu .none->IsPart vl lo->IsPart vu hi->r x lo hi H Q->
  ∃ T id,typeLookup (.type T) "__getitem__"=pure (some (.builtin id))/\s.TypeIs v T/\wpAny (model X.prog X.w) X.A (getItem v (.ref sl)) (EP X pins σ Q) X.xe s
theorem SlR.or {r r' :V->Option Int->Option Int->Hp->VK->Prop} (h:SlR X r) (h' :SlR X r'):SlR X (fun x lo hi H Q=>r x lo hi H Q\/r' x lo hi H Q):=by
 intro pins s σ H x v vl vu lo hi sl Q I rx hs pl pu q
 rcases q with q | q
 ·exact h pins s σ H x v vl vu lo hi sl Q I rx hs pl pu q
 ·exact h' pins s σ H x v vl vu lo hi sl Q I rx hs pl pu q
noncomputable def tSl (r:V->Option Int->Option Int->Hp->VK->Prop) (te:TE) (tl th:TO):TE:=fun σ H Q=>te σ H fun x H1=>tl σ H1 fun l H2=>th σ H2 fun u H3=>r x l u H3 Q
theorem k6 {r:V->Option Int->Option Int->Hp->VK->Prop} (hr:SlR X r) (he:PE X e te) (hl:PO X lo tl) (hu:PO X hi th):PE X (.Subscript e (.Slice lo hi none p2) pos) (tSl r te tl th):=by
 intro pins s σ H Q I h
 refine Subscript_ (thn (he pins s σ H _ I h) fun v s1 ⟨x,H1,I1,r1,q1⟩=> ?_)
 refine wpAny_Slice (thn (hl pins s1 σ H1 _ I1 q1) fun vl s2 ⟨l,H2,I2,pl,q2⟩=>thn (hu pins s2 σ H2 _ I2 q2) fun vu s3 ⟨u,H3,I3,pu,q3⟩=> ?_)
 rw [evalPart_none]
 refine wpAny_pure ?_
 have I4:Inv X pins σ H3 { s3 with heap:=s3.heap.push { cls:= .type "slice",data:= .fields #[vl,vu, .none] } }:=I3.kept (t' :=s3.toks) fun b ob q=>Heap.get?_push_of_some _ q
 obtain ⟨T,id,hT,ht,hg⟩:=hr pins { s3 with heap:=s3.heap.push { cls:= .type "slice",data:= .fields #[vl,vu, .none] } } σ H3 x v vl vu l u s3.heap.objs.size Q I4 r1 (Heap.IsSliceOf.new ..) pl pu q3
 show wpAny (model X.prog X.w) X.A (subscriptTail e (.Slice lo hi none p2) v (.ref s3.heap.objs.size)) (EP X pins σ Q) X.xe { s3 with heap:=s3.heap.push { cls:= .type "slice",data:= .fields #[vl,vu, .none] } }
 exact tail_any (ops:=[.ref s3.heap.objs.size,v]) ht hT hg (by with_unfolding_all rfl)
noncomputable def Ka (xs:List V) (lo hi:Option Int):List V:=(xs.drop (HT.sIx xs.length 0 lo)).take (HT.sIx xs.length xs.length hi - HT.sIx xs.length 0 lo)
theorem Uq (xs:List V) (lo hi:Option Int):(Ka xs lo hi).length<=xs.length:=by
 unfold Ka
 rw [List.length_take,List.length_drop]
 omega
noncomputable def rSlT (K:PySem.W.Frag):V->Option Int->Option Int->Hp->VK->Prop:=fun x lo hi H Q=>∃ a xs,x= .ref a/\SqT K H a xs/\
 ¬ (HT.sIx xs.length 0 lo=0/\HT.sIx xs.length xs.length hi=xs.length)/\∀ p,H p=none->Q (.ref p) (upd H p (.tup (Ka xs lo hi)))
theorem z0a:SlR X (rSlT X.K):=by
 intro pins s σ H x v vl vu lo hi sl Q I rx hs pl pu h
 obtain ⟨a,xs,rfl,hx,hw,q⟩:=h
 cases rx
 obtain ⟨its,r,ht,hz⟩:=I.tuple hx
 have hlen:its.toArray.size=xs.length:=by rw [List.size_toArray]; exact r.length.symm
 refine ⟨"tuple",_,PyProof.Rows.slot_tuple_getitem.lookup,ht.typeIs, ?_⟩
 refine HT.getItem_tuple_cut ht hs pl pu (by rw [hlen]; exact hw) ?_ (by rw [hlen]; exact hz)
 rw [hlen]
 refine ⟨.ref s.heap.objs.size,_,I.laid (t' :=s.toks) (o:= .tup (Ka xs lo hi)) (fun b ob q=>Heap.get?_push_of_some _ q) (Nat.le_refl _) ?_,rfl,q _ (I.hok.fresh (Nat.le_refl _))⟩
 exact ⟨Nat.le_trans (Uq xs lo hi) hz,_,(r.drop (HT.sIx xs.length 0 lo)).take (HT.sIx xs.length xs.length hi - HT.sIx xs.length 0 lo),IsTup.new _ _⟩
noncomputable def z1Z (K:PySem.W.Frag):R2:=fun x y H Q=>∃ a b xs ys,x= .ref a/\y= .ref b/\SqT K H a xs/\SqT K H b ys/\xs ≠ []/\xs.length+ys.length<=sizeLine/\
 (ys=[]->Q (.ref a) H)/\(ys ≠ []->∀ p,H p=none->Q (.ref p) (upd H p (.tup (xs++ys))))
theorem ZD.nil_iff {xs:List V} {us:List Value} (r:ZD xs us):us=[]↔xs=[]:=by
 cases r with
 | nil=>simp
 | cons _ _=>simp
theorem KW:OpR X (binaryOp .Add) (z1Z X.K):=by
 intro pins s σ H x y v u Q I rx ry h
 obtain ⟨a,b,xs,ys,rfl,rfl,ha,hb,hx,hz,q1,q2⟩:=h
 cases rx
 cases ry
 obtain ⟨its,r1,p1,_⟩:=I.tuple ha
 obtain ⟨its2,r2,p2,_⟩:=I.tuple hb
 refine HT.cat_tup p1 p2 (fun z=>hx (r1.nil_iff.mp z)) (fun z=>⟨.ref a,H,I,rfl,q1 (r2.nil_iff.mp z)⟩) (fun z=> ?_) (by rw [← r1.length,← r2.length]; exact hz)
 refine ⟨.ref s.heap.objs.size,_,I.laid (t' :=s.toks) (o:= .tup (xs++ys)) (fun b ob q=>Heap.get?_push_of_some _ q) (Nat.le_refl _) ?_,rfl,q2 (fun w=>z (r2.nil_iff.mpr w)) _ (I.hok.fresh (Nat.le_refl _))⟩
 exact ⟨by rw [List.length_append]; exact hz,_,r1.append r2,IsTup.new _ _⟩
end
end L2
namespace L2
open PySem PySem.Spec PyProof.Rows
noncomputable def ixN (n:Nat) (i:Int):Option Nat:=if 0<=i then (if i < n then some i.toNat else none) else if -(n:Int)<=i then some (i+n).toNat else none
noncomputable def atI {α:Type} (xs:List α) (i:Int):Option α:=(ixN xs.length i).bind fun j=>xs[j]?
theorem KY {n:Nat} {i:Int} {j:Nat} (h:ixN n i=some j):seqIndex? i n=some j/\j < n/\ -(n:Int)<=i/\i < n:=by
 unfold ixN at h
 by_cases h0:0<=i
 ·rw [if_pos h0] at h
  by_cases h1:i < n
  ·rw [if_pos h1] at h
   have e:i.toNat=j:=Option.some.inj h
   exact ⟨by rw [seqIndex_of h0 h1,e],by omega,by omega,h1⟩
  ·rw [if_neg h1] at h; cases h
 ·rw [if_neg h0] at h
  by_cases h1: -(n:Int)<=i
  ·rw [if_pos h1] at h
   have e:(i+n).toNat=j:=Option.some.inj h
   exact ⟨by rw [seqIndex_neg (by omega) h1,e],by omega,h1,by omega⟩
  ·rw [if_neg h1] at h; cases h
theorem Q3 {α:Type} {xs:List α} {i:Int} {v:α} (h:atI xs i=some v):∃ j,seqIndex? i xs.length=some j/\xs[j]? =some v/\j < xs.length/\ -(xs.length:Int)<=i/\i < xs.length:=by
 unfold atI at h
 cases e:ixN xs.length i with
 | none=>rw [e] at h; cases h
 | some j=>
  rw [e] at h
  obtain ⟨h1,h2,h3,h4⟩:=KY e
  exact ⟨j,h1,h,h2,h3,h4⟩
theorem wJ {α:Type} {xs:List α} {j:Nat} {v:α} (h:xs[j]? =some v):atI xs (j:Int)=some v:=by
 have hj:j < xs.length:=(List.getElem?_eq_some_iff.mp h).1
 have e:ixN xs.length (j:Int)=some j:=by
  unfold ixN
  rw [if_pos (by omega),if_pos (by omega)]; simp
 unfold atI; rw [e]; exact h
noncomputable def VM (b:Expr):Prop:=∀ o i,subscripted b false o i=operate [o,i] (getItem o i)
noncomputable def IxR (X:Cx) (r:R2):Prop:=
 ∀ (value slice:Expr) (pins:List (Addr×Obj)) (s:Shared) (σ:St) (H:Hp) (x y:V) (v u:Value) (Q:VK),Inv X pins σ H s->jk x v->jk y u->r x y H Q->
  subscripted slice false v u=operate [v,u] (getItem v u)->wpAny (model X.prog X.w) X.A (subscriptTail value slice v u) (EP X pins σ Q) X.xe s
noncomputable def MtR (X:Cx) (id:String) (r:V->List V->Hp->VK->Prop):Prop:=
 ∀ (pins:List (Addr×Obj)) (s:Shared) (σ:St) (H:Hp) (x:V) (xs:List V) (v:Value) (us:List Value) (Q:VK),Inv X pins σ H s->jk x v->ZD xs us->r x xs H Q->
  wpAny (model X.prog X.w) X.A (call (.builtin id) (v :: us)) (EP X pins σ Q) X.xe s
section
variable {X:Cx} {a b:Expr} {ta tb:TE} {pos:Pos}
theorem IxR.or {r r' :R2} (h:IxR X r) (h' :IxR X r'):IxR X (fun x y H Q=>r x y H Q\/r' x y H Q):=by
 intro value slice pins s σ H x y v u Q I rx ry q hs
 rcases q with q | q
 ·exact h value slice pins s σ H x y v u Q I rx ry q hs
 ·exact h' value slice pins s σ H x y v u Q I rx ry q hs
theorem z20 {r:R2} (hr:IxR X r) (ha:PE X a ta) (hb:PE X b tb) (hs:VM b):PE X (.Subscript a b pos) (tOp r ta tb):=by
 intro pins s σ H Q I h
 exact Subscript_ (z1O ha hb I h fun v u s2 x y H2 I2 rx ry q=>hr a b pins s2 σ H2 x y v u Q I2 rx ry q (hs _ _))
noncomputable def rIxL (K:PySem.W.Frag):R2:=fun x y H Q=>∃ p xs i v,x= .ref p/\y= .int i/\SqL K H p xs/\atI xs i=some v/\Q v H
noncomputable def rIxT (K:PySem.W.Frag):R2:=fun x y H Q=>∃ p xs i v,x= .ref p/\y= .int i/\SqT K H p xs/\atI xs i=some v/\Q v H
noncomputable def rIxS:R2:=fun x y H Q=>∃ z i c,x= .str z/\y= .int i/\z.length<=sizeLine/\atI z.cps.toList i=some c/\Q (.str ⟨#[c]⟩) H
theorem KZ:IxR X (rIxL X.K):=by
 intro value slice pins s σ H x y v u Q I rx ry h hs
 obtain ⟨p,xs,i,z,rfl,rfl,hq,he,q⟩:=h
 cases rx
 obtain ⟨t,rfl⟩:=ry
 obtain ⟨its,r,pl,hz⟩:=I.list hq
 obtain ⟨j,h1,h2,h3,h4,h5⟩:=Q3 he
 obtain ⟨w,ew,rw'⟩:=r.get h2
 have hl:=r.length
 have hn:=yo
 have fin:EP X pins σ Q w s:=⟨z,H,I,rw',q⟩
 by_cases h0:0<=i
 ·have hj:i.toNat=j:=by
   rw [seqIndex_of h0 h5] at h1
   exact Option.some.inj h1
  exact item_listR pl.isList h0 (by omega) (by rw [hj]; simpa using ew) fin hs
 ·have hj:(i+(its.toArray.size:Int)).toNat=j:=by
   rw [seqIndex_neg (by omega) h4] at h1
   rw [List.size_toArray,← hl]
   exact Option.some.inj h1
  exact subscriptTail_builtinR (x:=w) pl.isList.typeIs slot_list_getitem.lookup
   (wpAny_getItem_list_neg (Q:=fun r s' =>r=w/\EP X pins σ Q r s') pl.isList (by omega) (by rw [List.size_toArray] <;> omega) (by omega) (by rw [hj]; simpa using ew) ⟨rfl,fin⟩) hs
theorem z0b:IxR X (rIxT X.K):=by
 intro value slice pins s σ H x y v u Q I rx ry h hs
 obtain ⟨p,xs,i,z,rfl,rfl,hq,he,q⟩:=h
 cases rx
 obtain ⟨t,rfl⟩:=ry
 obtain ⟨its,r,pl,hz⟩:=I.tuple hq
 obtain ⟨j,h1,h2,h3,h4,h5⟩:=Q3 he
 obtain ⟨w,ew,rw'⟩:=r.get h2
 have hl:=r.length
 have hn:=yo
 have fin:EP X pins σ Q w s:=⟨z,H,I,rw',q⟩
 exact subscriptTail_builtinR (x:=w) pl.typeIs slot_tuple_getitem.lookup
  (getItem_tuple (j:=j) (Q:=fun r s' =>r=w/\EP X pins σ Q r s') pl (by omega) (by omega) (by rw [List.size_toArray,← hl]; exact h1) (by simpa using ew) ⟨rfl,fin⟩) hs
theorem z0c:IxR X rIxS:=by
 intro value slice pins s σ H x y v u Q I rx ry h hs
 obtain ⟨z,i,c,rfl,rfl,hz,he,q⟩:=h
 obtain ⟨t,rfl⟩:=rx
 obtain ⟨t',rfl⟩:=ry
 obtain ⟨j,h1,h2,h3,h4,h5⟩:=Q3 he
 have hl:z.cps.toList.length=z.length:=by simp [Str.length]
 rw [hl] at h1 h4 h5
 have hn:=yo
 exact tail_any (typeIs_str s z t) slot_str_getitem.lookup (getItem_str (c:=c) (by
  have e1:decide (i < -(2 ^ 63:Int))=false:=decide_eq_false (by omega)
  have e2:decide (i ≥ 2 ^ 63)=false:=decide_eq_false (by omega)
  rw [e1,e2,Bool.or_false]) (by rw [h1]; simpa using h2) ⟨.str ⟨#[c]⟩,H,I.tok _,⟨_,rfl⟩,q⟩) hs
noncomputable def rIx (K:PySem.W.Frag):R2:=fun x y H Q=>rIxL K x y H Q\/rIxT K x y H Q\/rIxS x y H Q
theorem z0d:IxR X (rIx X.K):=KZ.or (z0b.or z0c)
theorem YD (lo hi:Option Int) (n:Nat):(sliceBounds lo hi none n).1=((HT.sIx n 0 lo:Nat):Int)/\(sliceBounds lo hi none n).2.1=((HT.sIx n n hi:Nat):Int)/\(sliceBounds lo hi none n).2.2=1:=by
 refine ⟨?_, ?_,rfl⟩
 ·cases lo with
  | none=>simp [sliceBounds,HT.sIx]
  | some i=>
   simp only [sliceBounds,HT.sIx,Option.getD_none,show (1:Int) > 0 by decide,if_true]
   by_cases h:i < 0
   ·simp only [h,if_true] <;> omega
   ·simp only [h,if_false] <;> omega
 ·cases hi with
  | none=>simp [sliceBounds,HT.sIx]
  | some i=>
   simp only [sliceBounds,HT.sIx,Option.getD_none,show (1:Int) > 0 by decide,if_true]
   by_cases h:i < 0
   ·simp only [h,if_true] <;> omega
   ·simp only [h,if_false] <;> omega
theorem yO (its:List Value) (lo hi:Option Int):slicePick its.toArray lo hi none=((its.drop (HT.sIx its.length 0 lo)).take (HT.sIx its.length its.length hi - HT.sIx its.length 0 lo)).toArray:=by
 obtain ⟨h1,h2,h3⟩:=YD lo hi its.toArray.size
 unfold slicePick
 rw [h1,h2,h3]
 simp only [sliceRange_one,pick_run,List.size_toArray] <;> rfl
noncomputable def rSlL (K:PySem.W.Frag):V->Option Int->Option Int->Hp->VK->Prop:=fun x lo hi H Q=>∃ a xs,x= .ref a/\SqL K H a xs/\∀ p,H p=none->Q (.ref p) (upd H p (.lst (Ka xs lo hi)))
theorem g6:SlR X (rSlL X.K):=by
 intro pins s σ H x v vl vu lo hi sl Q I rx hs pl pu h
 obtain ⟨a,xs,rfl,hx,q⟩:=h
 cases rx
 obtain ⟨its,r,ht,hz⟩:=I.list hx
 have hlen:=r.length
 refine ⟨"list",_,slot_list_getitem.lookup,ht.isList.typeIs, ?_⟩
 refine wpAny_getItem_list_slice ht.isList hs pl pu .none (by simp) ?_ (by rw [List.size_toArray] <;> omega)
 rw [yO,← hlen]
 refine ⟨.ref s.heap.objs.size,_,I.laid (t' :=s.toks) (o:= .lst (Ka xs lo hi)) (fun b ob q=>Heap.get?_push_of_some _ q) (Nat.le_refl _) ?_,rfl,q _ (I.hok.fresh (Nat.le_refl _))⟩
 exact ⟨Nat.le_trans (Uq xs lo hi) hz,_,0,(r.drop (HT.sIx xs.length 0 lo)).take (HT.sIx xs.length xs.length hi - HT.sIx xs.length 0 lo),Heap.get?_push_size _ rfl⟩
theorem YE:Jn X (.builtin "len") (fun xs H Q=>∃ p ys,xs=[.ref p]/\(SqL X.K H p ys\/SqT X.K H p ys)/\Q (.int ys.length) H):=by
 intro pins s σ H xs us Q I r h
 obtain ⟨p,ys,rfl,hq,q⟩:=h
 obtain ⟨u,rfl,rx⟩:=wI r
 cases rx
 have hn:=yo
 rcases hq with hq | hq
 ·obtain ⟨its,r',pl,hz⟩:=I.list hq
  have hlen:=r'.length
  exact Calls.call_len_list pl.isList (by simp only [List.size_toArray] <;> omega) ⟨.int ys.length,H,I.tok _,⟨s.toks+1,by rw [List.size_toArray,hlen]⟩,q⟩
 ·obtain ⟨its,r',pl,hz⟩:=I.tuple hq
  have hlen:=r'.length
  exact len_tuple pl (by simp only [List.size_toArray] <;> omega) ⟨.int ys.length,H,I.tok _,⟨s.toks+1,by rw [List.size_toArray,hlen]⟩,q⟩
theorem YF:Jn X (.builtin "len") (fun xs H Q=>∃ z,xs=[.str z]/\z.length<=sizeLine/\Q (.int z.length) H):=by
 intro pins s σ H xs us Q I r h
 obtain ⟨z,rfl,hz,q⟩:=h
 obtain ⟨u,rfl,t,rfl⟩:=wI r
 have hn:=yo
 exact len_str (by omega) ⟨.int z.length,H,I.tok _,⟨_,rfl⟩,q⟩
theorem Jn.or {f:Value} {r r' :List V->Hp->VK->Prop} (h:Jn X f r) (h' :Jn X f r'):Jn X f (fun xs H Q=>r xs H Q\/r' xs H Q):=by
 intro pins s σ H xs us Q I rs q
 rcases q with q | q
 ·exact h pins s σ H xs us Q I rs q
 ·exact h' pins s σ H xs us Q I rs q
theorem yP:Jn X (.type "tuple") (fun xs H Q=>∃ p ys,xs=[.ref p]/\((SqL X.K H p ys/\∀ l,H l=none->Q (.ref l) (upd H l (.tup ys)))\/(SqT X.K H p ys/\Q (.ref p) H))):=by
 intro pins s σ H xs us Q I r h
 obtain ⟨p,ys,rfl,h⟩:=h
 obtain ⟨u,rfl,rx⟩:=wI r
 cases rx
 rcases h with ⟨hq,q⟩ | ⟨hq,q⟩
 ·obtain ⟨its,r',pl,hz⟩:=I.list hq
  have hlen:=r'.length
  refine call_tuple_list pl.isList (fun h' kp=> ?_) (by simp only [List.size_toArray] <;> omega)
  have I1:Inv X pins σ H { s with heap:=h' }:=I.kept (t' :=s.toks) kp
  have I2:Inv X pins σ (upd H h'.objs.size (.tup ys)) { s with heap:=h'.push { cls:= .type "tuple",data:= .seq its.toArray } }:=
   I1.laid (t' :=s.toks) (fun b o e=>Heap.get?_push_of_some _ e) (Nat.le_refl _) (show jl X.prog X.w _ _ _ (.tup ys) from ⟨hz,its,r',IsTup.new _ _⟩)
  exact ⟨.ref h'.objs.size,_,I2,rfl,q _ (I1.hok.fresh (Nat.le_refl _))⟩
 ·obtain ⟨its,r',pl,hz⟩:=I.tuple hq
  exact call_tuple_same pl ⟨.ref p,H,I,rfl,q⟩
noncomputable def tyV (K:PySem.W.Frag) (T:String) (x:V) (H:Hp):Prop:=match x with
 | .str _=>T="str"
 | .int _=>T="int"
 | .ref p=>(T="list"/\∃ xs,SqL K H p xs)\/(T="tuple"/\∃ o,K.lookup p=some o/\o.cls= .type "tuple"/\o.dict=none)\/
   (T="dict"/\((∃ kvs,H p=some (.dK kvs))\/∃ kvs,H p=some (.dT kvs)))\/(T="set"/\∃ S n,H p=some (.set S n))
 | _=>False
theorem z0e {pins:List (Addr×Obj)} {σ:St} {H:Hp} {s:Shared} {T:String} {x:V} {v:Value} (I:Inv X pins σ H s) (r:jk x v) (ty:tyV X.K T x H):
  s.TypeIs v T/\∀ a,v= .ref a->∃ ob,s.heap.get? a=some ob/\ob.dict=none:=by
 cases x with
 | str z=>
  obtain ⟨t,rfl⟩:=r
  cases (show T="str" from ty)
  exact ⟨typeIs_str s z t,fun _ e=>nomatch e⟩
 | int i=>
  obtain ⟨t,rfl⟩:=r
  cases (show T="int" from ty)
  exact ⟨typeIs_int s i t,fun _ e=>nomatch e⟩
 | ref p=>
  cases r
  rcases ty with ⟨rfl,xs,hq⟩ | ⟨rfl,o,hk,hc,hd⟩ | ⟨rfl,hk⟩ | ⟨rfl,S,n,hk⟩
  ·obtain ⟨its,_,pl,_⟩:=I.list hq
   refine ⟨pl.isList.typeIs,fun a e=> ?_⟩
   cases e
   obtain ⟨o,n,e,c,hd,_⟩:=pl
   exact ⟨o,e,hd⟩
  ·refine ⟨⟨o,I.kIn p o hk,hc⟩,fun a e=> ?_⟩
   cases e
   exact ⟨o,I.kIn _ o hk,hd⟩
  ·have z:∃ o,s.heap.get? p=some o/\o.ExactDict:=by
    rcases hk with ⟨kvs,hk⟩ | ⟨kvs,hk⟩
    ·obtain ⟨_,_,_,_,o,_,_,e,ex,_⟩:=I.hok p _ hk
     exact ⟨o,e,ex⟩
    ·obtain ⟨_,_,_,_,o,_,_,e,ex,_⟩:=I.hok p _ hk
     exact ⟨o,e,ex⟩
   obtain ⟨o,e,ex⟩:=z
   refine ⟨⟨o,e,ex.1⟩,fun a e2=> ?_⟩
   cases e2
   exact ⟨o,e,ex.2.1⟩
  ·obtain ⟨o,_,_,_,e,ex,_⟩:=I.hok p _ hk
   refine ⟨⟨o,e,ex.1⟩,fun a e2=> ?_⟩
   cases e2
   exact ⟨o,e,ex.2.1⟩
 | _=>exact False.elim ty
noncomputable def tBM (K:PySem.W.Frag) (T:String) (r:V->List V->Hp->VK->Prop) (to:TE) (t:TA):TE:=fun σ H Q=>to σ H fun x H1=>tyV K T x H1/\t σ H1 fun xs H2=>r x xs H2 Q
variable {o e:Expr} {es:List Expr} {to:TE} {t:TA} {name:Str} {apos cpos:Pos} {T id:String} {r:V->List V->Hp->VK->Prop}
theorem g9 (pa:PlainAttrs T) (slot:Slot T name id) (hty:typeOf (.builtin id)=pure (.type "method_descriptor")) (hm:MtR X id r) (ho:PE X o to) (ha:PA X (e :: es) t)
  (hbase:attributeBase o name X.env (eval o X.env)=eval o X.env:=by rfl)
  (hfew:((backTo cpos (starEach (e :: es) X.env)).all (fun x=> !x.1) && (backToKw cpos (keywordEach [] X.env)).all (fun x=>x.1.isSome)
   && decide ((e :: es).length+([]:List Keyword).length+(if ([]:List Keyword).isEmpty then 0 else 1) < 30))=true:=by rfl)
  (hline:(apos.endLine == cpos.line)=true:=by rfl) (hs:starEach (e :: es) X.env=(false,eval e X.env) :: starEach es X.env:=by rfl) (hplain:(backTo cpos (starEach es X.env)).any (·.1)=false:=by rfl):
  PE X (.Call (.Attribute o name apos) (e :: es) [] cpos) (tBM X.K T r to t):=by
 intro pins s σ H Q I h
 refine wpAny_Call_method_late hbase hfew hline rfl (thn (ho pins s σ H _ I h) fun v s1 ⟨x,H1,I1,r1,ty,q1⟩=> ?_)
 obtain ⟨h1,h2⟩:=z0e I1 r1 ty
 refine ⟨T,id,pa,slot,hty,h1,h2, ?_⟩
 have hA:=ha cpos pins s1 σ H1 _ I1 q1
 rw [hs] at hA ⊢
 refine Calls.callWith_builtin (by show (false || (backTo cpos (starEach es X.env)).any (·.1))=false; rw [hplain] <;> rfl) (Calls.evalArgs_plain ?_)
 exact thn hA fun us s2 ⟨vs,H2,I2,r2,q2⟩=>hm pins s2 σ H2 x vs v us Q I2 r1 r2 q2
end
end L2
namespace L2
open PySem PySem.Spec PyProof.Rows
noncomputable def MtM (X:Cx) (id:String) (r:V->List V->Hp->VK->Prop):Prop:=
 ∀ (pins:List (Addr×Obj)) (s:Shared) (σ:St) (H:Hp) (x:V) (xs:List V) (v:Value) (us:List Value) (Q:VK),Inv X pins σ H s->jk x v->ZD xs us->r x xs H Q->
  wpAny (model X.prog X.w) X.A (call (.builtin id) (v :: us)) (EP X pins σ Q) X.xe s
theorem ZD.one:∀ {x:V} {us:List Value},ZD [x] us->∃ u,us=[u]/\jk x u
 | _,_, .cons r .nil=>⟨_,rfl,r⟩
theorem ZD.rep {xs:List V} {us:List Value} (h:ZD xs us):∀ k:Nat,ZD (List.replicate k xs).flatten (List.replicate k us).flatten
 | 0=> .nil
 | k+1=>by
  rw [List.replicate_succ,List.replicate_succ,List.flatten_cons,List.flatten_cons]
  exact ZD.append h (ZD.rep h k)
theorem WL (its:List Value):∀ (k:Nat) (acc:List Value),
  List.foldl (fun x1 x2=>x1++x2) acc.toArray (List.replicate k its.toArray)=(acc++(List.replicate k its).flatten).toArray
 | 0,acc=>by simp
 | k+1,acc=>by
  have e:acc.toArray++its.toArray=(acc++its).toArray:=by simp
  have e2:(acc++its)++(List.replicate k its).flatten=acc++(List.replicate (k+1) its).flatten:=by
   rw [List.replicate_succ,List.flatten_cons,List.append_assoc]
  rw [← e2,← WL its k (acc++its),← e,List.replicate_succ,List.foldl_cons]
section
variable {X:Cx} {pins:List (Addr×Obj)} {σ:St} {H:Hp} {s:Shared} {l b:Addr} {xs ys zs:List V}
theorem Inv.lset {its its' :List Value} {n:Nat} {f:Array Value->Array Value} {t' :Nat} (I:Inv X pins σ H s) (hH:H l=some (.lst xs))
  (e:s.heap.get? l=some { cls:= .type "list",data:= .seq its.toArray n }) (hf:f its.toArray=its'.toArray) (hv:ZD ys its') (hz:ys.length<=sizeLine):
  Inv X pins σ (upd H l (.lst ys)) { s with heap:=s.heap.update l (Obj.mapSeq f),toks:=t' }:=by
 have q:=PySem.IsL.update e f
 rw [hf] at q
 refine I.write (x:=l) (e:=l) (by rw [hH]; exact trivial) (.inl rfl) (fun b' u hb hu=>(Heap.get?_update_other s.heap (Obj.mapSeq f) (Ne.symm hb)).trans hu) ⟨_,q⟩ ?_
 exact ⟨hz,its',_,hv,q⟩
theorem Inv.lnew {its:List Value} {t' :Nat} (I:Inv X pins σ H s) (hv:ZD ys its) (hz:ys.length<=sizeLine):
  Inv X pins σ (upd H s.heap.objs.size (.lst ys)) { s with heap:=s.heap.push { cls:= .type "list",data:= .seq its.toArray },toks:=t' }:=
 I.laid (fun _ _ q=>Heap.get?_push_of_some _ q) (Nat.le_refl _) ⟨hz,its,0,hv,Heap.get?_push_size _ rfl⟩
theorem Inv.fresh (I:Inv X pins σ H s):H s.heap.objs.size=none:=I.hok.fresh (Nat.le_refl _)
theorem Inv.lstM (I:Inv X pins σ H s) (hH:H l=some (.lst xs)):xs.length<=sizeLine/\∃ (its:List Value) (n:Nat),ZD xs its/\xs.length=its.length/\s.heap.get? l=some { cls:= .type "list",data:= .seq its.toArray n }:=by
 obtain ⟨z,its,n,r,e⟩:=I.hok l _ hH
 exact ⟨z,its,n,r,r.length,e⟩
theorem QJ {n:Nat} (h:n<=sizeLine):Builtin.List.listTooLong n=false:=by
 unfold Builtin.List.listTooLong
 exact decide_eq_false (by omega)
end
section
variable {X:Cx}
noncomputable def gc:V->List V->Hp->VK->Prop:=fun x vs H Q=>∃ l xs y,x= .ref l/\vs=[y]/\H l=some (.lst xs)/\xs.length < sizeLine/\Q .non (upd H l (.lst (xs++[y])))
theorem YG:MtM X "list.append" gc:=by
 intro pins s σ H x vs v us Q I rx rv h
 obtain ⟨l,xs,y,rfl,rfl,hH,hz,q⟩:=h
 cases rx
 obtain ⟨u,rfl,ru⟩:=rv.one
 obtain ⟨z,its,n,r,hl,e⟩:=I.lstM hH
 refine call_meets F.slot_list_append ⟨_,e,rfl⟩ F.entry_list_append (F.args_list_append_2 _ _) (PySem.list_append l its.toArray n u (by rw [List.size_toArray]; omega)) ⟨e, ?_⟩
 refine ⟨.non,_,I.lset (its' :=its++[u]) hH e (by simp) (r.append (.cons ru .nil)) ?_,rfl,q⟩
 rw [List.length_append,List.length_singleton]
 omega
noncomputable def gd:V->List V->Hp->VK->Prop:=fun x vs H Q=>∃ l b xs zs,x= .ref l/\vs=[.ref b]/\H l=some (.lst xs)/\H b=some (.lst zs)/\xs.length+zs.length<=sizeLine/\Q .non (upd H l (.lst (xs++zs)))
theorem VN:MtM X "list.extend" gd:=by
 intro pins s σ H x vs v us Q I rx rv h
 obtain ⟨l,b,xs,zs,rfl,rfl,hH,hB,hz,q⟩:=h
 cases rx
 obtain ⟨u,rfl,ru⟩:=rv.one
 cases ru
 obtain ⟨z,its,n,r,hl,e⟩:=I.lstM hH
 obtain ⟨z2,its2,n2,r2,hl2,e2⟩:=I.lstM hB
 have hsz:its.toArray.size+its2.toArray.size<=sizeLine:=by rw [List.size_toArray,List.size_toArray]; omega
 have hlong:¬ (!its.toArray.isEmpty && Builtin.List.listTooLong (its.toArray.size+its2.toArray.size))=true:=by
  rw [QJ hsz,Bool.and_false]
  exact Bool.false_ne_true
 refine call_meets F.slot_list_extend ⟨_,e,rfl⟩ F.entry_list_extend (F.args_list_extend_2 _ _)
  (AutoSeq1.list_extend_list_list_0 l its.toArray n b its2.toArray n2 hlong (by rw [List.size_toArray]; omega) (by omega)) ⟨e,e2, ?_⟩
 refine ⟨.non,_,I.lset (its' :=its++its2) hH e (by simp) (r.append r2) ?_,rfl,q⟩
 rw [List.length_append]
 omega
noncomputable def rCat:R2:=fun x y H Q=>∃ l b xs zs,x= .ref l/\y= .ref b/\H l=some (.lst xs)/\H b=some (.lst zs)/\xs.length+zs.length<=sizeLine/\∀ p,H p=none->Q (.ref p) (upd H p (.lst (xs++zs)))
theorem z0f:OpR X (binaryOp .Add) rCat:=by
 intro pins s σ H x y v u Q I rx ry h
 obtain ⟨l,b,xs,zs,rfl,rfl,hH,hB,hz,q⟩:=h
 cases rx
 cases ry
 obtain ⟨z,its,n,r,hl,e⟩:=I.lstM hH
 obtain ⟨z2,its2,n2,r2,hl2,e2⟩:=I.lstM hB
 refine PySem.P.add_list e e2 ?_ (by rw [List.size_toArray,List.size_toArray]; omega)
 have ea:its.toArray++its2.toArray=(its++its2).toArray:=by simp
 rw [ea]
 exact ⟨.ref _,_,I.lnew (t' :=s.toks) (r.append r2) (by rw [List.length_append]; omega),rfl,q _ I.fresh⟩
noncomputable def rRep:R2:=fun x y H Q=>∃ l k xs,x= .ref l/\y= .int k/\H l=some (.lst xs)/\ -(2 ^ 63)<=k/\k < 2 ^ 63/\xs.length*k.toNat<=sizeLine/\
 ∀ p,H p=none->Q (.ref p) (upd H p (.lst (List.replicate k.toNat xs).flatten))
theorem uf {α:Type} (xs:List α) (k:Nat):(List.replicate k xs).flatten.length=k*xs.length:=by
 induction k with
 | zero=>simp
 | succ k ih=>rw [List.replicate_succ,List.flatten_cons,List.length_append,ih,Nat.succ_mul,Nat.add_comm]
theorem z0g:OpR X (binaryOp .Mult) rRep:=by
 intro pins s σ H x y v u Q I rx ry h
 obtain ⟨l,k,xs,rfl,rfl,hH,h1,h2,hz,q⟩:=h
 cases rx
 obtain ⟨t,rfl⟩:=ry
 obtain ⟨z,its,n,r,hl,e⟩:=I.lstM hH
 have hlen:its.toArray.size*k.toNat<=sizeLine:=by rw [List.size_toArray,← hl]; exact hz
 have hcap:¬ its.toArray.size*k.toNat > (2 ^ 63 - 1) / 8:=by
  have:(sizeLine:Nat)<=(2 ^ 63 - 1) / 8:=by decide
  omega
 have hfit:¬ (!Builtin.List.listFitsIndex k)=true:=by
  rw [fitsIndex_both h1 h2]
  exact Bool.false_ne_true
 have hlong:¬ Builtin.List.listTooLong (its.toArray.size*k.toNat)=true:=by
  rw [QJ hlen]
  exact Bool.false_ne_true
 have hnew:List.foldl (fun x1 x2=>x1++x2) #[] (List.replicate (if its.toArray.isEmpty=true then 0 else k.toNat) its.toArray)=(List.replicate k.toNat its).flatten.toArray:=by
  have f0:∀ m:Nat,List.foldl (fun x1 x2=>x1++x2) #[] (List.replicate m its.toArray)=(List.replicate m its).flatten.toArray:=fun m=>by
   have:=WL its m []
   rw [List.nil_append] at this
   exact this
  rw [f0]
  cases its with
  | nil=>simp
  | cons a r' =>rw [if_neg (by simp)]
 refine wpAny_binaryOp_repeat_ref (T:="list") (U:="int") (by decide) ⟨_,e,rfl⟩ (fun s' =>typeIs_int s' k t) noFill_list_mul F.fills_int_mul F.slot_int_rmul repeat_list F.slot_int_index.lookup
  (call_meets F.slot_int_rmul (typeIs_int s k t) F.entry_int_rmul (F.args_int_rmul_2 _ _) (int___rmul___int_list k t l its.toArray n)
   ⟨e,rfl,⟨_,e,rfl⟩,call_meets F.slot_list_mul ⟨_,e,rfl⟩ F.entry_list_mul (F.args_list_mul_2 _ _) (AutoListH.list___mul___list_int_3 l its.toArray n k t hfit hcap hlong) ⟨e, ?_⟩⟩)
 rw [hnew]
 exact ⟨.ref _,_,I.lnew (t' :=s.toks) (r.rep k.toNat) (by rw [uf,Nat.mul_comm]; exact hz),rfl,q _ I.fresh⟩
end
section
variable {prog:Program} {w:World} {A:Around} {E:Value->Shared->Prop} {s:Shared}
end
section
variable {X:Cx}
end
end L2
namespace Att
open PySem PySem.W PySem.Calls PyProof.Rows
theorem Ur {P:Params} {h:Heap}:∀ (ns:List Int) (vs:List Value),WellAll P h vs (ns.map WData.int)->IntsAre vs ns:=by
 intro ns
 induction ns with
 | nil=>
  intro vs w
  rw [List.map_nil] at w
  cases w
  exact .nil
 | cons n ns ih=>
  intro vs w
  rw [List.map_cons] at w
  cases w with
  | cons a b=>
   cases a
   exact .cons _ _ (ih _ b)
theorem VO {l:OpenLaw} {n:Nat} (hn:l.most=some n) {P:Params} {h:Heap} {args:List WData} {vals:List Value}
  (hpre:l.row.toRowW.claim.pre args=true) (hwl:WellAll P h vals args):
  ∃ a vs ns,vals=[Value.ref a]/\args=[WData.list (ns.map WData.int)]/\h.get? a=some { cls:= .type "list",data:= .seq vs.toArray }/\IntsAre vs ns/\ns.length<=n:=by
 have hsh:WShape.hasAll [] args [.list .int]=true:=(pre_splitW hpre).1
 have hc:l.pre.holds [] { args:=args }=true:=(pre_splitW hpre).2
 obtain ⟨d,r,rfl,h1,h2⟩:=hasAllW_cons hsh
 obtain rfl:=hasAllW_nil h2
 obtain ⟨xs,rfl,h3⟩:=hasW_list h1
 obtain ⟨ns,rfl⟩:=items_int h3
 have hlen:ns.length<=n:=by
  unfold OpenLaw.pre at hc
  have h4:(WTm.not (.lt (.lit (.int (n:Int))) (.len (.arg 0)))).holds [] { args:=[.list (ns.map .int)] }=true:=by
   have h4:=(holds_andW hc).1
   rw [hn] at h4
   exact h4
  have h5:=condW_of h4 (w_not (w_lt w_lit (w_len_list (w_arg rfl))))
  rw [List.length_map] at h5
  refine Nat.le_of_not_lt fun q=> ?_
  have q' :(n:Int) < ((ns.length:Nat):Int):=by omega
  first
   | (rw [decide_eq_true q'] at h5; exact absurd h5 (by decide))
   | (simp at h5; omega)
 cases hwl with
 | cons w1 w2=>
  cases w2
  cases w1 with
  | list ho hall=>exact ⟨_,_,ns,rfl,rfl,ho,Ur ns _ hall,hlen⟩
theorem VP (l:OpenLaw) (args:List WData):l.row.toRowW.claim.post args (.bool true) args=true:=
 postW_of (r:=l.row.toRowW) (X:=(true == true))
  (show WShape.has [] (.bool true) .bool=true by first | rfl | decide | simp [WShape.has,WShape.arms,WShape.armsAll])
  (show (WTm.eq .res (.lit (.bool true))).value [] { args:=args,res:=some (.bool true),after:=args }=some (.bool (true == true)) from w_eq_bool (w_res rfl) w_lit) rfl
theorem attach_call {l:OpenLaw} {n:Nat} {q:Program} {loose:List Str} {XP:(Str->Option Value)->Heap->Prop} {YP:World->Heap->Prop} {d:DefRec}
  (hn:l.most=some n) (hdf:d.params.defaults=[])
  (call:∀ (w:World) (s₀ s₁:Shared) (mg mb:Str->Option Value) (fa:Addr) (o:Obj) (pm cd doc:Value) (a:Addr) (vs:List Value) (ns:List Int),
   Ground q loose [] XP w s₀ mg mb s₁.heap->YP w s₁.heap->
   s₁.heap.get? fa=some o->o.data= .func (docDef d.name d.params d.body d.scope pm cd doc)->s₁.heap.CodeRec cd d.name->mg d.name=some (.ref fa)->
   s₁.heap.get? a=some { cls:= .type "list",data:= .seq vs.toArray }->IntsAre vs ns->ns.length<=n->s₁.gens= #[]->
   codeAny (model l.prog w) callerA (.call (.ref fa) ⟨[.ref a],[]⟩) (fun r s' =>r= .ok (.ret (.bool true))/\OldK s₁.heap s'.heap/\s'.os=s₁.os/\AllBare s'.gens) s₁):
  WalkO q loose XP YP l.row.toRowW d [] (fun f vs=>PySem.call f vs):=by
 intro w s₀ s₁ mg mb G Y fa o pm cd doc dV kV ho hd hcd hD hmg hg args vals as hpre hlay hrd hwl hlo
 obtain rfl:dV= .none:=Dflts.none hD hdf
 obtain rfl:kV= .none:=Dflts.noKw hD
 obtain ⟨a,vs,ns,rfl,rfl,hobj,hints,hlen⟩:=VO hn hpre hwl
 refine enter_call (codeAny_mono (call w s₀ s₁ mg mb fa o pm cd doc a vs ns G Y ho (fd_plain hd) hcd hmg hobj hints hlen hg) fun r s' hq=> ?_)
 obtain ⟨rfl,h2,h3,h4⟩:=hq
 exact ⟨.inl ⟨.bool true, .bool true,[],rfl,fun _=>rfl, .bool true,VP l _,fun _=>⟨List.Pairwise.nil,fun _ hm=>(nomatch hm)⟩⟩,h2,h3,h4⟩
section
variable {prog:Program} {w:World} {A:Around} {E:Value->Shared->Prop} {s:Shared} {K:Frag}
end
end Att
namespace L2
open PySem PySem.Spec PyProof.Rows
theorem WM:∀ {vs:List Value} {ns:List Int},IntsAre vs ns->ZD (ns.map V.int) vs
 | _,_, .nil=> .nil
 | _,_, .cons n t h=> .cons ⟨t,rfl⟩ (WM h)
noncomputable def z1q (H:Hp):Prop:=∀ b,H b=none\/∃ o xs,H b=some (.frz o (.lst xs))
theorem k7 {P:Program} {w:World} {K:PySem.W.Frag} {mg mb:Str->Option Value} {CX:CXT} {k:Nat} {fa a:Addr} {fd:FuncData} {x:Str} {sp:Sp} {s₁:Shared} {vs:List Value} {ns:List Int}
  (KX:K.In s₁.heap) (hns:s₁.heap.Ns mainGlobals mg) (hb:s₁.heap.Ns builtinsNs mb) (hbb:∀ x:Str,x ≠ "__name__"->mb x=bootBuiltins x) (hlim:s₁.heap.NoLimit) (hg:s₁.gens= #[])
  (ha:s₁.heap.get? a=some { cls:= .type "list",data:= .seq vs.toArray }) (hi:IntsAre vs ns) (hl:ns.length<=sizeLine) (hr:uW k callerA)
  (F:∀ base:Heap,K.In base->base.Ns mainGlobals mg->j2 P w K mg base CX k fa fd [x] sp) (hbind:∀ (s:Shared) (u:Value),BindsTo s fd ⟨[u],[]⟩ [(x,u)])
  (hsp:∀ H:Hp,z1q H->SqL K H a (ns.map V.int)->sp [.ref a] H (fun v _=>v= .bl true) fun _ _ _=>False)
  (hCX:∀ H e s',CX [] H s₁ (fun _ _ _=>False) e s' ->False):
  codeAny (model P w) callerA (.call (.ref fa) ⟨[.ref a],[]⟩) (fun r s' =>r= .ok (.ret (.bool true))/\OldK s₁.heap s'.heap/\s'.os=s₁.os/\AllBare s'.gens) s₁:=by
 have rv:=WM hi
 have lenV:=hi.length
 have core:∀ H:Hp,z1q H->SqL K H a (ns.map V.int)->HOk P w H s₁.heap->(∀ b,H b ≠ none->b=a)->(H a ≠ none->K.lookup a=none)->
   codeAny (model P w) callerA (.call (.ref fa) ⟨[.ref a],[]⟩) (fun r s' =>r= .ok (.ret (.bool true))/\OldK s₁.heap s'.heap/\s'.os=s₁.os/\AllBare s'.gens) s₁:=by
  intro H hO hS hok hA hK
  have base_of:∀ {b:Addr} {o:Obj},s₁.heap.get? b=some o->H b=none->(XR s₁.heap H).get? b=some o:=fun e n=>XS e n
  have noA:∀ {b:Addr} {o:Obj} {es:Array DictEntry} {ep:Nat},s₁.heap.get? b=some o->o.data= .dict es ep->H b=none:=fun {b o es ep} e d=>by
   cases q:H b with
   | none=>rfl
   | some u=>
    have e' :b=a:=hA b (by rw [q]; simp)
    subst e'
    rw [ha] at e; cases e
    have d' :Data.seq vs.toArray _=Data.dict es ep:=d
    cases d'
  have nsK:∀ {b:Addr} {m:Str->Option Value},s₁.heap.Ns b m->(XR s₁.heap H).Ns b m:=fun {b m} ⟨o,es,ep,e,d,r⟩=>⟨o,es,ep,base_of e (noA e d),d,r⟩
  have hKb:K.In (XR s₁.heap H):=fun b o e=>base_of (KX b o e) (by
   cases q:H b with
   | none=>rfl
   | some u=>
    have e' :b=a:=hA b (by rw [q]; simp)
    subst e'
    rw [hK (by rw [q]; simp)] at e; cases e)
  have hM:Mod K mg (XR s₁.heap H):=⟨hKb,nsK hns,⟨mb,nsK hb,hbb⟩,let ⟨mc,h1,h2⟩:=hlim; ⟨mc,nsK h1,h2⟩⟩
  have e0:z1p P w K mg (XR s₁.heap H) callerA [] s₁ H:=⟨rfl,hM,fun b o e=>KH e,Nat.le_of_eq (Vw _ _),trivial,fun b hb=>absurd (show b∈([]:List Addr) from hb) (by simp),hok, .of_eq hg⟩
  refine codeAny_mono ((F _ hKb (nsK hns)).run callerA [] s₁ H ⟨[.ref a],[]⟩ [.ref a] [.ref a] _ _ hr e0 (hbind s₁ (.ref a)) (.cons rfl .nil) (hsp H hO hS)) fun r s' h=> ?_
  cases r with
  | error e=>exact (hCX H e s' h).elim
  | ok fl=>
   cases fl with
   | next=>exact False.elim h
   | brk=>exact False.elim h
   | cont=>exact False.elim h
   | ret u=>
    obtain ⟨v,H',os,bare,un,hok',r',q⟩:=h
    have q' :v= .bl true:=q
    subst q'
    obtain rfl:u=Value.bool true:=r'
    refine ⟨rfl,OldK.of_keep fun b o e=> ?_,os,bare⟩
    cases q:H b with
    | none=>exact un.keep b o e q (by intro z; exact absurd (show b∈([]:List Addr) from z) (by simp)) (by simp)
    | some u=>
     rcases hO b with z | ⟨ob,xs,z⟩
     ·rw [q] at z; cases z
     ·have z2:=un.frzs b ob _ z
      obtain ⟨e1,_⟩:=hok b _ z
      obtain ⟨e2,_⟩:=hok' b _ z2
      rw [e] at e1; cases e1
      exact e2
 cases hk:K.lookup a with
 | some o=>
  have e:=KX a o hk
  rw [ha] at e
  cases e
  refine core (fun _=>none) (fun _=> .inl rfl) (.inr ⟨_,vs.toArray,_,hk,rfl,rfl,rfl,by rw [List.size_toArray,lenV]; exact hl,by simpa using rv⟩) (fun b u z=>by have z' :(none:Option HO)=some u:=z; cases z') (fun b z=>absurd rfl z) fun z=>absurd rfl z
 | none=>
  refine core (fun b=>if b=a then some (.frz { cls:= .type "list",data:= .seq vs.toArray } (.lst (ns.map V.int))) else none) (fun b=> ?_) (.inl (.inr ⟨{ cls:= .type "list",data:= .seq vs.toArray },if_pos rfl⟩)) (fun b u z=> ?_) (fun b z=> ?_) fun _=>hk
  ·by_cases hb:b=a
   ·exact .inr ⟨_,_,if_pos hb⟩
   ·exact .inl (if_neg hb)
  ·by_cases hb:b=a
   ·have z' :=(if_pos hb).symm.trans z
    cases z'
    subst hb
    exact ⟨ha,by rw [List.length_map]; exact hl,vs,_,rv,ha⟩
   ·have z' :=(if_neg hb).symm.trans z
    cases z'
  ·by_cases hb:b=a
   ·exact hb
   ·exact absurd (if_neg hb) z
end L2
namespace L2
open PySem PySem.Spec PyProof.Rows
theorem walk_of {l:PySem.W.OpenLaw} {n k:Nat} {q:Program} {loose:List Str} {XP:(Str->Option Value)->Heap->Prop} {YP:World->Heap->Prop} {d:DefRec} {K:Params->PySem.W.Frag} {CX:World->CXT} {sp:World->Sp} {x:Str}
  (hn:l.most=some n) (hn2:n<=sizeLine) (hdf:d.params.defaults=[]) (hr:uW k callerA)
  (hY:∀ (w:World) (h:Heap),YP w h->(K w.params).In h)
  (F:∀ (w:World) (mg:Str->Option Value) (fa:Addr) (h:Heap),(K w.params).In h->h.Ns mainGlobals mg->mg d.name=some (.ref fa)->
   ∃ fd:FuncData,(∀ (s:Shared) (u:Value),BindsTo s fd ⟨[u],[]⟩ [(x,u)])/\
    ∀ base:Heap,(K w.params).In base->base.Ns mainGlobals mg->j2 l.prog w (K w.params) mg base (CX w) k fa fd [x] (sp w))
  (hsp:∀ (w:World) (H:Hp) (a:Addr) (ns:List Int),ns.length<=n->z1q H->SqL (K w.params) H a (ns.map V.int)->sp w [.ref a] H (fun v _=>v= .bl true) fun _ _ _=>False)
  (hCX:∀ (w:World) (H:Hp) (s:Shared) (e:Value) (s' :Shared),CX w [] H s (fun _ _ _=>False) e s' ->False):
  PySem.W.WalkO q loose XP YP l.row.toRowW d [] (fun f vs=>PySem.call f vs):=by
 refine Att.attach_call hn hdf fun w s₀ s₁ mg mb fa o pm cd doc a vs ns G Y ho hd hcd hmg hobj hints hlen hg=> ?_
 have KX:=hY w _ Y
 obtain ⟨fd,hb,hF⟩:=F w mg fa _ KX G.T.g hmg
 exact k7 KX G.T.g G.T.b G.T.builtins G.T.nolimit hg hobj hints (Nat.le_trans hlen hn2) hr hF hb (fun H hO hS=>hsp w H a ns hlen hO hS) fun H e s' =>hCX w H s₁ e s'
end L2
namespace L2
open PySem PySem.Spec PyProof.Rows
noncomputable def wK (s:Stmt):Arguments:=match s with
 | .FunctionDef _ a _ _ _ _ _ _ _ _=>a
 | _=>{ posonlyargs:=[],args:=[],vararg:=none,kwonlyargs:=[],kw_defaults:=[],kwarg:=none,defaults:=[] }
noncomputable def jY (s:Stmt):List Stmt:=match s with
 | .FunctionDef _ _ b _ _ _ _ _ _ _=>b
 | _=>[]
noncomputable def ze (s:Stmt):Scope:=match s with
 | .FunctionDef _ _ _ _ _ _ sc _ _ _=>sc
 | _=>{ kind:= .function,names:=[],isGenerator:=false,isCoroutine:=false }
noncomputable abbrev CX0:CXT:=fun _ _ _ _ _ _=>False
structure Fun (K:PySem.W.Frag) (x qual:Str) (st:Stmt) (f:Addr) (fd:FuncData):Prop where
 ex:∃ (oc:Value) (od:Option Addr) (kV doc pm:Value) (an:Option Addr) (cdv ct:Value) (osl:Array (Option Value)),
  fd=PySem.W.fnOf x qual (wK st) (jY st) (ze st) .none kV doc pm an cdv ct/\K.lookup f=some ⟨oc,od, .func fd,osl⟩/\PySem.W.codeIn K cdv qual=true
 kp:PySem.W.keepIn K (.ref f)=true
section
variable {P:Program} {w:World} {K:PySem.W.Frag} {mg:Str->Option Value} {base:Heap}
theorem Fun.ok {x qual:Str} {st:Stmt} {f:Addr} {fd:FuncData} {N ps:List Str} {k:Nat} {sp:Sp} (F:Fun K x qual st f fd) (S:zr N ps (ze st)) (len:∀ vs H Q E,sp vs H Q E->vs.length=ps.length)
  (hbody:∀ (cdv:Value) (A:Around) (outer:List Env) (s:Shared) (H:Hp) (vs:List V) (Q:VK) (E:XK),uW k (A.deeper (envOfC qual (ze st) s.heap.objs.size f cdv))->sp vs H Q E->
   ∃ t,PSs (yc CX0 P w K mg base N qual (ze st) f cdv A outer s H E).nox (jY st) t/\t { nx:=fun _ H' =>Q .non H',rt:=Q } (start N vs) H):j2 P w K mg base CX0 (k+1) f fd ps sp:=by
 obtain ⟨oc,od,kV,doc,pm,an,cdv,ct,osl,rfl,lk,hcd⟩:=F.ex
 refine z08 lk hcd S len fun A outer s H vs Q E hr hsp=> ?_
 obtain ⟨t,h,q⟩:=hbody cdv A outer s H vs Q E hr hsp
 exact ⟨t,h.nox,q⟩
theorem Fun.binds {x qual:Str} {st:Stmt} {f:Addr} {fd:FuncData} {ps:List Str} (F:Fun K x qual st f fd)
  (h:∀ (kV doc pm:Value) (an:Option Addr) (cdv ct:Value) (us:List Value),us.length=ps.length->bindArgs (PySem.W.fnOf x qual (wK st) (jY st) (ze st) .none kV doc pm an cdv ct) ⟨us,[]⟩=pure (ps.zip us)):Binds K fd ps []:=by
 obtain ⟨oc,od,kV,doc,pm,an,cdv,ct,osl,rfl,lk,hcd⟩:=F.ex
 exact .all (h kV doc pm an cdv ct)
theorem z0h {x qual:Str} {st:Stmt} {f:Addr} {oc:Value} {od an:Option Addr} {osl:Array (Option Value)} {kV doc pm cdv ct:Value} (l:K.lookup f=some ⟨oc,od, .func (PySem.W.fnOf x qual (wK st) (jY st) (ze st) .none kV doc pm an cdv ct),osl⟩)
  (c:PySem.W.codeIn K cdv qual=true) (k:PySem.W.keepIn K (.ref f)=true):Fun K x qual st f (PySem.W.fnOf x qual (wK st) (jY st) (ze st) .none kV doc pm an cdv ct):=⟨⟨oc,od,kV,doc,pm,an,cdv,ct,osl,rfl,l,c⟩,k⟩
end
section
variable {X:Cx}
theorem pv (i:Nat) {x:Str} {pos:Pos} (hN:X.N[i]? =some x:=by rfl) (hv:Vis X.env.scope x:=by first | exact Or.inl rfl | exact Or.inr (Or.inl rfl) | exact Or.inr (Or.inr rfl)) (hd:(x == ("__debug__":Str))=false:=by decide)
  (hcd:(x == ("__classdict__":Str))=false:=by decide):PE X (.Name x pos) (KI i):=GP hN hv hd hcd
end
noncomputable def zT (H H' :Hp):Prop:=∀ b o,H b=some o->H' b=some o
theorem zT.refl (H:Hp):zT H H:=fun _ _ h=>h
theorem zT.trans {H H1 H2:Hp} (a:zT H H1) (b:zT H1 H2):zT H H2:=fun c o h=>b c o (a c o h)
theorem zT.free {H H' :Hp} (e:zT H H') {l:Addr} (h:H' l=Option.none):H l=Option.none:=by
 cases q:H l with
 | none=>rfl
 | some o=>
  rw [e l o q] at h
  cases h
end L2
namespace L2
open PySem PySem.Spec PyProof.Rows PySem.W
theorem QK {env:Env} {outer:List Env} {L:Addr} (h:env.frame=some L):frs (env :: outer)=L :: frs outer:=by
 unfold frs; rw [List.filterMap_cons,h]
structure gf (P:Program) (w:World) (outer:List Env) (H:Hp) (s s' :Shared) (ea:Addr) (cls a0:Value) (B:Heap) (H' :Hp):Prop where
 os:s'.os=s.os
 bare:AllBare s'.gens
 fly:Heap.FlyingW B outer ea cls a0 s'.heap
 hok:HOk P w H' B
 un:Un (frs outer) [] H H' s.heap s'.heap
 inB:∀ b o,s.heap.get? b=some o->b ∉ frs outer->(H b=none->B.get? b=some o)/\∃ o',B.get? b=some o'
noncomputable def CX1 (P:Program) (w:World):CXT:=fun outer H s E e s' =>∃ ea cls a0 B H',e= .ref ea/\gf P w outer H s s' ea cls a0 B H' /\E cls none H'
section
variable {X:Cx} {pins:List (Addr×Obj)} {σ:St} {H H' :Hp} {s s' :Shared} {ea:Addr} {cls a0:Value} {B:Heap} {h' h'' :Heap}
theorem Inv.frNf (I:Inv X pins σ H s):∀ b∈frs X.stack,H b=none/\∃ o,s.heap.get? b=some o/\∀ vs,o.data ≠ .fields vs:=fun b hb=>⟨I.stkFree b hb,(I.stack.mem hb).2⟩
theorem Inv.old (I:Inv X pins σ H s) {b:Addr} {o:Obj} (hX:X.stack=X.env :: X.outer) (hf:X.env.frame=some X.env.locals) (e:X.s₀.heap.get? b=some o) (hb:b ∉ frs X.outer):b ∉ frs X.stack:=by
 rw [hX,QK hf]
 intro z
 rcases List.mem_cons.mp z with z | z
 ·exact absurd (Nat.lt_of_lt_of_le (Heap.lt_size e) I.ok.above) (by rw [z]; exact Nat.lt_irrefl _)
 ·exact hb z
theorem Q4 {X:Cx} (hX:X.stack=X.env :: X.outer) (hf:X.env.frame=some X.env.locals) {b:Addr} (hb:b∈frs X.outer):b∈frs X.stack:=by
 rw [hX,QK hf]; exact List.mem_cons_of_mem _ hb
theorem gf.out (I:Inv X pins σ H s) (hX:X.stack=X.env :: X.outer) (hf:X.env.frame=some X.env.locals) (hex:X.ex=[]) (L:gf X.prog X.w X.stack H s s' ea cls a0 B H')
  (fl:Heap.FlyingW B X.outer ea cls a0 h') (sl:s'.heap.UpToSlots h'):gf X.prog X.w X.outer X.H₀ X.s₀ { s' with heap:=h' } ea cls a0 B H' where
 os:=L.os.trans I.os
 bare:=L.bare
 fly:=fl
 hok:=L.hok
 inB:=fun b o e hb=>by
  have nx:b ∉ X.ex:=by rw [hex]; simp
  obtain ⟨o1,e1⟩:=I.base.there b o e nx
  have hb' :=I.old hX hf e hb
  exact ⟨fun n=>(L.inB b o (I.base.keep b o e n hb nx) hb').1 (I.base.free b o e n nx),(L.inB b o1 e1 hb').2⟩
 un:=by
  have nx:∀ b,b ∉ X.ex:=fun b=>by rw [hex]; simp
  have slot:∀ b o,X.s₀.heap.get? b=some o->X.H₀ b=none->b∈frs X.outer->∃ sl,h'.get? b=some { o with slots:=sl }:=fun b o e n hb=>by
   obtain ⟨sl1,e1⟩:=I.base.slot b o e n hb (nx b)
   have n1:=I.base.free b o e n (nx b)
   obtain ⟨sl2,e2⟩:=L.un.slot b _ e1 n1 (Q4 hX hf hb) (by simp)
   obtain ⟨_,o3,e3,nf⟩:=I.frNf b (Q4 hX hf hb)
   rw [e1] at e3; cases e3
   obtain ⟨sl4,e4⟩:=sl b _ e2 nf
   exact ⟨sl4,e4⟩
  refine ⟨fun b o e n hb _=> ?_,fun b o e n hb _=>slot b o e n hb,fun b o e n _=> ?_,fun b o e _=> ?_,fun b xs e=>L.un.tups b xs (I.base.tups b xs e),fun b o xs e=>L.un.frzs b o xs (I.base.frzs b o xs e),fun b ps e=> ?_⟩
  ·exact fl.1 b o ((L.inB b o (I.base.keep b o e n hb (nx b)) (I.old hX hf e hb)).1 (I.base.free b o e n (nx b)))
  ·obtain ⟨o1,e1⟩:=I.base.there b o e (nx b)
   exact L.un.free b o1 e1 (I.base.free b o e n (nx b)) (by simp)
  ·by_cases hb:b∈frs X.outer
   ·obtain ⟨sl1,e1⟩:=slot b o e (I.ok.frf b hb) hb
    exact ⟨_,e1⟩
   ·obtain ⟨o1,e1⟩:=I.base.there b o e (nx b)
    obtain ⟨o',e'⟩:=(L.inB b o1 e1 (I.old hX hf e hb)).2
    exact ⟨o',fl.1 b o' e'⟩
  ·obtain ⟨m1,e1⟩:=I.base.tbls b ps e
   obtain ⟨m2,e2⟩:=L.un.tbls b _ e1
   exact ⟨m1++m2,by rw [e2,Array.append_assoc]⟩
theorem gf.made (I:Inv X pins σ H s) (hX:X.stack=X.env :: X.outer) (hf:X.env.frame=some X.env.locals) (hex:X.ex=[]) {vs:List Value} (hx:Heap.MadeExcOf s.heap h' ea cls vs)
  (fl:Heap.FlyingW (hideAll s.heap (frs X.stack)) X.outer ea cls a0 h'') (sl:h'.UpToSlots h''):gf X.prog X.w X.outer X.H₀ X.s₀ { s with heap:=h'' } ea cls a0 (hideAll s.heap (frs X.stack)) H where
 os:=I.os
 bare:=I.bare
 fly:=fl
 hok:=fun a o e=>(I.hok a o e).stay (fun b u hb q=>hideAll_get _ q fun z=>by
   have:=I.stkFree b z
   rcases hb with rfl | hb
   ·rw [e] at this; cases this
   ·rw [hb] at this; cases this) (fun _ q=>q) fun _ _ q=>q
 inB:=fun b o e hb=>by
  have nx:b ∉ X.ex:=by rw [hex]; simp
  obtain ⟨o1,e1⟩:=I.base.there b o e nx
  have hb' :=I.old hX hf e hb
  exact ⟨fun n=>hideAll_get _ (I.base.keep b o e n hb nx) hb',o1,hideAll_get _ e1 hb'⟩
 un:=by
  have nx:∀ b,b ∉ X.ex:=fun b=>by rw [hex]; simp
  have slot:∀ b o,X.s₀.heap.get? b=some o->X.H₀ b=none->b∈frs X.outer->∃ sl,h''.get? b=some { o with slots:=sl }:=fun b o e n hb=>by
   obtain ⟨sl1,e1⟩:=I.base.slot b o e n hb (nx b)
   obtain ⟨_,o3,e3,nf⟩:=I.frNf b (Q4 hX hf hb)
   rw [e1] at e3; cases e3
   obtain ⟨sl4,e4⟩:=sl b _ (hx.keeps b _ e1) nf
   exact ⟨sl4,e4⟩
  refine ⟨fun b o e n hb _=> ?_,fun b o e n hb _=>slot b o e n hb,fun b o e n _=>I.base.free b o e n (nx b),fun b o e _=> ?_,I.base.tups,I.base.frzs,I.base.tbls⟩
  ·exact fl.1 b o (hideAll_get _ (I.base.keep b o e n hb (nx b)) (I.old hX hf e hb))
  ·by_cases hb:b∈frs X.outer
   ·obtain ⟨sl1,e1⟩:=slot b o e (I.ok.frf b hb) hb
    exact ⟨_,e1⟩
   ·obtain ⟨o1,e1⟩:=I.base.there b o e (nx b)
    exact ⟨o1,fl.1 b o1 (hideAll_get _ e1 (I.old hX hf e hb))⟩
end
section
variable {P:Program} {w:World} {K:Frag} {mg:Str->Option Value} {base:Heap} {N:List Str} {qual:Str} {scope:Scope} {f:Addr} {cd:Value} {A:Around} {outer:List Env} {s:Shared} {H:Hp} {E:XK}
theorem Jo:Up (CX1 P w) (yc (CX1 P w) P w K mg base N qual scope f cd A outer s H E) E:=by
 intro pins σ H1 s1 e s' I ⟨ea,cls,a0,B,H',he,L,hE⟩
 subst he
 exact wpAny_leaves_onW (base:=B) I.ok.frames rfl L.fly fun h' fl sl=>⟨ea,cls,a0,B,H',rfl,L.out I rfl rfl rfl fl sl,hE⟩
theorem VQ {x:Str} {C:Addr} {bm bmN:List Value} {Bn Bb newId nid initId inN:String} {np cpos pos:Pos} {e:Expr} {t:TA} (O:OwnCls x C bm newId mg base) (Fn:ExcBaseFacts Bn newId inN bmN) (hBn:bm.contains (.type Bn)=true) (FB:ExcBaseFacts Bb nid initId bm)
  (hg:Gl (yc (CX1 P w) P w K mg base N qual scope f cd A outer s H E) x) (ha:PA (yc (CX1 P w) P w K mg base N qual scope f cd A outer s H E) [e] t)
  (he:starEach [e] (envOfC qual scope s.heap.objs.size f cd)=[(false,eval e (envOfC qual scope s.heap.objs.size f cd))]) (hd:(x == ("__debug__":Str))=false:=by decide):
  PS (yc (CX1 P w) P w K mg base N qual scope f cd A outer s H E) (.Raise (some (.Call (.Name x np) [e] [] cpos)) none pos) (fun _ σ H1=>t σ H1 fun vs H2=>vs.length<=sizeLine/\E (.ref C) none H2):=by
 intro pins s1 σ H1 D I hw
 obtain ⟨tl,N',nm,q,bs,hdct,sn,sub,ab,col,dd,k0,k1,k2,k3,k5,mN,hC,hN,hni,T⟩:=O.obj
 have hp:(backTo cpos (starEach [e] (envOfC qual scope s.heap.objs.size f cd))).any (·.1)=false:=by rw [he]; rfl
 refine wpAny_Raise_call_subU (C:=C) (nm:=nm) (q:=q) (N:=N') (bs:=bs) (bm:=tl) (hdct:=hdct) (sn:=sn) (sub:=sub) (ab:=ab) (col:=col) (dd:=dd) (k0:=k0) (k1:=k1) (k2:=k2) (k3:=k3) (k5:=k5)
  Fn hBn FB (mN:=mN) (T.hasType FB.hasBase) (I.ok.hd rfl) hp hni (Q0 I hg O.bound ⟨rfl, ?_⟩ hd)
 have h2:=ha cpos pins s1 σ H1 _ I hw
 have he' :starEach [e] (yc (CX1 P w) P w K mg base N qual scope f cd A outer s H E).env=[(false,eval e (yc (CX1 P w) P w K mg base N qual scope f cd A outer s H E).env)]:=he
 rw [he'] at h2 ⊢
 refine Calls.evalArgs_plain (thn h2 fun us s2 ⟨vs,H2,I2,r,hl,hE⟩=>⟨rfl,by rw [← r.length]; exact hl,I2.bk _ _ hC,hN.keeps I2.bk,T.keeps I2.bk,fun h' ea hx=> ?_⟩)
 have hin:∀ env∈(yc (CX1 P w) P w K mg base N qual scope f cd A outer s H E).stack,∀ b,env.frame=some b->b∈frs (yc (CX1 P w) P w K mg base N qual scope f cd A outer s H E).stack:=fun env he b hb=>List.mem_filterMap.mpr ⟨env,he,hb⟩
 exact wpAny_leaves_madeW (base:=hideAll s2.heap (frs (yc (CX1 P w) P w K mg base N qual scope f cd A outer s H E).stack)) (h:=s2.heap) I2.ok.frames rfl (fun b o q=>of_hideAll _ q) (funFrames_hide I2.stack hin) hx fun h'' t' fl _ _ sl=>
  ⟨ea, .ref C, .ref t',_,H2,rfl,gf.made I2 rfl rfl rfl hx fl sl,hE⟩
end
end L2
namespace L2
open PySem PySem.Spec PyProof.Rows PySem.W
noncomputable def ExAt (cls:Value) (a:Addr) (h:Heap):Prop:=∃ o,h.get? a=some o/\o.cls=cls
section
variable {X:Cx} {pins pins' :List (Addr×Obj)} {σ:St} {H H' :Hp} {s s' :Shared} {xe:Value->Shared->Prop}
end
section
variable {prog:Program} {w:World} {A:Around} {E:Value->Shared->Prop} {s:Shared} {env:Env}
end
end L2
namespace L2
open PySem PySem.Spec PyProof.Rows PySem.W
section
variable {X:Cx} {pins:List (Addr×Obj)} {σ:St} {H H' :Hp} {s s' :Shared} {ea:Addr} {cls a0:Value} {B:Heap} {h3:Heap}
end
end L2
namespace L2
open PySem PySem.Spec PyProof.Rows
theorem PE.imp {X:Cx} {e:Expr} {t t' :TE} (h:PE X e t) (i:∀ σ H Q,t' σ H Q->t σ H Q):PE X e t' :=fun pins s σ H Q I q=>h pins s σ H Q I (i σ H Q q)
theorem PT.imp {X:Cx} {e:Expr} {t t' :TT} (h:PT X e t) (i:∀ σ H Q,t' σ H Q->t σ H Q):PT X e t' :=fun pins s σ H Q I q=>h pins s σ H Q I (i σ H Q q)
theorem PA.imp {X:Cx} {e:List Expr} {t t' :TA} (h:PA X e t) (i:∀ σ H Q,t' σ H Q->t σ H Q):PA X e t' :=fun pos pins s σ H Q I q=>h pos pins s σ H Q I (i σ H Q q)
theorem PS.imp {X:Cx} {e:Stmt} {t t' :TS} (h:PS X e t) (i:∀ D σ H,t' D σ H->t D σ H):PS X e t' :=fun pins s σ H D I q=>h pins s σ H D I (i D σ H q)
theorem PSs.imp {X:Cx} {e:List Stmt} {t t' :TS} (h:PSs X e t) (i:∀ D σ H,t' D σ H->t D σ H):PSs X e t' :=fun pins s σ H D I q=>h pins s σ H D I (i D σ H q)
end L2
namespace PV
open PySem
noncomputable def YH:Expr->Bool
 | .Starred _ _=>false
 | _=>true
theorem ZN {e:Expr} {rest:List Expr} {env:Env} (h:YH e=true):starEach (e :: rest) env=(false,eval e env) :: starEach rest env:=by
 cases e <;> first | rfl | cases h
theorem st2 {a b:Expr} {env:Env} (h:YH a=true) (h' :YH b=true):starEach [a,b] env=[(false,eval a env),(false,eval b env)]:=by
 rw [ZN h,ZN h']; rfl
theorem st1 {a:Expr} {env:Env} (h:YH a=true):starEach [a] env=[(false,eval a env)]:=by
 rw [ZN h]; rfl
theorem JC {pos:Pos} {env:Env}:∀ {es:List Expr},es.all YH=true->((backTo pos (starEach es env)).any fun x=>x.fst)=false
 | [],_=>rfl
 | e :: es,h=>by
  rw [List.all_cons,Bool.and_eq_true] at h
  rw [ZN h.1]
  have:=JC (pos:=pos) (env:=env) h.2
  show (false || ((backTo pos (starEach es env)).any fun x=>x.fst))=false
  rw [this]; rfl
open PySem PySem.Spec PyProof.Rows L2
noncomputable abbrev Sg:=L2.St
inductive T where
 | non | bl (b:Bool) | int (i:Int) | str (x:Str) | tup (xs:List T) | lst (xs:List T) | fz (xs:List T)
inductive R (α:Type) where
 | ok (a:α) | ex (c:Nat) | bad
noncomputable def R.bind {α β:Type} (r:R α) (f:α->R β):R β:=match r with
 | .ok a=>f a
 | .ex c=> .ex c
 | .bad=> .bad
mutual
inductive Rep (H:Hp):V->T->Prop where
 | non:Rep H .non .non
 | bl (b:Bool):Rep H (.bl b) (.bl b)
 | int (i:Int):Rep H (.int i) (.int i)
 | str (x:Str):Rep H (.str x) (.str x)
 | tup {a:Addr} {xs:List V} {ts:List T}:H a=some (.tup xs)->Z2 H xs ts->Rep H (.ref a) (.tup ts)
 | lst {a:Addr} {xs:List V} {ts:List T}:H a=some (.lst xs)->Z2 H xs ts->Rep H (.ref a) (.lst ts)
 | fz {a:Addr} {o:Obj} {xs:List V} {ts:List T}:H a=some (.frz o (.lst xs))->Z2 H xs ts->Rep H (.ref a) (.fz ts)
inductive Z2 (H:Hp):List V->List T->Prop where
 | nil:Z2 H [] []
 | cons {v:V} {t:T} {vs:List V} {ts:List T}:Rep H v t->Z2 H vs ts->Z2 H (v :: vs) (t :: ts)
end
mutual
theorem Rep.mono {H H' :Hp} (s:zT H H'):∀ {v:V} {t:T},Rep H v t->Rep H' v t
 | _,_, .non=> .non
 | _,_, .bl b=> .bl b
 | _,_, .int i=> .int i
 | _,_, .str x=> .str x
 | _,_, .tup h r=> .tup (s _ _ h) (Z2.mono s r)
 | _,_, .lst h r=> .lst (s _ _ h) (Z2.mono s r)
 | _,_, .fz h r=> .fz (s _ _ h) (Z2.mono s r)
theorem Z2.mono {H H' :Hp} (s:zT H H'):∀ {v:List V} {t:List T},Z2 H v t->Z2 H' v t
 | _,_, .nil=> .nil
 | _,_, .cons h r=> .cons (Rep.mono s h) (Z2.mono s r)
end
theorem Z2.length {H:Hp}:∀ {vs:List V} {ts:List T},Z2 H vs ts->vs.length=ts.length
 | _,_, .nil=>rfl
 | _,_, .cons _ r=>congrArg (·+1) (Z2.length r)
theorem Z2.get {H:Hp}:∀ {vs:List V} {ts:List T} {i:Nat} {t:T},Z2 H vs ts->ts[i]? =some t->∃ v,vs[i]? =some v/\Rep H v t
 | _,_,_,_, .nil,e=>by simp at e
 | _,_,0,_, .cons r _,e=>by simp at e; subst e; exact ⟨_,rfl,r⟩
 | _,_,i+1,t, .cons _ q,e=>by
  obtain ⟨v,h1,h2⟩:=Z2.get (i:=i) (t:=t) q (by simpa using e)
  exact ⟨v,by simpa using h1,h2⟩
theorem Z2.getV {H:Hp}:∀ {vs:List V} {ts:List T} {i:Nat} {v:V},Z2 H vs ts->vs[i]? =some v->∃ t,ts[i]? =some t/\Rep H v t
 | _,_,_,_, .nil,e=>by simp at e
 | _,_,0,_, .cons r _,e=>by simp at e; subst e; exact ⟨_,rfl,r⟩
 | _,_,i+1,v, .cons _ q,e=>by
  obtain ⟨t,h1,h2⟩:=Z2.getV (i:=i) (v:=v) q (by simpa using e)
  exact ⟨t,by simpa using h1,h2⟩
theorem Z2.append {H:Hp}:∀ {vs ws:List V} {ts us:List T},Z2 H vs ts->Z2 H ws us->Z2 H (vs++ws) (ts++us)
 | _,_,_,_, .nil,q=>q
 | _,_,_,_, .cons r t,q=> .cons r (Z2.append t q)
theorem Z2.take {H:Hp}:∀ {vs:List V} {ts:List T} (n:Nat),Z2 H vs ts->Z2 H (vs.take n) (ts.take n)
 | _,_,0,_=> .nil
 | _,_,_+1, .nil=> .nil
 | _,_,n+1, .cons r t=> .cons r (Z2.take n t)
theorem Z2.drop {H:Hp}:∀ {vs:List V} {ts:List T} (n:Nat),Z2 H vs ts->Z2 H (vs.drop n) (ts.drop n)
 | _,_,0,r=>r
 | _,_,_+1, .nil=> .nil
 | _,_,n+1, .cons _ t=>Z2.drop n t
theorem Z2.rep {H:Hp} {vs:List V} {ts:List T} (h:Z2 H vs ts):∀ n:Nat,Z2 H (List.replicate n vs).flatten (List.replicate n ts).flatten
 | 0=> .nil
 | n+1=>by
  rw [List.replicate_succ,List.replicate_succ,List.flatten_cons,List.flatten_cons]
  exact h.append (Z2.rep h n)
theorem Z2.nil_iff {H:Hp} {vs:List V} {ts:List T} (h:Z2 H vs ts):vs=[]↔ts=[]:=by
 cases h <;> simp
noncomputable def Zi (B H H' :Hp):Hp:=fun b=>match H b with
 | none=>H' b
 | some _=>B b
theorem jm {B H H' :Hp} {b:Addr} (h:H b=none):Zi B H H' b=H' b:=by unfold Zi; rw [h]
theorem jn {B H H' :Hp} {b:Addr} {o:HO} (h:H b=some o):Zi B H H' b=B b:=by unfold Zi; rw [h]
theorem Zi.ge {B H H' :Hp} (s:zT B H) (s' :zT H H'):zT B (Zi B H H'):=fun b o h=>by
 rw [jn (s b o h)]; exact h
theorem Zi.le {B H H' :Hp} (s:zT B H) (s' :zT H H'):zT (Zi B H H') H' :=fun b o h=>by
 cases q:H b with
 | none=>rw [jm q] at h; exact h
 | some u=>rw [jn q] at h; exact s' b o (s b o h)
theorem Zi.self (B H:Hp) (s:zT B H):Zi B H H=B:=by
 funext b
 cases q:H b with
 | none=>
  rw [jm q,q]
  cases z:B b with
  | none=>rfl
  | some o=>rw [s b o z] at q; cases q
 | some u=>rw [jn q]
theorem Zi.trans {B H H1 H2:Hp} (s1:zT H H1) (s2:zT H1 H2):Zi (Zi B H H1) H1 H2=Zi B H H2:=by
 funext b
 cases q:H b with
 | none=>
  rw [jm q]
  cases z:H1 b with
  | none=>rw [jm z]
  | some o=>rw [jn z,jm q,z,s2 b o z]
 | some u=>rw [jn q,jn (s1 b u q),jn q]
inductive Sl where
 | un | vl (t:T) | ow (ts:List T) | xc (c:Nat)
noncomputable abbrev En:=List Sl
structure Fx where
 B0:Hp
 H0:Hp
 E:XK
 cl:Nat->Value
structure SI (Y:Fx) (B:Hp) (ρ:En) (σ:Sg) (H:Hp):Prop where
 s0:zT Y.B0 Y.H0
 sH:zT Y.H0 H
 sB:zT B H
 old:∀ b o,Y.H0 b=some o->B b=Y.B0 b
 len:ρ.length=σ.length
 vl:∀ (i:Nat) (t:T),ρ[i]? =some (Sl.vl t)->∃ v:V,σ[i]? =some (some v)/\Rep B v t
 ow:∀ (i:Nat) (ts:List T),ρ[i]? =some (Sl.ow ts)->∃ (a:Addr) (xs:List V),σ[i]? =some (some (V.ref a))/\B a=none/\Y.H0 a=none/\H a=some (.lst xs)/\Z2 B xs ts/\
  ∀ (j:Nat) (us:List T),j ≠ i->ρ[j]? =some (Sl.ow us)->σ[j]? ≠ some (some (V.ref a))
 xc:∀ (i:Nat) (c:Nat),ρ[i]? =some (Sl.xc c)->∃ a:Addr,σ[i]? =some (some (V.ref a))/\B a=some (.ext (ExAt (Y.cl c) a))
theorem SI.grow {Y:Fx} {B:Hp} {ρ:En} {σ:Sg} {H H' :Hp} (I:SI Y B ρ σ H) (s:zT H H'):SI Y (Zi B H H') ρ σ H' where
 s0:=I.s0
 sH:=I.sH.trans s
 sB:=Zi.le I.sB s
 old:=fun b o h=>by rw [jn (I.sH b o h)]; exact I.old b o h
 len:=I.len
 vl:=fun i t h=>let ⟨v,e,r⟩:=I.vl i t h; ⟨v,e,r.mono (Zi.ge I.sB s)⟩
 ow:=fun i ts h=>let ⟨a,xs,e,b,h0,hh,r,d⟩:=I.ow i ts h; ⟨a,xs,e,by rw [jn hh]; exact b,h0,s _ _ hh,r.mono (Zi.ge I.sB s),d⟩
 xc:=fun i c h=>let ⟨a,e,r⟩:=I.xc i c h; ⟨a,e,Zi.ge I.sB s a _ r⟩
noncomputable def XP (Y:Fx) (B:Hp) (c:Nat):Prop:=∀ (d:Option Addr) (H' :Hp),zT Y.H0 H' ->zT B H' ->Y.E (Y.cl c) d H'
noncomputable def Po {α β:Type} (Y:Fx) (rel:Hp->Hp->β->α->Prop) (B H:Hp) (r:R α) (Q:β->Hp->Prop):Prop:=match r with
 | .ok a=>∀ b H',zT H H' ->rel (Zi B H H') H' b a->Q b H'
 | .ex c=>XP Y B c
 | .bad=>False
noncomputable abbrev rC:Hp->Hp->V->T->Prop:=fun B _ v t=>Rep B v t
noncomputable abbrev rB:Hp->Hp->V->T->Prop:=fun _ H v t=>Rep H v t
noncomputable abbrev rCs:Hp->Hp->List V->List T->Prop:=fun B _ v t=>Z2 B v t
noncomputable abbrev rE {α:Type}:Hp->Hp->α->α->Prop:=fun _ _ a b=>a=b
noncomputable def tS {α β:Type} (Y:Fx) (rel:Hp->Hp->β->α->Prop) (f:En->R α) (ρ:En):Sg->Hp->(β->Hp->Prop)->Prop:=fun σ H Q=>∃ B,SI Y B ρ σ H/\Po Y rel B H (f ρ) Q
structure Snd (X:Cx) (Y:Fx) (e:Expr) (f:En->R T):Prop where
 mk ::
 go:∀ ρ,PE X e (tS Y rC f ρ)
noncomputable instance {X:Cx} {Y:Fx} {e:Expr} {f:En->R T}:CoeFun (Snd X Y e f) fun _=>∀ ρ,PE X e (tS Y rC f ρ):=⟨Snd.go⟩
structure ue (X:Cx) (Y:Fx) (e:Expr) (f:En->R T):Prop where
 mk ::
 go:∀ ρ,PE X e (tS Y rB f ρ)
noncomputable instance {X:Cx} {Y:Fx} {e:Expr} {f:En->R T}:CoeFun (ue X Y e f) fun _=>∀ ρ,PE X e (tS Y rB f ρ):=⟨ue.go⟩
structure qU (X:Cx) (Y:Fx) (e:Expr) (f:En->R Bool):Prop where
 mk ::
 go:∀ ρ,PT X e (tS Y rE f ρ)
noncomputable instance {X:Cx} {Y:Fx} {e:Expr} {f:En->R Bool}:CoeFun (qU X Y e f) fun _=>∀ ρ,PT X e (tS Y rE f ρ):=⟨qU.go⟩
structure Q5 (X:Cx) (Y:Fx) (es:List Expr) (f:En->R (List T)):Prop where
 mk ::
 go:∀ ρ,PA X es (tS Y rCs f ρ)
noncomputable instance {X:Cx} {Y:Fx} {es:List Expr} {f:En->R (List T)}:CoeFun (Q5 X Y es f) fun _=>∀ ρ,PA X es (tS Y rCs f ρ):=⟨Q5.go⟩
theorem step {α α' β β' :Type} {Y:Fx} {rel:Hp->Hp->β->α->Prop} {rel' :Hp->Hp->β' ->α' ->Prop} {f:En->R α} {k:α->R α'} {ρ:En} {B:Hp} {σ:Sg} {H:Hp} {Q:β' ->Hp->Prop} {K:β->Hp->Prop}
  (I:SI Y B ρ σ H) (h:Po Y rel' B H ((f ρ).bind k) Q)
  (n:∀ a b H1,f ρ= .ok a->zT H H1->rel (Zi B H H1) H1 b a->SI Y (Zi B H H1) ρ σ H1->Po Y rel' (Zi B H H1) H1 (k a) Q->K b H1):tS Y rel f ρ σ H K:=by
 refine ⟨B,I, ?_⟩
 cases e:f ρ with
 | bad=>rw [e] at h; exact h
 | ex c=>rw [e] at h; exact h
 | ok a=>
  rw [e] at h
  intro b H1 s r
  refine n a b H1 e s r (I.grow s) ?_
  have h' :Po Y rel' B H (k a) Q:=h
  revert h'
  cases k a with
  | bad=>exact fun h' =>h'
  | ex c=>exact fun h' d H' s0 sB' =>h' d H' s0 ((Zi.ge I.sB s).trans sB')
  | ok a' =>exact fun h' b' H2 s2 r2=>h' b' H2 (s.trans s2) (by rw [← Zi.trans s s2]; exact r2)
theorem w4 {α β:Type} {Y:Fx} {rel:Hp->Hp->β->α->Prop} {ρ:En} {B:Hp} {σ:Sg} {H:Hp} {a:α} {b:β} {Q:β->Hp->Prop} (I:SI Y B ρ σ H) (h:Po Y rel B H (.ok a) Q) (r:rel B H b a):Q b H:=h b H (zT.refl H) (by rw [Zi.self B H I.sB]; exact r)
theorem Snd.b {X:Cx} {Y:Fx} {e:Expr} {f:En->R T} (h:Snd X Y e f):ue X Y e f:= .mk fun ρ=>PE.imp (h ρ) fun σ H Q ⟨B,I,q⟩=>⟨B,I,by
 revert q
 cases f ρ with
 | bad=>exact fun q=>q
 | ex c=>exact fun q=>q
 | ok a=>exact fun q b H' s r=>q b H' s (r.mono (Zi.le I.sB s))⟩
section
variable {X:Cx} {Y:Fx} {a b c:Expr} {fa fb fc:En->R T} {pos:Pos}
noncomputable def vE (i:Nat):En->R T:=fun ρ=>match ρ[i]? with
 | some (.vl t)=> .ok t
 | _=> .bad
noncomputable def vB (i:Nat):En->R T:=fun ρ=>match ρ[i]? with
 | some (.vl t)=> .ok t
 | some (.ow ts)=> .ok (.lst ts)
 | _=> .bad
noncomputable def cE (t:T):En->R T:=fun _=> .ok t
theorem zb (i:Nat) {x:Str} (h:PE X (.Name x pos) (KI i)):Snd X Y (.Name x pos) (vE i):= .mk fun ρ=>PE.imp h fun σ H Q ⟨B,I,q⟩=>by
 unfold vE at q
 split at q
 ·rename_i t e
  obtain ⟨v,e1,r⟩:=I.vl i t e
  exact ⟨v,e1,w4 I q r⟩
 ·exact q.elim
theorem zp (i:Nat) {x:Str} (h:PE X (.Name x pos) (KI i)):ue X Y (.Name x pos) (vB i):= .mk fun ρ=>PE.imp h fun σ H Q ⟨B,I,q⟩=>by
 unfold vB at q
 split at q
 ·rename_i t e
  obtain ⟨v,e1,r⟩:=I.vl i t e
  exact ⟨v,e1,w4 I q (r.mono I.sB)⟩
 ·rename_i ts e
  obtain ⟨a,xs,e1,_,_,hh,r,_⟩:=I.ow i ts e
  exact ⟨.ref a,e1,w4 I q (.lst hh (r.mono I.sB))⟩
 ·exact q.elim
theorem zd {i j}:Snd X Y (.Constant (.int i) j pos) (cE (.int i)):= .mk fun ρ=>PE.imp GQ fun σ H Q ⟨B,I,q⟩=>w4 I q (.int i)
theorem QL {i j}:Snd X Y (.Constant (.bool i) j pos) (cE (.bl i)):= .mk fun ρ=>PE.imp z1C fun σ H Q ⟨B,I,q⟩=>w4 I q (.bl i)
theorem zF {i j}:Snd X Y (.Constant (.str i) j pos) (cE (.str i)):= .mk fun ρ=>PE.imp K5 fun σ H Q ⟨B,I,q⟩=>w4 I q (.str i)
noncomputable def zj:En->R (List T):=fun _=> .ok []
noncomputable def z9 (f:En->R T) (g:En->R (List T)):En->R (List T):=fun ρ=>(f ρ).bind fun t=>(g ρ).bind fun ts=> .ok (t :: ts)
theorem zi:Q5 X Y [] zj:= .mk fun ρ=>PA.imp ZW fun σ H Q ⟨B,I,q⟩=>w4 I q .nil
theorem za {es:List Expr} {g:En->R (List T)} (h:Snd X Y a fa) (hs:Q5 X Y es g) (hq:starEach (a :: es) X.env=(false,eval a X.env) :: starEach es X.env:=by exact ZN rfl):Q5 X Y (a :: es) (z9 fa g):= .mk fun ρ=>
 PA.imp (zS (h ρ) (hs ρ) hq) fun σ H Q ⟨B,I,q⟩=>step I q fun t v H1 _ s1 r1 I1 q1=>step I1 q1 fun ts vs H2 _ s2 r2 I2 q2=>w4 I2 q2 (.cons (r1.mono (Zi.ge I1.sB s2)) r2)
theorem zT.new {H:Hp} {p:Addr} (h:H p=none) (o:HO):zT H (upd H p o):=fun b u q=>by rw [zW (Zb q h)]; exact q
theorem wL {B H:Hp} {p:Addr} (h:H p=none) (o:HO):Zi B H (upd H p o) p=some o:=by rw [jm h,Zq]
noncomputable def bnd:Nat:=16777216
theorem Jp {n:Nat} (h:n<=bnd):n<=sizeLine:=by rw [sizeLine_eq]; exact h
noncomputable def jo (g:En->R (List T)):En->R T:=fun ρ=>(g ρ).bind fun ts=>if ts.length<=bnd then .ok (.tup ts) else .bad
noncomputable def w8 (g:En->R (List T)):En->R T:=fun ρ=>(g ρ).bind fun ts=>if ts.length<=bnd then .ok (.lst ts) else .bad
theorem gh {ρ:En} {σ:Sg} {B H:Hp} {xs:List V} {ts:List T} (I:SI Y B ρ σ H) (r:Z2 B xs ts) {p:Addr} (h:H p=none):Rep (Zi B H (upd H p (.tup xs))) (.ref p) (.tup ts):=
 .tup (wL h _) (r.mono (Zi.ge I.sB (zT.new h _)))
theorem gi {ρ:En} {σ:Sg} {B H:Hp} {xs:List V} {ts:List T} (I:SI Y B ρ σ H) (r:Z2 B xs ts) {p:Addr} (h:H p=none):Rep (Zi B H (upd H p (.lst xs))) (.ref p) (.lst ts):=
 .lst (wL h _) (r.mono (Zi.ge I.sB (zT.new h _)))
theorem jN {es:List Expr} {g:En->R (List T)} {x1} (h:Q5 X Y es g):Snd X Y (.Tuple es x1 pos) (jo g):= .mk fun ρ=>PE.imp (K8 (h ρ)) fun σ H Q ⟨B,I,q⟩=>
 step I q fun ts vs H1 _ s1 r1 I1 q1=>by
  split at q1
  ·rename_i hb
   refine ⟨by rw [r1.length]; exact Jp hb,fun p hp=>q1 _ _ (zT.new hp _) (gh I1 r1 hp)⟩
  ·exact q1.elim
theorem wk {es:List Expr} {g:En->R (List T)} (h:Q5 X Y es g):Snd X Y (.List es pos) (w8 g):= .mk fun ρ=>PE.imp (K9 (h ρ)) fun σ H Q ⟨B,I,q⟩=>
 step I q fun ts vs H1 _ s1 r1 I1 q1=>by
  split at q1
  ·rename_i hb
   refine ⟨by rw [r1.length]; exact Jp hb,fun p hp=>q1 _ _ (zT.new hp _) (gi I1 r1 hp)⟩
  ·exact q1.elim
end
end PV
namespace PV
open PySem PySem.Spec PyProof.Rows L2
noncomputable def eqL (f:T->T->Option Bool):List T->List T->Option Bool
 | [],[]=>some true
 | [],_ :: _=>some false
 | _ :: _,[]=>some false
 | x :: xs,y :: ys=>match f x y with
  | none=>none
  | some b=>match eqL f xs ys with
   | none=>none
   | some c=>some (b && c)
noncomputable def b2 (b:Bool):Int:=if b then 1 else 0
noncomputable def eqF:Nat->T->T->Option Bool
 | _, .non, .non=>some true
 | _, .bl a, .bl b=>some (a == b)
 | _, .bl a, .int j=>some (b2 a == j)
 | _, .int i, .bl b=>some (i == b2 b)
 | _, .int i, .int j=>some (i == j)
 | _, .str x, .str y=>some (x == y)
 | n+1, .tup xs, .tup ys=>eqL (eqF n) xs ys
 | n+1, .lst xs, .lst ys=>eqL (eqF n) xs ys
 | n+1, .fz xs, .lst ys=>eqL (eqF n) xs ys
 | n+1, .lst xs, .fz ys=>eqL (eqF n) xs ys
 | n+1, .fz xs, .fz ys=>eqL (eqF n) xs ys
 | 0, .tup _, .tup _=>none
 | 0, .lst _, .lst _=>none
 | 0, .fz _, .lst _=>none
 | 0, .lst _, .fz _=>none
 | 0, .fz _, .fz _=>none
 | _, .non,_=>some false
 | _, .bl _,_=>some false
 | _, .int _,_=>some false
 | _, .str _,_=>some false
 | _, .tup _,_=>some false
 | _, .lst _,_=>some false
 | _, .fz _,_=>some false
mutual
theorem Rep.fn {H:Hp}:∀ {v:V} {t t' :T},Rep H v t->Rep H v t' ->t=t'
 | _,_,_, .non, .non=>rfl
 | _,_,_, .bl _, .bl _=>rfl
 | _,_,_, .int _, .int _=>rfl
 | _,_,_, .str _, .str _=>rfl
 | _,_,_, .tup h r, .tup h' r' =>by
  rw [h] at h'; cases h'; rw [Z2.fn r r']
 | _,_,_, .tup h r, .lst h' r' =>by rw [h] at h'; cases h'
 | _,_,_, .tup h r, .fz h' r' =>by rw [h] at h'; cases h'
 | _,_,_, .lst h r, .tup h' r' =>by rw [h] at h'; cases h'
 | _,_,_, .lst h r, .lst h' r' =>by
  rw [h] at h'; cases h'; rw [Z2.fn r r']
 | _,_,_, .lst h r, .fz h' r' =>by rw [h] at h'; cases h'
 | _,_,_, .fz h r, .tup h' r' =>by rw [h] at h'; cases h'
 | _,_,_, .fz h r, .lst h' r' =>by rw [h] at h'; cases h'
 | _,_,_, .fz h r, .fz h' r' =>by
  rw [h] at h'; cases h'; rw [Z2.fn r r']
theorem Z2.fn {H:Hp}:∀ {v:List V} {t t' :List T},Z2 H v t->Z2 H v t' ->t=t'
 | _,_,_, .nil, .nil=>rfl
 | _,_,_, .cons h r, .cons h' r' =>by rw [Rep.fn h h',Z2.fn r r']
end
theorem jJ {f:T->T->Option Bool} (hf:∀ x b,f x x=some b->b=true):∀ (xs:List T) (b:Bool),eqL f xs xs=some b->b=true
 | [],b,h=>by
  have h' :some true=some b:=h
  cases h'; rfl
 | x :: xs,b,h=>by
  unfold eqL at h
  cases e:f x x with
  | none=>rw [e] at h; cases h
  | some c=>
   rw [e] at h
   cases e' :eqL f xs xs with
   | none=>rw [e'] at h; cases h
   | some d=>
    rw [e'] at h
    cases h
    rw [hf x c e,jJ hf xs d e']
    rfl
theorem jp:∀ (n:Nat) (t:T) (b:Bool),eqF n t t=some b->b=true
 | n, .non,b,h=>by unfold eqF at h; cases h; rfl
 | n, .bl x,b,h=>by unfold eqF at h; cases h; simp
 | n, .int x,b,h=>by unfold eqF at h; cases h; simp
 | n, .str x,b,h=>by unfold eqF at h; cases h; simp
 | 0, .tup x,b,h=>by unfold eqF at h; cases h
 | 0, .lst x,b,h=>by unfold eqF at h; cases h
 | 0, .fz x,b,h=>by unfold eqF at h; cases h
 | n+1, .tup x,b,h=>by unfold eqF at h; exact jJ (jp n) x b h
 | n+1, .lst x,b,h=>by unfold eqF at h; exact jJ (jp n) x b h
 | n+1, .fz x,b,h=>by unfold eqF at h; exact jJ (jp n) x b h
theorem VR {f:T->T->Option Bool}:∀ {xs ys:List T} {b:Bool},eqL f xs ys=some b->
  ∃ e:Nat->Bool,(∀ j x y,xs[j]? =some x->ys[j]? =some y->f x y=some (e j))/\((List.range (min xs.length ys.length)).all e && xs.length == ys.length)=b
 | [],[],b,h=>by
  have h' :some true=some b:=h
  cases h'
  exact ⟨fun _=>true,fun j x y h=>by simp at h,by simp⟩
 | [],y :: ys,b,h=>by
  have h' :some false=some b:=h
  cases h'
  exact ⟨fun _=>true,fun j x y h=>by simp at h,by simp⟩
 | x :: xs,[],b,h=>by
  have h' :some false=some b:=h
  cases h'
  exact ⟨fun _=>true,fun j x y h h' =>by simp at h',by simp⟩
 | x :: xs,y :: ys,b,h=>by
  unfold eqL at h
  cases e:f x y with
  | none=>rw [e] at h; cases h
  | some c=>
   rw [e] at h
   cases e' :eqL f xs ys with
   | none=>rw [e'] at h; cases h
   | some d=>
    rw [e'] at h
    cases h
    obtain ⟨g,h1,h2⟩:=VR e'
    refine ⟨fun j=>match j with | 0=>c | j+1=>g j,fun j u v hu hv=> ?_, ?_⟩
    ·cases j with
     | zero=>simp at hu hv; subst hu hv; exact e
     | succ j=>exact h1 j u v (by simpa using hu) (by simpa using hv)
    ·have z:min (x :: xs).length (y :: ys).length=min xs.length ys.length+1:=by simp only [List.length_cons]; omega
     rw [z,List.range_succ_eq_map,List.all_cons,List.all_map]
     have z2:((x :: xs).length == (y :: ys).length)=(xs.length == ys.length):=by simp
     rw [z2,← h2,Bool.and_assoc]
     rfl
section
variable {X:Cx} {pins:List (Addr×Obj)} {σ:Sg} {H:Hp} {s:Shared}
theorem JT {a:Addr} {xs:List V} {ts:List T} (I:L2.Inv X pins σ H s) (h:H a=some (.tup xs)) (r:Z2 H xs ts):∃ its:List Value,ZD xs its/\s.heap.IsTuple a its.toArray/\ts.length=its.length/\xs.length<=sizeLine:=by
 obtain ⟨its,rv,p,z⟩:=I.tuple (SqT.of h)
 exact ⟨its,rv,p,by rw [← r.length]; exact rv.length,z⟩
theorem Zg {a:Addr} {xs:List V} {ts:List T} (I:L2.Inv X pins σ H s) (h:Rd H a (.lst xs)) (r:Z2 H xs ts):∃ its:List Value,ZD xs its/\s.heap.IsList a its.toArray/\ts.length=its.length/\xs.length<=sizeLine:=by
 obtain ⟨its,rv,p,z⟩:=I.list (.inl h)
 exact ⟨its,rv,p.isList,by rw [← r.length]; exact rv.length,z⟩
end
noncomputable abbrev EqN (A:Around) (s:Shared) (u u' :Value) (b:Bool):Prop:=SeqAt.EqAt A s u u' b/\SeqAt.RcAt A s u u' b/\SeqAt.RcNeAt A s u u' (!b)
section
variable {X:Cx} {pins:List (Addr×Obj)} {σ:Sg} {H:Hp} {s:Shared}
theorem VS {xs ys:List V} {ts us:List T} {its its' :List Value} {A:Around} {f:T->T->Option Bool} {e:Nat->Bool} (r:Z2 H xs ts) (r' :Z2 H ys us) (v:ZD xs its) (v' :ZD ys its')
  (he:∀ (j:Nat) (x y:T),ts[j]? =some x->us[j]? =some y->f x y=some (e j))
  (ih:∀ (x y:T) (b:Bool) (p q:V) (u w:Value),f x y=some b->Rep H p x->Rep H q y->jk p u->jk q w->EqN A s u w b) (j:Nat) (h1:j < its.toArray.size) (h2:j < its'.toArray.size):
  SeqAt.EqAt A s its.toArray[j] its'.toArray[j] (e j):=by
 have l1:=v.length
 have l2:=v'.length
 have m1:=r.length
 have m2:=r'.length
 have k1:j < xs.length:=by simp at h1; omega
 have k2:j < ys.length:=by simp at h2; omega
 obtain ⟨t,et,rt⟩:=r.getV (List.getElem?_eq_getElem k1)
 obtain ⟨t',et',rt'⟩:=r'.getV (List.getElem?_eq_getElem k2)
 obtain ⟨u,eu,ru⟩:=v.get (List.getElem?_eq_getElem k1)
 obtain ⟨u',eu',ru'⟩:=v'.get (List.getElem?_eq_getElem k2)
 have q1:its.toArray[j]=u:=by
  have:its[j]? =some its.toArray[j]:=by simp at h1 ⊢
  rw [eu] at this; exact (Option.some.inj this).symm
 have q2:its'.toArray[j]=u' :=by
  have:its'[j]? =some its'.toArray[j]:=by simp at h2 ⊢
  rw [eu'] at this; exact (Option.some.inj this).symm
 rw [q1,q2]
 exact (ih t t' (e j) _ _ u u' (he j t t' et et') rt rt' ru ru').1
theorem gj {A:Around} {a c:Addr} {xs ys:List V} {ts us:List T} {b:Bool} {f:T->T->Option Bool} (I:L2.Inv X pins σ H s) (hu:A.units < cLine) (ha:H a=some (.tup xs)) (hc:H c=some (.tup ys)) (r:Z2 H xs ts) (r' :Z2 H ys us)
  (hb:eqL f ts us=some b) (hr:∀ x b,f x x=some b->b=true)
  (ih:∀ (x y:T) (b:Bool) (p q:V) (u w:Value),f x y=some b->Rep H p x->Rep H q y->jk p u->jk q w->EqN A.in1 s u w b):EqN A s (.ref a) (.ref c) b:=by
 obtain ⟨its,v,p,l,_⟩:=JT I ha r
 obtain ⟨its',v',p',l',_⟩:=JT I hc r'
 obtain ⟨e,he,hb'⟩:=VR hb
 have hp:=VS (A:=A.in1) r r' v v' he ih
 have z:((List.range (min its.toArray.size its'.toArray.size)).all e && its.toArray.size == its'.toArray.size)=b:=by
  rw [← hb']; simp [l,l']
 have R:=SeqAt.RcAt.tuples p p' hu hp
 have N:=SeqAt.RcNeAt.tuples p p' hu hp
 rw [z] at R
 have N' :SeqAt.RcNeAt A s (.ref a) (.ref c) (!b):=by
  rw [← z]; exact N
 refine ⟨?_,R,N'⟩
 by_cases hac:a=c
 ·subst hac
  rw [ha] at hc; cases hc
  have:=r.fn r'; subst this
  rw [jJ hr ts b hb]
  exact SeqAt.EqAt.same _
 ·exact SeqAt.EqAt.of_refs hac R
theorem yQ {A:Around} {a c:Addr} {xs ys:List V} {ts us:List T} {b:Bool} {f:T->T->Option Bool} (I:L2.Inv X pins σ H s) (hu:A.units < cLine) (ha:Rd H a (.lst xs)) (hc:Rd H c (.lst ys)) (r:Z2 H xs ts) (r' :Z2 H ys us)
  (hb:eqL f ts us=some b) (hr:∀ x b,f x x=some b->b=true)
  (ih:∀ (x y:T) (b:Bool) (p q:V) (u w:Value),f x y=some b->Rep H p x->Rep H q y->jk p u->jk q w->EqN A.in1 s u w b):EqN A s (.ref a) (.ref c) b:=by
 obtain ⟨its,v,p,l,_⟩:=Zg I ha r
 obtain ⟨its',v',p',l',_⟩:=Zg I hc r'
 obtain ⟨e,he,hb'⟩:=VR hb
 have hp:=VS (A:=A.in1) r r' v v' he ih
 have RN:SeqAt.RcAt A s (.ref a) (.ref c) b/\SeqAt.RcNeAt A s (.ref a) (.ref c) (!b):=by
  by_cases hl:its.toArray.size=its'.toArray.size
  ·have z:(List.range its.toArray.size).all e=b:=by
    rw [← hb']
    have:ts.length=us.length:=by simp at hl; omega
    rw [this]
    have k:its.toArray.size=us.length:=by simp; omega
    rw [k]; simp
   have R:=SeqAt.RcAt.lists p p' hl hu hp
   have N:=SeqAt.RcNeAt.lists p p' hl hu hp
   rw [z] at R
   refine ⟨R, ?_⟩
   rw [← z]; exact N
  ·have hl' :(its.toArray.size != its'.toArray.size)=true:=by simpa using hl
   have z:b=false:=by
    rw [← hb']
    have:¬ ts.length=us.length:=by simp at hl; omega
    simp [this]
   subst z
   exact ⟨SeqAt.RcAt.lists_lengths p p' hl' hu,SeqAt.RcNeAt.lists_lengths p p' hl' hu⟩
 refine ⟨?_,RN.1,RN.2⟩
 by_cases hac:a=c
 ·subst hac
  have hxy:xs=ys:=by
   rcases ha with ha | ⟨o,ha⟩ <;> rcases hc with hc | ⟨o',hc⟩ <;> (rw [ha] at hc; cases hc) <;> rfl
  subst hxy
  have:=r.fn r'; subst this
  rw [jJ hr ts b hb]
  exact SeqAt.EqAt.same _
 ·exact SeqAt.EqAt.of_refs hac RN.1
end
end PV
namespace PV
open PySem PySem.Spec PyProof.Rows L2
section
variable {X:Cx} {pins:List (Addr×Obj)} {σ:Sg} {H:Hp} {s:Shared}
theorem YI {A:Around}:A.in1.units=A.units+1:=rfl
set_option maxHeartbeats 2000000 in
theorem VT (I:L2.Inv X pins σ H s):∀ (A:Around),A.units < cLine->∀ (x y:T) (b:Bool) (p q:V) (u w:Value),eqF 0 x y=some b->Rep H p x->Rep H q y->jk p u->jk q w->EqN A s u w b:=by
 intro A hu x y b p q u w h rp rq ru rw'
 have hu' :=hu
 cases rp with
 | non=>
  obtain rfl:u=Value.none:=ru
  cases rq with
  | non=>obtain rfl:w=Value.none:=rw'; unfold eqF at h; cases h; exact ⟨.same _, .none_none, .none_none⟩
  | bl c=>obtain rfl:w=Value.bool c:=rw'; unfold eqF at h; cases h; exact ⟨.none_bool _, .none_bool _, .none_bool _⟩
  | int c=>obtain ⟨t,rfl⟩:=rw'; unfold eqF at h; cases h; exact ⟨.none_int _ _, .none_int _ _, .none_int _ _⟩
  | str c=>obtain ⟨t,rfl⟩:=rw'; unfold eqF at h; cases h; exact ⟨.none_str _ _, .none_str _ _, .none_str _ _⟩
  | tup h1 r1=>obtain rfl:w=Value.ref _:=rw'; unfold eqF at h; cases h; obtain ⟨i,_,p,_⟩:=JT I h1 r1; exact ⟨.none_tuple p hu', .none_tuple p hu', .none_tuple p hu'⟩
  | lst h1 r1=>obtain rfl:w=Value.ref _:=rw'; unfold eqF at h; cases h; obtain ⟨i,_,p,_⟩:=Zg I (.inl h1) r1; exact ⟨.none_list p hu', .none_list p hu', .none_list p hu'⟩
  | fz h1 r1=>obtain rfl:w=Value.ref _:=rw'; unfold eqF at h; cases h; obtain ⟨i,_,p,_⟩:=Zg I (.inr ⟨_,h1⟩) r1; exact ⟨.none_list p hu', .none_list p hu', .none_list p hu'⟩
 | bl d=>
  obtain rfl:u=Value.bool d:=ru
  cases rq with
  | non=>obtain rfl:w=Value.none:=rw'; unfold eqF at h; cases h; exact ⟨.bool_none _, .bool_none _, .bool_none _⟩
  | bl c=>obtain rfl:w=Value.bool c:=rw'; unfold eqF at h; cases h; exact ⟨.bool_bool _ _, .bool_bool _ _, .bool_bool _ _⟩
  | int c=>obtain ⟨t,rfl⟩:=rw'; unfold eqF at h; cases h; exact ⟨.bool_int _ _ _, .bool_int _ _ _, .bool_int _ _ _⟩
  | str c=>obtain ⟨t,rfl⟩:=rw'; unfold eqF at h; cases h; exact ⟨.bool_str _ _ _, .bool_str _ _ _, .bool_str _ _ _⟩
  | tup h1 r1=>obtain rfl:w=Value.ref _:=rw'; unfold eqF at h; cases h; obtain ⟨i,_,p,_⟩:=JT I h1 r1; exact ⟨.bool_tuple _ p hu', .bool_tuple _ p hu', .bool_tuple _ p hu'⟩
  | lst h1 r1=>obtain rfl:w=Value.ref _:=rw'; unfold eqF at h; cases h; obtain ⟨i,_,p,_⟩:=Zg I (.inl h1) r1; exact ⟨.bool_list _ p hu', .bool_list _ p hu', .bool_list _ p hu'⟩
  | fz h1 r1=>obtain rfl:w=Value.ref _:=rw'; unfold eqF at h; cases h; obtain ⟨i,_,p,_⟩:=Zg I (.inr ⟨_,h1⟩) r1; exact ⟨.bool_list _ p hu', .bool_list _ p hu', .bool_list _ p hu'⟩
 | int d=>
  obtain ⟨t0,rfl⟩:=ru
  cases rq with
  | non=>obtain rfl:w=Value.none:=rw'; unfold eqF at h; cases h; exact ⟨.int_none _ _, .int_none _ _, .int_none _ _⟩
  | bl c=>obtain rfl:w=Value.bool c:=rw'; unfold eqF at h; cases h; exact ⟨.int_bool _ _ _, .int_bool _ _ _, .int_bool _ _ _⟩
  | int c=>obtain ⟨t,rfl⟩:=rw'; unfold eqF at h; cases h; exact ⟨.int_int _ _ _ _, .int_int _ _ _ _, .int_int _ _ _ _⟩
  | str c=>obtain ⟨t,rfl⟩:=rw'; unfold eqF at h; cases h; exact ⟨.int_str _ _ _ _, .int_str _ _ _ _, .int_str _ _ _ _⟩
  | tup h1 r1=>obtain rfl:w=Value.ref _:=rw'; unfold eqF at h; cases h; obtain ⟨i,_,p,_⟩:=JT I h1 r1; exact ⟨.int_tuple _ _ p hu', .int_tuple _ _ p hu', .int_tuple _ _ p hu'⟩
  | lst h1 r1=>obtain rfl:w=Value.ref _:=rw'; unfold eqF at h; cases h; obtain ⟨i,_,p,_⟩:=Zg I (.inl h1) r1; exact ⟨.int_list _ _ p hu', .int_list _ _ p hu', .int_list _ _ p hu'⟩
  | fz h1 r1=>obtain rfl:w=Value.ref _:=rw'; unfold eqF at h; cases h; obtain ⟨i,_,p,_⟩:=Zg I (.inr ⟨_,h1⟩) r1; exact ⟨.int_list _ _ p hu', .int_list _ _ p hu', .int_list _ _ p hu'⟩
 | str d=>
  obtain ⟨t0,rfl⟩:=ru
  cases rq with
  | non=>obtain rfl:w=Value.none:=rw'; unfold eqF at h; cases h; exact ⟨.str_none _ _, .str_none _ _, .str_none _ _⟩
  | bl c=>obtain rfl:w=Value.bool c:=rw'; unfold eqF at h; cases h; exact ⟨.str_bool _ _ _, .str_bool _ _ _, .str_bool _ _ _⟩
  | int c=>obtain ⟨t,rfl⟩:=rw'; unfold eqF at h; cases h; exact ⟨.str_int _ _ _ _, .str_int _ _ _ _, .str_int _ _ _ _⟩
  | str c=>obtain ⟨t,rfl⟩:=rw'; unfold eqF at h; cases h; exact ⟨.str_str _ _ _ _, .str_str _ _ _ _, .str_str _ _ _ _⟩
  | tup h1 r1=>obtain rfl:w=Value.ref _:=rw'; unfold eqF at h; cases h; obtain ⟨i,_,p,_⟩:=JT I h1 r1; exact ⟨.str_tuple _ _ p hu', .str_tuple _ _ p hu', .str_tuple _ _ p hu'⟩
  | lst h1 r1=>obtain rfl:w=Value.ref _:=rw'; unfold eqF at h; cases h; obtain ⟨i,_,p,_⟩:=Zg I (.inl h1) r1; exact ⟨.str_list _ _ p hu', .str_list _ _ p hu', .str_list _ _ p hu'⟩
  | fz h1 r1=>obtain rfl:w=Value.ref _:=rw'; unfold eqF at h; cases h; obtain ⟨i,_,p,_⟩:=Zg I (.inr ⟨_,h1⟩) r1; exact ⟨.str_list _ _ p hu', .str_list _ _ p hu', .str_list _ _ p hu'⟩
 | tup h0 r0=>
  obtain rfl:u=Value.ref _:=ru
  obtain ⟨i0,_,p0,_⟩:=JT I h0 r0
  cases rq with
  | non=>obtain rfl:w=Value.none:=rw'; unfold eqF at h; cases h; exact ⟨.tuple_none p0 hu', .tuple_none p0 hu', .tuple_none p0 hu'⟩
  | bl c=>obtain rfl:w=Value.bool c:=rw'; unfold eqF at h; cases h; exact ⟨.tuple_bool _ p0 hu', .tuple_bool _ p0 hu', .tuple_bool _ p0 hu'⟩
  | int c=>obtain ⟨t,rfl⟩:=rw'; unfold eqF at h; cases h; exact ⟨.tuple_int _ _ p0 hu', .tuple_int _ _ p0 hu', .tuple_int _ _ p0 hu'⟩
  | str c=>obtain ⟨t,rfl⟩:=rw'; unfold eqF at h; cases h; exact ⟨.tuple_str _ _ p0 hu', .tuple_str _ _ p0 hu', .tuple_str _ _ p0 hu'⟩
  | tup h1 r1=>unfold eqF at h; cases h
  | lst h1 r1=>obtain rfl:w=Value.ref _:=rw'; unfold eqF at h; cases h; obtain ⟨i,_,p,_⟩:=Zg I (.inl h1) r1; exact ⟨.tuple_list p0 p hu', .tuple_list p0 p hu', .tuple_list p0 p hu'⟩
  | fz h1 r1=>obtain rfl:w=Value.ref _:=rw'; unfold eqF at h; cases h; obtain ⟨i,_,p,_⟩:=Zg I (.inr ⟨_,h1⟩) r1; exact ⟨.tuple_list p0 p hu', .tuple_list p0 p hu', .tuple_list p0 p hu'⟩
 | lst h0 r0=>
  obtain rfl:u=Value.ref _:=ru
  obtain ⟨i0,_,p0,_⟩:=Zg I (.inl h0) r0
  cases rq with
  | non=>obtain rfl:w=Value.none:=rw'; unfold eqF at h; cases h; exact ⟨.list_none p0 hu', .list_none p0 hu', .list_none p0 hu'⟩
  | bl c=>obtain rfl:w=Value.bool c:=rw'; unfold eqF at h; cases h; exact ⟨.list_bool _ p0 hu', .list_bool _ p0 hu', .list_bool _ p0 hu'⟩
  | int c=>obtain ⟨t,rfl⟩:=rw'; unfold eqF at h; cases h; exact ⟨.list_int _ _ p0 hu', .list_int _ _ p0 hu', .list_int _ _ p0 hu'⟩
  | str c=>obtain ⟨t,rfl⟩:=rw'; unfold eqF at h; cases h; exact ⟨.list_str _ _ p0 hu', .list_str _ _ p0 hu', .list_str _ _ p0 hu'⟩
  | tup h1 r1=>obtain rfl:w=Value.ref _:=rw'; unfold eqF at h; cases h; obtain ⟨i,_,p,_⟩:=JT I h1 r1; exact ⟨.list_tuple p0 p hu', .list_tuple p0 p hu', .list_tuple p0 p hu'⟩
  | lst h1 r1=>unfold eqF at h; cases h
  | fz h1 r1=>unfold eqF at h; cases h
 | fz h0 r0=>
  obtain rfl:u=Value.ref _:=ru
  obtain ⟨i0,_,p0,_⟩:=Zg I (.inr ⟨_,h0⟩) r0
  cases rq with
  | non=>obtain rfl:w=Value.none:=rw'; unfold eqF at h; cases h; exact ⟨.list_none p0 hu', .list_none p0 hu', .list_none p0 hu'⟩
  | bl c=>obtain rfl:w=Value.bool c:=rw'; unfold eqF at h; cases h; exact ⟨.list_bool _ p0 hu', .list_bool _ p0 hu', .list_bool _ p0 hu'⟩
  | int c=>obtain ⟨t,rfl⟩:=rw'; unfold eqF at h; cases h; exact ⟨.list_int _ _ p0 hu', .list_int _ _ p0 hu', .list_int _ _ p0 hu'⟩
  | str c=>obtain ⟨t,rfl⟩:=rw'; unfold eqF at h; cases h; exact ⟨.list_str _ _ p0 hu', .list_str _ _ p0 hu', .list_str _ _ p0 hu'⟩
  | tup h1 r1=>obtain rfl:w=Value.ref _:=rw'; unfold eqF at h; cases h; obtain ⟨i,_,p,_⟩:=JT I h1 r1; exact ⟨.list_tuple p0 p hu', .list_tuple p0 p hu', .list_tuple p0 p hu'⟩
  | lst h1 r1=>unfold eqF at h; cases h
  | fz h1 r1=>unfold eqF at h; cases h
set_option maxHeartbeats 2000000 in
theorem gm (I:L2.Inv X pins σ H s):∀ (n:Nat) (A:Around),A.units+n < cLine->∀ (x y:T) (b:Bool) (p q:V) (u w:Value),eqF n x y=some b->Rep H p x->Rep H q y->jk p u->jk q w->EqN A s u w b:=by
 intro n
 induction n with
 | zero=>exact fun A hu x y b p q u w h=>VT I A (by omega) x y b p q u w h
 | succ n ih=>
  intro A hu x y b p q u w h rp rq ru rw'
  have low:eqF 0 x y=some b->EqN A s u w b:=fun h=>VT I A (by omega) x y b p q u w h rp rq ru rw'
  have hu' :A.units < cLine:=by omega
  have ih' :=ih A.in1 (by rw [YI]; omega)
  cases rp with
  | tup h0 r0=>
   cases rq with
   | tup h1 r1=>
    obtain rfl:u=Value.ref _:=ru
    obtain rfl:w=Value.ref _:=rw'
    unfold eqF at h
    exact gj I hu' h0 h1 r0 r1 h (jp n) ih'
   | _=>exact low (by unfold eqF at h ⊢; exact h)
  | lst h0 r0=>
   cases rq with
   | lst h1 r1=>
    obtain rfl:u=Value.ref _:=ru
    obtain rfl:w=Value.ref _:=rw'
    unfold eqF at h
    exact yQ I hu' (.inl h0) (.inl h1) r0 r1 h (jp n) ih'
   | fz h1 r1=>
    obtain rfl:u=Value.ref _:=ru
    obtain rfl:w=Value.ref _:=rw'
    unfold eqF at h
    exact yQ I hu' (.inl h0) (.inr ⟨_,h1⟩) r0 r1 h (jp n) ih'
   | _=>exact low (by unfold eqF at h ⊢; exact h)
  | fz h0 r0=>
   cases rq with
   | lst h1 r1=>
    obtain rfl:u=Value.ref _:=ru
    obtain rfl:w=Value.ref _:=rw'
    unfold eqF at h
    exact yQ I hu' (.inr ⟨_,h0⟩) (.inl h1) r0 r1 h (jp n) ih'
   | fz h1 r1=>
    obtain rfl:u=Value.ref _:=ru
    obtain rfl:w=Value.ref _:=rw'
    unfold eqF at h
    exact yQ I hu' (.inr ⟨_,h0⟩) (.inr ⟨_,h1⟩) r0 r1 h (jp n) ih'
   | _=>exact low (by unfold eqF at h ⊢; exact h)
  | _=>exact low (by cases rq <;> (unfold eqF at h ⊢; exact h))
end
end PV
namespace PV
open PySem PySem.Spec PyProof.Rows L2
section
variable {X:Cx} {Y:Fx} {a b c d:Expr} {fa fb fc fd:En->R T} {pos:Pos}
noncomputable def rG (Y:Fx) (g:T->T->R T):R2:=fun x y H Q=>∃ B t t',zT B H/\Rep B x t/\Rep B y t' /\Po Y rC B H (g t t') Q
noncomputable def zg (g:T->T->R T) (fa fb:En->R T):En->R T:=fun ρ=>(fa ρ).bind fun x=>(fb ρ).bind fun y=>g x y
theorem VU {op:Operator} {g:T->T->R T} (ho:OpR X (binaryOp op) (rG Y g)) (ha:Snd X Y a fa) (hb:Snd X Y b fb):Snd X Y (.BinOp a op b pos) (zg g fa fb):= .mk fun ρ=>
 PE.imp (z1P ho (ha ρ) (hb ρ)) fun σ H Q ⟨B,I,q⟩=>step I q fun t v H1 _ s1 r1 I1 q1=>step I1 q1 fun t' v' H2 _ s2 r2 I2 q2=>
  ⟨_,t,t',I2.sB,r1.mono (Zi.ge I1.sB s2),r2,q2⟩
theorem po0 {g:R T} {B H:Hp} {Q:VK} {t:T} {v:V} (sB:zT B H) (q:Po Y rC B H g Q) (e:g= .ok t) (r:Rep B v t):Q v H:=by
 subst e
 exact q v H (zT.refl H) (by show Rep (Zi B H H) v t; rw [Zi.self B H sB]; exact r)
theorem z0i {g:R T} {B H:Hp} {Q:VK} {ts:List T} {xs:List V} {p:Addr} (sB:zT B H) (q:Po Y rC B H g Q) (e:g= .ok (.tup ts)) (r:Z2 B xs ts) (h:H p=none):Q (.ref p) (upd H p (.tup xs)):=by
 subst e
 exact q _ _ (zT.new h _) (.tup (wL h _) (r.mono (Zi.ge sB (zT.new h _))))
theorem z21 {g:R T} {B H:Hp} {Q:VK} {ts:List T} {xs:List V} {p:Addr} (sB:zT B H) (q:Po Y rC B H g Q) (e:g= .ok (.lst ts)) (r:Z2 B xs ts) (h:H p=none):Q (.ref p) (upd H p (.lst xs)):=by
 subst e
 exact q _ _ (zT.new h _) (.lst (wL h _) (r.mono (Zi.ge sB (zT.new h _))))
noncomputable def zL:T->T->R T
 | .int i, .int j=> .ok (.int (i+j))
 | .bl x, .int j=> .ok (.int (b2 x+j))
 | .int i, .bl y=> .ok (.int (i+b2 y))
 | .str x, .str y=>if x.length+y.length<=bnd then .ok (.str (x++y)) else .bad
 | .tup xs, .tup ys=>if xs.length+ys.length<=bnd then .ok (.tup (xs++ys)) else .bad
 | .lst xs, .lst ys=>if xs.length+ys.length<=bnd then .ok (.lst (xs++ys)) else .bad
 | _,_=> .bad
theorem k8 {prog:Program} {w:World} {A:Around} {E:Value->Shared->Prop} {s:Shared} {t b:Addr} {vs ws:List Value} {Q:Value->Shared->Prop} (ht:IsTup s.heap t vs.toArray) (hb:IsTup s.heap b ws.toArray) (hv:vs=[])
  (h1:Q (.ref b) s):wpAny (model prog w) A (binaryOp .Add (.ref t) (.ref b)) Q E s:=by
 obtain ⟨⟨cls,dd,data,sl⟩,ho,hc,n,hd⟩:=id ht
 obtain ⟨⟨cls2,dd2,data2,sl2⟩,ho2,hc2,n2,hd2⟩:=id hb
 simp only at hc hd hc2 hd2
 subst hc hd hc2 hd2
 exact concat_meets ⟨_,ho,rfl⟩ ⟨_,ho2,rfl⟩ noFill_tuple_add seq_tuple_add PySem.F.slot_tuple_add PySem.F.entry_tuple_add (PySem.F.args_tuple_add_2 _ _)
   (tuple_addW0 t b vs.toArray ws.toArray n n2 dd dd2 sl sl2 (by simp [hv])) ⟨ho,ho2,h1⟩
theorem gp:OpR X (binaryOp .Add) (rG Y zL):=by
 intro pins s σ H x y v u Q I rx ry h
 obtain ⟨B,t,t',sB,r,r',q⟩:=h
 cases r with
 | int i=>
  cases r' with
  | int j=>exact z00 pins s σ H _ _ v u Q I rx ry ⟨i,j,rfl,rfl,po0 sB q rfl (.int _)⟩
  | bl y=>exact VD pins s σ H _ _ v u Q I rx ry ⟨i,y,rfl,rfl,po0 sB q rfl (.int _)⟩
  | _=>exact q.elim
 | bl x=>
  cases r' with
  | int j=>
   obtain rfl:v=Value.bool x:=rx
   obtain ⟨tk,rfl⟩:=ry
   exact IntBool.add_bool_int (⟨.int _,H,I.tok _,⟨_,rfl⟩,po0 sB q rfl (.int _)⟩)
  | _=>exact q.elim
 | str x=>
  cases r' with
  | str y=>
   by_cases hb:x.length+y.length<=bnd
   ·exact vA pins s σ H _ _ v u Q I rx ry ⟨x,y,rfl,rfl,Jp hb,po0 sB q (if_pos hb) (.str _)⟩
   ·rw [show zL (.str x) (.str y)= .bad from if_neg hb] at q; exact q.elim
  | _=>exact q.elim
 | @tup a xs ts h1 r1=>
  cases r' with
  | @tup a' ys us h2 r2=>
   by_cases hb:ts.length+us.length<=bnd
   ·have eg:zL (.tup ts) (.tup us)= .ok (.tup (ts++us)):=if_pos hb
    have hz:xs.length+ys.length<=sizeLine:=by rw [r1.length,r2.length]; exact Jp hb
    by_cases hx:xs=[]
    ·obtain rfl:v=Value.ref a:=rx
     obtain rfl:u=Value.ref a' :=ry
     obtain ⟨its,rv,p,_⟩:=I.tuple (SqT.of (sB _ _ h1))
     obtain ⟨its',rv',p',_⟩:=I.tuple (SqT.of (sB _ _ h2))
     have et:ts=[]:=r1.nil_iff.mp hx
     refine k8 p p' (rv.nil_iff.mpr hx) ⟨.ref a',H,I,rfl,po0 sB q eg ?_⟩
     rw [et]; exact .tup h2 r2
    ·refine KW pins s σ H _ _ v u Q I rx ry ⟨a,a',xs,ys,rfl,rfl,SqT.of (sB _ _ h1),SqT.of (sB _ _ h2),hx,hz,fun hy=> ?_,fun hy p hp=> ?_⟩
     ·refine po0 sB q eg ?_
      rw [r2.nil_iff.mp hy,List.append_nil]
      exact .tup h1 r1
     ·exact z0i sB q eg (r1.append r2) hp
   ·rw [show zL (.tup ts) (.tup us)= .bad from if_neg hb] at q; exact q.elim
  | _=>exact q.elim
 | @lst a xs ts h1 r1=>
  cases r' with
  | @lst a' ys us h2 r2=>
   by_cases hb:ts.length+us.length<=bnd
   ·have eg:zL (.lst ts) (.lst us)= .ok (.lst (ts++us)):=if_pos hb
    have hz:xs.length+ys.length<=sizeLine:=by rw [r1.length,r2.length]; exact Jp hb
    exact z0f pins s σ H _ _ v u Q I rx ry ⟨a,a',xs,ys,rfl,rfl,sB _ _ h1,sB _ _ h2,hz,fun p hp=>z21 sB q eg (r1.append r2) hp⟩
   ·rw [show zL (.lst ts) (.lst us)= .bad from if_neg hb] at q; exact q.elim
  | _=>exact q.elim
 | _=>cases r' <;> exact q.elim
theorem zZ (ha:Snd X Y a fa) (hb:Snd X Y b fb):Snd X Y (.BinOp a .Add b pos) (zg zL fa fb):=VU gp ha hb
noncomputable def Ub:T->T->R T
 | .int i, .int j=> .ok (.int (i - j))
 | _,_=> .bad
noncomputable def Wo:T->T->R T
 | .int i, .int j=>if 0 < j then .ok (.int (i % j)) else .bad
 | _,_=> .bad
noncomputable def Us:T->T->R T
 | .int i, .int j=>if 0 < j/\j < 1073741824 then .ok (.int (i / j)) else .bad
 | _,_=> .bad
noncomputable instance (i j:Int):Decidable (Ys i j):=by unfold Ys; infer_instance
noncomputable def ZE:T->T->R T
 | .int i, .int j=>if Ys i j then .ok (.int (i*j)) else .bad
 | .lst xs, .int k=>if 0<=k/\k < 1000000/\xs.length*k.toNat<=bnd then .ok (.lst (List.replicate k.toNat xs).flatten) else .bad
 | .tup xs, .int k=>if 2<=k/\k < 1000000/\xs ≠ []/\xs.length*k.toNat<=bnd then .ok (.tup (List.replicate k.toNat xs).flatten) else .bad
 | _,_=> .bad
theorem gq:OpR X (binaryOp .Sub) (rG Y Ub):=by
 intro pins s σ H x y v u Q I rx ry h
 obtain ⟨B,t,t',sB,r,r',q⟩:=h
 cases r with
 | int i=>
  cases r' with
  | int j=>exact z01 pins s σ H _ _ v u Q I rx ry ⟨i,j,rfl,rfl,po0 sB q rfl (.int _)⟩
  | _=>exact q.elim
 | _=>cases r' <;> exact q.elim
theorem gr:OpR X (binaryOp .Mod) (rG Y Wo):=by
 intro pins s σ H x y v u Q I rx ry h
 obtain ⟨B,t,t',sB,r,r',q⟩:=h
 cases r with
 | int i=>
  cases r' with
  | int j=>
   by_cases hj:0 < j
   ·exact z03 pins s σ H _ _ v u Q I rx ry ⟨i,j,rfl,rfl,hj,po0 sB q (if_pos hj) (.int _)⟩
   ·rw [show Wo (.int i) (.int j)= .bad from if_neg hj] at q; exact q.elim
  | _=>exact q.elim
 | _=>cases r' <;> exact q.elim
theorem k9:OpR X (binaryOp .FloorDiv) (rG Y Us):=by
 intro pins s σ H x y v u Q I rx ry h
 obtain ⟨B,t,t',sB,r,r',q⟩:=h
 cases r with
 | int i=>
  cases r' with
  | int j=>
   by_cases hj:0 < j/\j < 1073741824
   ·exact KN pins s σ H _ _ v u Q I rx ry ⟨i,j,rfl,rfl,hj,po0 sB q (if_pos hj) (.int _)⟩
   ·rw [show Us (.int i) (.int j)= .bad from if_neg hj] at q; exact q.elim
  | _=>exact q.elim
 | _=>cases r' <;> exact q.elim
theorem vG (l:Addr) (items:Array Value) (n:Nat) (dd:Option Addr) (sl:Array (Option Value)) (x:Int) (u:Tok) (h1:2<=x) (h2:x < 1000000) (hne:items.isEmpty=false) (hsz:items.size*x.toNat<=sizeLine):
  Meets (Builtin.«tuple.__mul__» ⟨[.ref l, .int x u],[]⟩) (fun _ R s=>s.heap.get? l=some { cls:= .type "tuple",dict:=dd,data:= .seq items n,slots:=sl }/\
   R (.ok (.ret (Value.ref s.heap.objs.size))) { s with heap:=s.heap.push { cls:=Value.type "tuple",data:=Data.seq (List.foldl (fun x1 x2=>x1++x2) #[] (List.replicate x.toNat items)) },toks:=s.toks }):=
 .of_wp fun prog w A R s h=>by
  obtain ⟨hp,g,d,tk,os⟩:=s; obtain ⟨hl,h⟩:=h
  have f1:=AutoSeq1.idx_int
  have e0:(items.size:Int)*x=((items.size*x.toNat:Nat):Int):=by
   have:x=((x.toNat:Nat):Int):=by omega
   rw [Int.natCast_mul,← this]
  have sl1:(sizeLine:Nat)=16777216:=sizeLine_eq
  have c1:¬ (decide (x < -(2 ^ 63)) || decide (x ≥ 2 ^ 63))=true:=by simp; omega
  have c2:¬ (items.isEmpty || x == 1)=true:=by simp [hne]; omega
  have c3:¬ (decide (x<=0) || items.isEmpty)=true:=by simp [hne]; omega
  have c4:¬ ((items.size:Int)*x > (2 ^ 63 - 1) / 8):=by rw [e0]; omega
  have c5:¬ Builtin.Tuple.tupleTooMany ((items.size:Int)*x)=true:=by
   unfold Builtin.Tuple.tupleTooMany
   rw [e0]
   intro z
   have:=of_decide_eq_true z
   omega
  unfold Builtin.«tuple.__mul__»
  wp_walk using wpAny_loadPart' hl
  rw [if_neg c1]
  wp_walk using wpAny_loadPart' hl
  rw [if_neg c2]
  try dsimp only
  rw [if_neg c3]
  try dsimp only
  rw [if_neg c4]
  try dsimp only
  rw [if_neg c5]
  try dsimp only
  have hsz' :sizeOk (.seq (List.foldl (fun x1 x2=>x1++x2) #[] (List.replicate x.toNat items))):=by
   show (List.foldl (fun x1 x2=>x1++x2) #[] (List.replicate x.toNat items)).size<=sizeLine
   have:=WL items.toList x.toNat []
   rw [List.nil_append] at this
   have q:List.foldl (fun x1 x2=>x1++x2) #[] (List.replicate x.toNat items)=(List.replicate x.toNat items.toList).flatten.toArray:=by
    simpa using this
   rw [q,List.size_toArray,uf,Array.length_toList,Nat.mul_comm]
   exact hsz
  exact wpAny_bind (m:=Builtin.Tuple.tupleExact _) (wpAny_newObj_type (wpAny_pure ⟨_,rfl,h⟩) hsz')
theorem YJ:seqRepeat? (.type "tuple")=pure (some (.builtin "tuple.__mul__")):=by
 unfold seqRepeat?
 rw [PySem.seqSlot_of (T:="tuple") (name:="__mul__") (id:="tuple.__mul__") F.slot_tuple_mul.lookup (by decide+kernel),PySem.seqSlot_of (T:="tuple") (name:="__rmul__") (id:="tuple.__rmul__") F.slot_tuple_rmul.lookup (by decide+kernel)]
 rfl
theorem uX:fillsNumberSlot (.type "tuple") "mul"=pure false:=
 PySem.fillsNumberSlot_seq (id:="tuple.__mul__") (r:=some (.builtin "tuple.__rmul__")) F.slot_tuple_mul.lookup (by decide+kernel) F.slot_tuple_rmul.lookup (by decide+kernel)
theorem yd (a:Int) (t:Tok) (l:Addr) (items:Array Value) (n:Nat) (dd:Option Addr) (sl:Array (Option Value)):
  Meets (Builtin.«int.__rmul__» ⟨[.int a t, .ref l],[]⟩) (fun _ R s=>s.heap.get? l=some { cls:= .type "tuple",dict:=dd,data:= .seq items n,slots:=sl }/\R (.ok (.ret Value.notImplemented)) s):=
 .of_wp fun prog w A R s h=>by obtain ⟨hp,g,d,tk,os⟩:=s; obtain ⟨hl,h⟩:=h; wp_walk; exact ⟨_,rfl,h⟩
theorem gs {prog:Program} {w:World} {A:Around} {E:Value->Shared->Prop} {s:Shared} {l:Addr} {its:List Value} {k:Int} {t:Tok} {Q:Value->Shared->Prop} (p:IsTup s.heap l its.toArray) (hne:its ≠ []) (h1:2<=k) (h2:k < 1000000)
  (hsz:its.length*k.toNat<=sizeLine) (q:Q (.ref s.heap.objs.size) { s with heap:=s.heap.push { cls:= .type "tuple",data:= .seq (List.replicate k.toNat its).flatten.toArray } }):
  wpAny (model prog w) A (binaryOp .Mult (.ref l) (.int k t)) Q E s:=by
 obtain ⟨⟨cls,dd,data,sl⟩,ho,hc,n,hd⟩:=id p
 simp only at hc hd
 subst hc hd
 refine wpAny_binaryOp_repeat_ref (T:="tuple") (U:="int") (by decide) ⟨_,ho,rfl⟩ (fun s' =>typeIs_int s' k t) uX F.fills_int_mul F.slot_int_rmul YJ F.slot_int_index.lookup
  (call_meets F.slot_int_rmul (typeIs_int s k t) F.entry_int_rmul (F.args_int_rmul_2 _ _) (yd k t l its.toArray n dd sl)
   ⟨ho,rfl,⟨_,ho,rfl⟩,call_meets F.slot_tuple_mul ⟨_,ho,rfl⟩ F.entry_tuple_mul (F.args_tuple_mul_2 _ _) (vG l its.toArray n dd sl k t h1 h2 (by simpa using hne) (by simpa using hsz)) ⟨ho, ?_⟩⟩)
 have:=WL its k.toNat []
 rw [List.nil_append] at this
 rw [this]
 exact q
theorem gu:OpR X (binaryOp .Mult) (rG Y ZE):=by
 intro pins s σ H x y v u Q I rx ry h
 obtain ⟨B,t,t',sB,r,r',q⟩:=h
 cases r with
 | int i=>
  cases r' with
  | int j=>
   by_cases hj:Ys i j
   ·exact z02 pins s σ H _ _ v u Q I rx ry ⟨i,j,rfl,rfl,hj,po0 sB q (if_pos hj) (.int _)⟩
   ·rw [show ZE (.int i) (.int j)= .bad from if_neg hj] at q; exact q.elim
  | _=>exact q.elim
 | @lst l xs ts h1 r1=>
  cases r' with
  | int k=>
   by_cases hk:0<=k/\k < 1000000/\ts.length*k.toNat<=bnd
   ·have eg:ZE (.lst ts) (.int k)= .ok (.lst (List.replicate k.toNat ts).flatten):=if_pos hk
    exact z0g pins s σ H _ _ v u Q I rx ry ⟨l,k,xs,rfl,rfl,sB _ _ h1,by omega,by omega,by rw [r1.length]; exact Jp hk.2.2,fun p hp=>z21 sB q eg (r1.rep _) hp⟩
   ·rw [show ZE (.lst ts) (.int k)= .bad from if_neg hk] at q; exact q.elim
  | _=>exact q.elim
 | @tup l xs ts h1 r1=>
  cases r' with
  | int k=>
   by_cases hk:2<=k/\k < 1000000/\ts ≠ []/\ts.length*k.toNat<=bnd
   ·have eg:ZE (.tup ts) (.int k)= .ok (.tup (List.replicate k.toNat ts).flatten):=if_pos hk
    obtain rfl:v=Value.ref l:=rx
    obtain ⟨tk,rfl⟩:=ry
    obtain ⟨its,rv,p,_⟩:=I.tuple (SqT.of (sB _ _ h1))
    have ln:ts.length=its.length:=r1.length.symm.trans rv.length
    have hne:its ≠ []:=fun z=>hk.2.2.1 (by rw [z] at ln; exact List.length_eq_zero_iff.mp ln)
    refine gs p hne hk.1 hk.2.1 (by rw [← ln]; exact Jp hk.2.2.2) ⟨.ref s.heap.objs.size,upd H s.heap.objs.size (.tup (List.replicate k.toNat xs).flatten),I.laid (t' :=s.toks) (fun b u e=>Heap.get?_push_of_some _ e) (Nat.le_refl _) ?_,rfl, ?_⟩
    ·exact ⟨by rw [uf,r1.length,Nat.mul_comm]; exact Jp hk.2.2.2,(List.replicate k.toNat its).flatten,rv.rep _,⟨_,Heap.get?_push_size _ rfl,rfl,_,rfl⟩⟩
    ·exact z0i sB q eg (r1.rep _) (I.hok.fresh (Nat.le_refl _))
   ·rw [show ZE (.tup ts) (.int k)= .bad from if_neg hk] at q; exact q.elim
  | _=>exact q.elim
 | _=>cases r' <;> exact q.elim
theorem Wu (ha:Snd X Y a fa) (hb:Snd X Y b fb):Snd X Y (.BinOp a .Sub b pos) (zg Ub fa fb):=VU gq ha hb
theorem yR (ha:Snd X Y a fa) (hb:Snd X Y b fb):Snd X Y (.BinOp a .Mod b pos) (zg Wo fa fb):=VU gr ha hb
theorem Kb (ha:Snd X Y a fa) (hb:Snd X Y b fb):Snd X Y (.BinOp a .FloorDiv b pos) (zg Us fa fb):=VU k9 ha hb
theorem Jq (ha:Snd X Y a fa) (hb:Snd X Y b fb):Snd X Y (.BinOp a .Mult b pos) (zg ZE fa fb):=VU gu ha hb
noncomputable def ka (fa:En->R T):En->R T:=fun ρ=>(fa ρ).bind fun x=>match x with
 | .int i=> .ok (.int (-i))
 | _=> .bad
theorem kb (ha:Snd X Y a fa):Snd X Y (.UnaryOp .USub a pos) (ka fa):= .mk fun ρ=>PE.imp (z1Q z04 (ha ρ)) fun σ H Q ⟨B,I,q⟩=>step I q fun t v H1 _ s1 r1 I1 q1=>by
 cases r1 with
 | int i=>exact ⟨i,rfl,po0 I1.sB q1 rfl (.int _)⟩
 | _=>exact q1.elim
noncomputable def yr (g:T->T->R Bool):R2:=fun x y H Q=>∃ t t' b,Rep H x t/\Rep H y t' /\g t t' = .ok b/\Q (.bl b) H
noncomputable def jZ (g:T->T->R Bool) (fa fb:En->R T):En->R T:=fun ρ=>(fa ρ).bind fun x=>(fb ρ).bind fun y=>(g x y).bind fun b=> .ok (.bl b)
noncomputable def zK (g:T->T->R Bool) (fa fb:En->R T):En->R Bool:=fun ρ=>(fa ρ).bind fun x=>(fb ρ).bind fun y=>g x y
noncomputable def Nx (g:T->T->R Bool):Prop:=∀ t t' c,g t t' ≠ .ex c
theorem jA {op:CmpOp} {g:T->T->R Bool} (nx:Nx g) (ho:OpR X (compareOp op) (yr g)) (ha:ue X Y a fa) (hb:ue X Y b fb) (hm:behindInMarks op b=false):Snd X Y (.Compare a [op] [b] pos) (jZ g fa fb):= .mk fun ρ=>
 PE.imp (KO ho (ha ρ) (hb ρ) hm) fun σ H Q ⟨B,I,q⟩=>step I q fun t v H1 _ s1 r1 I1 q1=>step I1 q1 fun t' v' H2 _ s2 r2 I2 q2=>by
  cases e:g t t' with
  | bad=>rw [e] at q2; exact q2.elim
  | ex c=>exact absurd e (nx _ _ _)
  | ok b=>rw [e] at q2; exact ⟨t,t',b,r1.mono s2,r2,e,w4 I2 q2 (.bl b)⟩
theorem zB {op:CmpOp} {g:T->T->R Bool} (nx:Nx g) (ho:OpR X (compareOp op) (yr g)) (ha:ue X Y a fa) (hb:ue X Y b fb) (hm:behindInMarks op b=false):qU X Y (.Compare a [op] [b] pos) (zK g fa fb):= .mk fun ρ=>
 PT.imp (KP ho (ha ρ) (hb ρ) hm) fun σ H Q ⟨B,I,q⟩=>step I q fun t v H1 _ s1 r1 I1 q1=>step I1 q1 fun t' v' H2 _ s2 r2 I2 q2=>by
  cases e:g t t' with
  | bad=>rw [e] at q2; exact q2.elim
  | ex c=>exact absurd e (nx _ _ _)
  | ok b=>rw [e] at q2; exact ⟨t,t',b,r1.mono s2,r2,e,b,rfl,w4 I2 q2 rfl⟩
noncomputable def eqC (t t' :T):R Bool:=match eqF 30 t t' with
 | some b=> .ok b
 | none=> .bad
noncomputable def neC (t t' :T):R Bool:=match eqF 30 t t' with
 | some b=> .ok (!b)
 | none=> .bad
theorem zE:Nx eqC:=fun t t' c h=>by unfold eqC at h; split at h <;> cases h
theorem YK:Nx neC:=fun t t' c h=>by unfold neC at h; split at h <;> cases h
theorem zq (hu:X.A.units+64 < cLine):OpR X (compareOp .Eq) (yr eqC):=by
 intro pins s σ H x y v u Q I rx ry h
 obtain ⟨t,t',b,r,r',e,q⟩:=h
 unfold eqC at e
 split at e
 ·rename_i k ek
  have e' :k=b:=by injection e
  subst e'
  exact (gm I 30 X.A (by omega) t t' k x y v u ek r r' rx ry).2.1 _ _ _ _ ⟨.bl k,H,I,rfl,q⟩
 ·cases e
theorem uE (hu:X.A.units+64 < cLine):OpR X (compareOp .NotEq) (yr neC):=by
 intro pins s σ H x y v u Q I rx ry h
 obtain ⟨t,t',b,r,r',e,q⟩:=h
 unfold neC at e
 split at e
 ·rename_i k ek
  cases e
  exact (gm I 30 X.A (by omega) t t' k x y v u ek r r' rx ry).2.2 _ _ _ _ ⟨.bl (!k),H,I,rfl,q⟩
 ·cases e
noncomputable def ltC:T->T->R Bool
 | .int i, .int j=> .ok (decide (i < j))
 | _,_=> .bad
noncomputable def leC:T->T->R Bool
 | .int i, .int j=> .ok (decide (i<=j))
 | .str x, .str y=> .ok (!decide (y.cps.toList < x.cps.toList))
 | _,_=> .bad
noncomputable def gtC:T->T->R Bool
 | .int i, .int j=> .ok (decide (j < i))
 | _,_=> .bad
noncomputable def geC:T->T->R Bool
 | .int i, .int j=> .ok (decide (j<=i))
 | _,_=> .bad
theorem kd:Nx ltC:=fun t t' c h=>by unfold ltC at h; split at h <;> cases h
theorem jB:Nx leC:=fun t t' c h=>by unfold leC at h; split at h <;> cases h
theorem VV:Nx gtC:=fun t t' c h=>by unfold gtC at h; split at h <;> cases h
theorem z22:Nx geC:=fun t t' c h=>by unfold geC at h; split at h <;> cases h
theorem QM:OpR X (compareOp .Lt) (yr ltC):=by
 intro pins s σ H x y v u Q I rx ry h
 obtain ⟨t,t',b,r,r',e,q⟩:=h
 unfold ltC at e
 split at e
 ·rename_i i j; cases e; cases r; cases r'; exact z1R pins s σ H _ _ v u Q I rx ry ⟨i,j,rfl,rfl,q⟩
 ·cases e
theorem YL:OpR X (compareOp .Gt) (yr gtC):=by
 intro pins s σ H x y v u Q I rx ry h
 obtain ⟨t,t',b,r,r',e,q⟩:=h
 unfold gtC at e
 split at e
 ·rename_i i j; cases e; cases r; cases r'; exact z1T pins s σ H _ _ v u Q I rx ry ⟨i,j,rfl,rfl,q⟩
 ·cases e
theorem z0j:OpR X (compareOp .GtE) (yr geC):=by
 intro pins s σ H x y v u Q I rx ry h
 obtain ⟨t,t',b,r,r',e,q⟩:=h
 unfold geC at e
 split at e
 ·rename_i i j; cases e; cases r; cases r'; exact z1U pins s σ H _ _ v u Q I rx ry ⟨i,j,rfl,rfl,q⟩
 ·cases e
theorem Zh:OpR X (compareOp .LtE) (yr leC):=by
 intro pins s σ H x y v u Q I rx ry h
 obtain ⟨t,t',b,r,r',e,q⟩:=h
 unfold leC at e
 split at e
 ·rename_i i j; cases e; cases r; cases r'; exact z1S pins s σ H _ _ v u Q I rx ry ⟨i,j,rfl,rfl,q⟩
 ·rename_i i j; cases e; cases r; cases r'
  obtain ⟨t1,rfl⟩:=rx
  obtain ⟨t2,rfl⟩:=ry
  exact PySem.P.le_str ⟨.bl _,H,I,rfl,q⟩
 ·cases e
end
end PV
namespace PV
open PySem PySem.Spec PyProof.Rows L2
section
variable {X:Cx} {Y:Fx} {a b c d:Expr} {fa fb fc fd:En->R T} {pos:Pos}
noncomputable def ya (f:T->Option Bool):List T->Option Bool
 | []=>some false
 | t :: r=>match f t with
  | none=>none
  | some b=>match ya f r with
   | none=>none
   | some c=>some (b || c)
noncomputable def inC (t t' :T):R Bool:=match t' with
 | .tup ys=>match ya (fun y=>eqF 30 y t) ys with | some b=> .ok b | none=> .bad
 | .lst ys=>match ya (fun y=>eqF 30 y t) ys with | some b=> .ok b | none=> .bad
 | _=> .bad
noncomputable def QN (t t' :T):R Bool:=(inC t t').bind fun b=> .ok (!b)
theorem vH:Nx inC:=fun t t' c h=>by
 unfold inC at h
 split at h
 ·split at h <;> cases h
 ·split at h <;> cases h
 ·cases h
theorem Kc:Nx QN:=fun t t' c h=>by
 unfold QN at h
 cases e:inC t t' with
 | bad=>rw [e] at h; cases h
 | ex k=>exact absurd e (vH _ _ _)
 | ok k=>rw [e] at h; cases h
open Classical in
theorem gv {H:Hp} (f:T->Option Bool):∃ e:Value->Bool,∀ (v:V) (t:T) (u:Value) (b:Bool),jk v u->Rep H v t->f t=some b->e u=b:=by
 refine ⟨fun u=>decide (∃ v t,jk v u/\Rep H v t/\f t=some true),fun v t u b rv r e=> ?_⟩
 cases b with
 | true=>exact decide_eq_true ⟨v,t,rv,r,e⟩
 | false=>
  refine decide_eq_false ?_
  rintro ⟨v',t',rv',r',e'⟩
  have:=rv.inj rv'; subst this
  have:=r.fn r'; subst this
  rw [e] at e'; cases e'
theorem VW {H:Hp} {f:T->Option Bool} {e:Value->Bool} (he:∀ (v:V) (t:T) (u:Value) (b:Bool),jk v u->Rep H v t->f t=some b->e u=b):∀ {xs:List V} {ts:List T} {its:List Value} {b:Bool},
  ZD xs its->Z2 H xs ts->ya f ts=some b->its.any e=b/\∀ u∈its,∃ v t k,jk v u/\Rep H v t/\f t=some k
 | _,_,_,b, .nil, .nil,h=>by
  have h' :some false=some b:=h
  cases h'
  exact ⟨rfl,fun u hu=>by simp at hu⟩
 | _,_,_,b, .cons rv vs, .cons r rs,h=>by
  rename_i v u vals us t ts
  unfold ya at h
  cases q:f t with
  | none=>rw [q] at h; cases h
  | some k=>
   rw [q] at h
   cases q' :ya f ts with
   | none=>rw [q'] at h; cases h
   | some k' =>
    rw [q'] at h
    cases h
    obtain ⟨h1,h2⟩:=VW he vs rs q'
    refine ⟨by rw [List.any_cons,h1,he v t u k rv r q],fun w hw=> ?_⟩
    rcases List.mem_cons.mp hw with rfl | hw
    ·exact ⟨v,t,k,rv,r,q⟩
    ·exact h2 w hw
theorem VX (hu:X.A.units+64 < cLine) (neg:Bool):OpR X (compareOp (if neg then .NotIn else .In)) (yr (if neg then QN else inC)):=by
 intro pins s σ H x y v u Q I rx ry h
 obtain ⟨t,t',b,r,r',e,q⟩:=h
 have hs:∃ k,inC t t' = .ok k/\b=(if neg then !k else k):=by
  cases neg with
  | false=>exact ⟨b,e,rfl⟩
  | true=>
   have e' :QN t t' = .ok b:=e
   unfold QN at e'
   cases z:inC t t' with
   | bad=>rw [z] at e'; cases e'
   | ex k=>exact absurd z (vH _ _ _)
   | ok k=>rw [z] at e'; cases e'; exact ⟨k,rfl,rfl⟩
 obtain ⟨k,ek,rfl⟩:=hs
 unfold inC at ek
 obtain ⟨f,hf⟩:=gv (H:=H) fun y=>eqF 30 y t
 have eqa:∀ w,(∃ v t' k,jk v w/\Rep H v t' /\eqF 30 t' t=some k)->SeqAt.EqAt X.A.in1 s w v (f w):=fun w ⟨v',t',k,rv,rr,ee⟩=>by
  rw [hf v' t' w k rv rr ee]
  exact (gm I 30 X.A.in1 (by rw [YI]; omega) t' t k v' x w v ee rr r rv rx).1
 split at ek
 ·rename_i ys
  split at ek
  ·rename_i k' hk
   cases ek
   cases r' with
   | @tup l xs _ h1 r1=>
    obtain rfl:u=Value.ref l:=ry
    obtain ⟨its,rv,p,_⟩:=JT I h1 r1
    obtain ⟨h2,h3⟩:=VW hf rv r1 hk
    have h4:its.toArray.any f=k:=by simpa using h2
    cases neg with
    | false=>exact SeqAt.in_tupleAt f p (fun w hw=>eqa w (h3 w (by simpa using hw))) (by rw [h4]; exact ⟨.bl k,H,I,rfl,q⟩)
    | true=>exact SeqAt.notIn_tupleAt f p (fun w hw=>eqa w (h3 w (by simpa using hw))) (by rw [h4]; exact ⟨.bl (!k),H,I,rfl,q⟩)
  ·cases ek
 ·rename_i ys
  split at ek
  ·rename_i k' hk
   cases ek
   cases r' with
   | @lst l xs _ h1 r1=>
    obtain rfl:u=Value.ref l:=ry
    obtain ⟨its,rv,p,_⟩:=Zg I (.inl h1) r1
    obtain ⟨h2,h3⟩:=VW hf rv r1 hk
    have h4:its.toArray.any f=k:=by simpa using h2
    cases neg with
    | false=>exact SeqAt.in_listAt f p (fun w hw=>eqa w (h3 w (by simpa using hw))) (by rw [h4]; exact ⟨.bl k,H,I,rfl,q⟩)
    | true=>exact SeqAt.notIn_listAt f p (fun w hw=>eqa w (h3 w (by simpa using hw))) (by rw [h4]; exact ⟨.bl (!k),H,I,rfl,q⟩)
  ·cases ek
 ·cases ek
theorem QO (hu:X.A.units+64 < cLine):OpR X (compareOp .In) (yr inC):=VX hu false
theorem VY (hu:X.A.units+64 < cLine):OpR X (compareOp .NotIn) (yr QN):=VX hu true
noncomputable def gw (t t' :T):R Bool:=match t' with
 | .non=>match t with | .non=> .ok true | _=> .ok false
 | .bl k=>match t with | .bl j=> .ok (j == k) | _=> .ok false
 | _=> .bad
noncomputable def YM (t t' :T):R Bool:=(gw t t').bind fun b=> .ok (!b)
theorem z0k:Nx gw:=fun t t' c h=>by
 unfold gw at h
 split at h
 ·split at h <;> cases h
 ·split at h <;> cases h
 ·cases h
theorem z0l:Nx YM:=fun t t' c h=>by
 unfold YM at h
 cases e:gw t t' with
 | bad=>rw [e] at h; cases h
 | ex k=>exact absurd e (z0k _ _ _)
 | ok k=>rw [e] at h; cases h
theorem gx (neg:Bool):OpR X (compareOp (if neg then .IsNot else .Is)) (yr (if neg then YM else gw)):=by
 intro pins s σ H x y v u Q I rx ry h
 obtain ⟨t,t',b,r,r',e,q⟩:=h
 have hs:∃ k,gw t t' = .ok k/\b=(if neg then !k else k):=by
  cases neg with
  | false=>exact ⟨b,e,rfl⟩
  | true=>
   have e' :YM t t' = .ok b:=e
   unfold YM at e'
   cases z:gw t t' with
   | bad=>rw [z] at e'; cases e'
   | ex k=>exact absurd z (z0k _ _ _)
   | ok k=>rw [z] at e'; cases e'; exact ⟨k,rfl,rfl⟩
 obtain ⟨k,ek,rfl⟩:=hs
 have go:plainIs v u=true/\(v == u)=k:=by
  cases r' with
  | non=>
   obtain rfl:u=Value.none:=ry
   cases r with
   | non=>obtain rfl:v=Value.none:=rx; cases ek; exact ⟨rfl,rfl⟩
   | bl j=>obtain rfl:v=Value.bool j:=rx; cases ek; exact ⟨rfl,rfl⟩
   | int j=>obtain ⟨t,rfl⟩:=rx; cases ek; exact ⟨rfl,rfl⟩
   | str j=>obtain ⟨t,rfl⟩:=rx; cases ek; exact ⟨rfl,rfl⟩
   | tup _ _=>obtain rfl:v=Value.ref _:=rx; cases ek; exact ⟨rfl,rfl⟩
   | lst _ _=>obtain rfl:v=Value.ref _:=rx; cases ek; exact ⟨rfl,rfl⟩
   | fz _ _=>obtain rfl:v=Value.ref _:=rx; cases ek; exact ⟨rfl,rfl⟩
  | bl k' =>
   obtain rfl:u=Value.bool k' :=ry
   cases r with
   | non=>obtain rfl:v=Value.none:=rx; cases ek; exact ⟨rfl,rfl⟩
   | bl j=>obtain rfl:v=Value.bool j:=rx; cases ek; exact ⟨rfl,by cases j <;> cases k' <;> rfl⟩
   | int j=>obtain ⟨t,rfl⟩:=rx; cases ek; exact ⟨rfl,rfl⟩
   | str j=>obtain ⟨t,rfl⟩:=rx; cases ek; exact ⟨rfl,rfl⟩
   | tup _ _=>obtain rfl:v=Value.ref _:=rx; cases ek; exact ⟨rfl,rfl⟩
   | lst _ _=>obtain rfl:v=Value.ref _:=rx; cases ek; exact ⟨rfl,rfl⟩
   | fz _ _=>obtain rfl:v=Value.ref _:=rx; cases ek; exact ⟨rfl,rfl⟩
  | _=>cases ek
 cases neg with
 | false=>exact wpAny_is_plain go.1 (by rw [go.2]; exact ⟨.bl k,H,I,rfl,q⟩)
 | true=>exact wpAny_isNot_plain go.1 (by rw [go.2]; exact ⟨.bl (!k),H,I,rfl,q⟩)
theorem gy:OpR X (compareOp .IsNot) (yr YM):=gx true
noncomputable def chE (g g' :T->T->R Bool) (fa fb fc:En->R T):En->R T:=fun ρ=>(fa ρ).bind fun x=>(fb ρ).bind fun y=>(g x y).bind fun k=>if k=true then (fc ρ).bind fun z=>(g' y z).bind fun k' => .ok (.bl k') else .ok (.bl false)
noncomputable def chT (g g' :T->T->R Bool) (fa fb fc:En->R T):En->R Bool:=fun ρ=>(fa ρ).bind fun x=>(fb ρ).bind fun y=>(g x y).bind fun k=>if k=true then (fc ρ).bind fun z=>g' y z else .ok false
theorem wM {op op' :CmpOp} {g g' :T->T->R Bool} (nx:Nx g) (nx' :Nx g') (ho:OpR X (compareOp op) (yr g)) (ho' :OpR X (compareOp op') (yr g')) (ha:ue X Y a fa) (hb:ue X Y b fb) (hc:ue X Y c fc)
  (hm:lastMarks [op,op'] [b,c]=false:=by with_unfolding_all rfl):Snd X Y (.Compare a [op,op'] [b,c] pos) (chE g g' fa fb fc):= .mk fun ρ=>
 PE.imp (XW ho ho' (ha ρ) (hb ρ) (hc ρ) hm) fun σ H Q ⟨B,I,q⟩=>step I q fun t v H1 _ s1 r1 I1 q1=>step I1 q1 fun t' v' H2 _ s2 r2 I2 q2=>by
  cases e:g t t' with
  | bad=>rw [e] at q2; exact q2.elim
  | ex c=>exact absurd e (nx _ _ _)
  | ok k=>
   rw [e] at q2
   refine ⟨t,t',k,r1.mono s2,r2,e,k,rfl, ?_⟩
   cases k with
   | false=>exact w4 I2 q2 (.bl false)
   | true=>
    refine step I2 q2 fun t3 v3 H3 _ s3 r3 I3 q3=> ?_
    ·cases e:g' t' t3 with
     | bad=>rw [e] at q3; exact q3.elim
     | ex c=>exact absurd e (nx' _ _ _)
     | ok k=>rw [e] at q3; exact ⟨t',t3,k,r2.mono s3,r3,e,w4 I3 q3 (.bl k)⟩
theorem gz {op op' :CmpOp} {g g' :T->T->R Bool} (nx:Nx g) (nx' :Nx g') (ho:OpR X (compareOp op) (yr g)) (ho' :OpR X (compareOp op') (yr g')) (ha:ue X Y a fa) (hb:ue X Y b fb) (hc:ue X Y c fc)
  (hm:lastMarks [op,op'] [b,c]=false:=by with_unfolding_all rfl):qU X Y (.Compare a [op,op'] [b,c] pos) (chT g g' fa fb fc):= .mk fun ρ=>
 PT.imp (XX ho ho' (ha ρ) (hb ρ) (hc ρ) hm) fun σ H Q ⟨B,I,q⟩=>step I q fun t v H1 _ s1 r1 I1 q1=>step I1 q1 fun t' v' H2 _ s2 r2 I2 q2=>by
  cases e:g t t' with
  | bad=>rw [e] at q2; exact q2.elim
  | ex c=>exact absurd e (nx _ _ _)
  | ok k=>
   rw [e] at q2
   refine ⟨t,t',k,r1.mono s2,r2,e,k,rfl, ?_⟩
   cases k with
   | false=>exact ⟨false,rfl,w4 I2 q2 rfl⟩
   | true=>
    refine step I2 q2 fun t3 v3 H3 _ s3 r3 I3 q3=> ?_
    ·cases e:g' t' t3 with
     | bad=>rw [e] at q3; exact q3.elim
     | ex c=>exact absurd e (nx' _ _ _)
     | ok k=>rw [e] at q3; exact ⟨t',t3,k,r2.mono s3,r3,e,k,rfl,w4 I3 q3 rfl⟩
noncomputable def gA (r r' r'' :R2) (ta tb tc td:TE):TE:=fun σ H Q=>ta σ H fun x H1=>tb σ H1 fun y H2=>r x y H2 fun z H3=>∃ k,z= .bl k/\
 (if k=true then tc σ H3 fun w' H4=>r' y w' H4 fun z' H5=>∃ k',z' = .bl k' /\(if k' =true then td σ H5 fun w2 H6=>r'' w' w2 H6 Q else Q (.bl false) H5) else Q (.bl false) H3)
theorem VZ {op op' op'' :CmpOp} {r r' r'' :R2} {ta tb tc td:TE} (ho:OpR X (compareOp op) r) (ho' :OpR X (compareOp op') r') (ho'' :OpR X (compareOp op'') r'') (ha:PE X a ta) (hb:PE X b tb) (hc:PE X c tc) (hd:PE X d td)
  (hm:lastMarks [op,op',op''] [b,c,d]=false:=by with_unfolding_all rfl):PE X (.Compare a [op,op',op''] [b,c,d] pos) (gA r r' r'' ta tb tc td):=by
 intro pins s σ H Q I h
 refine Compare_chain (thn (ha pins s σ H _ I h) fun v s1 ⟨x,H1,I1,r1,q1⟩=>chain_link (thn (hb pins s1 σ H1 _ I1 q1) fun u s2 ⟨y,H2,I2,r2,q2⟩=>
  thn (ho pins s2 σ H2 x y v u _ I2 r1 r2 q2) fun d' s3 ⟨z,H3,I3,r3,k,e,q3⟩=> ?_)) hm
 subst e
 cases r3
 refine wpAny_truthy_bool ?_
 cases k with
 | false=>exact ite_ff ⟨.bl false,H3,I3,rfl,q3⟩
 | true=>
  refine ite_tt (chain_link (thn (hc pins s3 σ H3 _ I3 q3) fun w' s4 ⟨z',H4,I4,r4,q4⟩=>thn (ho' pins s4 σ H4 y z' u w' _ I4 r2 r4 q4) fun d2 s5 ⟨z5,H5,I5,r5,k5,e5,q5⟩=> ?_))
  subst e5
  cases r5
  refine wpAny_truthy_bool ?_
  cases k5 with
  | false=>exact ite_ff ⟨.bl false,H5,I5,rfl,q5⟩
  | true=>exact ite_tt (chain_last (thn (hd pins s5 σ H5 _ I5 q5) fun w6 s6 ⟨z6,H6,I6,r6,q6⟩=>ho'' pins s6 σ H6 z' z6 w' w6 Q I6 r4 r6 q6))
noncomputable def ch3E (g g' g'' :T->T->R Bool) (fa fb fc fd:En->R T):En->R T:=fun ρ=>(fa ρ).bind fun x=>(fb ρ).bind fun y=>(g x y).bind fun k=>if k=true then (fc ρ).bind fun z=>(g' y z).bind fun k' =>
 if k' =true then (fd ρ).bind fun w=>(g'' z w).bind fun k'' => .ok (.bl k'') else .ok (.bl false) else .ok (.bl false)
theorem ke {op op' op'' :CmpOp} {g g' g'' :T->T->R Bool} (nx:Nx g) (nx' :Nx g') (nx'' :Nx g'') (ho:OpR X (compareOp op) (yr g)) (ho' :OpR X (compareOp op') (yr g')) (ho'' :OpR X (compareOp op'') (yr g''))
  (ha:ue X Y a fa) (hb:ue X Y b fb) (hc:ue X Y c fc) (hd:ue X Y d fd)
  (hm:lastMarks [op,op',op''] [b,c,d]=false:=by with_unfolding_all rfl):Snd X Y (.Compare a [op,op',op''] [b,c,d] pos) (ch3E g g' g'' fa fb fc fd):= .mk fun ρ=>
 PE.imp (VZ ho ho' ho'' (ha ρ) (hb ρ) (hc ρ) (hd ρ) hm) fun σ H Q ⟨B,I,q⟩=>step I q fun t v H1 _ s1 r1 I1 q1=>step I1 q1 fun t' v' H2 _ s2 r2 I2 q2=>by
  cases e:g t t' with
  | bad=>rw [e] at q2; exact q2.elim
  | ex c=>exact absurd e (nx _ _ _)
  | ok k=>
   rw [e] at q2
   refine ⟨t,t',k,r1.mono s2,r2,e,k,rfl, ?_⟩
   cases k with
   | false=>exact w4 I2 q2 (.bl false)
   | true=>
    refine step I2 q2 fun t3 v3 H3 _ s3 r3 I3 q3=> ?_
    ·cases e:g' t' t3 with
     | bad=>rw [e] at q3; exact q3.elim
     | ex c=>exact absurd e (nx' _ _ _)
     | ok k=>
      rw [e] at q3
      refine ⟨t',t3,k,r2.mono s3,r3,e,k,rfl, ?_⟩
      cases k with
      | false=>exact w4 I3 q3 (.bl false)
      | true=>
       refine step I3 q3 fun t4 v4 H4 _ s4 r4 I4 q4=> ?_
       ·cases e:g'' t3 t4 with
        | bad=>rw [e] at q4; exact q4.elim
        | ex c=>exact absurd e (nx'' _ _ _)
        | ok k=>rw [e] at q4; exact ⟨t3,t4,k,r3.mono s4,r4,e,w4 I4 q4 (.bl k)⟩
variable {rest:List Expr} {ga gb:En->R Bool}
noncomputable def Wv (fa fb:En->R T):En->R T:=fun ρ=>(fa ρ).bind fun x=>match x with
 | .bl true=>fb ρ
 | .bl false=> .ok (.bl false)
 | _=> .bad
noncomputable def orE (fa fb:En->R T):En->R T:=fun ρ=>(fa ρ).bind fun x=>match x with
 | .bl true=> .ok (.bl true)
 | .bl false=>fb ρ
 | _=> .bad
noncomputable def XI (fa:En->R T):En->R T:=fun ρ=>(fa ρ).bind fun x=>match x with
 | .bl k=> .ok (.bl (!k))
 | _=> .bad
theorem wa {op} (h:Snd X Y a fa):Snd X Y (.BoolOp op [a] pos) fa:= .mk fun ρ=>GU (h ρ)
theorem Jb (ha:Snd X Y a fa) (hb:Snd X Y (.BoolOp .And (b :: rest) pos) fb):Snd X Y (.BoolOp .And (a :: b :: rest) pos) (Wv fa fb):= .mk fun ρ=>
 PE.imp (GV (ha ρ) (hb ρ)) fun σ H Q ⟨B,I,q⟩=>step I q fun t v H1 _ s1 r1 I1 q1=>by
  cases r1 with
  | bl k=>
   refine ⟨k,rfl, ?_⟩
   cases k with
   | true=>exact ⟨_,I1,q1⟩
   | false=>exact w4 I1 q1 (.bl false)
  | _=>exact q1.elim
theorem s_or (ha:Snd X Y a fa) (hb:Snd X Y (.BoolOp .Or (b :: rest) pos) fb):Snd X Y (.BoolOp .Or (a :: b :: rest) pos) (orE fa fb):= .mk fun ρ=>
 PE.imp (z1G (ha ρ) (hb ρ)) fun σ H Q ⟨B,I,q⟩=>step I q fun t v H1 _ s1 r1 I1 q1=>by
  cases r1 with
  | bl k=>
   refine ⟨k,rfl, ?_⟩
   cases k with
   | false=>exact ⟨_,I1,q1⟩
   | true=>exact w4 I1 q1 (.bl true)
  | _=>exact q1.elim
theorem kf (ha:Snd X Y a fa):Snd X Y (.UnaryOp .Not a pos) (XI fa):= .mk fun ρ=>
 PE.imp (GW (ha ρ)) fun σ H Q ⟨B,I,q⟩=>step I q fun t v H1 _ s1 r1 I1 q1=>by
  cases r1 with
  | bl k=>exact ⟨k,rfl,w4 I1 q1 (.bl (!k))⟩
  | _=>exact q1.elim
structure yb (X:Cx) (Y:Fx) (e:Expr) (f:En->R Bool):Prop where
 mk ::
 go:∀ ρ,PW X e (tS Y rE f ρ)
noncomputable instance {X:Cx} {Y:Fx} {e:Expr} {f:En->R Bool}:CoeFun (yb X Y e f) fun _=>∀ ρ,PW X e (tS Y rE f ρ):=⟨yb.go⟩
theorem yb.t {e:Expr} {f:En->R Bool} (h:yb X Y e f):qU X Y e f:= .mk fun ρ=>(h ρ).pt
theorem PW.imp {e:Expr} {t t' :TT} (h:PW X e t) (i:∀ σ H Q,t' σ H Q->t σ H Q):PW X e t' :=fun wh pins s σ H Q I q=>h wh pins s σ H Q I (i σ H Q q)
noncomputable def gB (fa fb:En->R Bool):En->R Bool:=fun ρ=>(fa ρ).bind fun x=>if x=true then fb ρ else .ok false
noncomputable def orT (fa fb:En->R Bool):En->R Bool:=fun ρ=>(fa ρ).bind fun x=>if x=true then .ok true else fb ρ
noncomputable def YN (fa:En->R Bool):En->R Bool:=fun ρ=>(fa ρ).bind fun x=> .ok (!x)
theorem Ke (h:qU X Y a ga):yb X Y (.BoolOp .And [a] pos) ga:= .mk fun ρ=>KK (h ρ)
theorem ye (h:qU X Y a ga):yb X Y (.BoolOp .Or [a] pos) ga:= .mk fun ρ=>GR (h ρ)
theorem z0m (ha:qU X Y a ga) (hb:yb X Y (.BoolOp .And (b :: rest) pos) gb):yb X Y (.BoolOp .And (a :: b :: rest) pos) (gB ga gb):= .mk fun ρ=>
 PW.imp (GS (ha ρ) (hb ρ)) fun σ H Q ⟨B,I,q⟩=>step I q fun t v H1 _ s1 r1 I1 q1=>by
  have r1' :v=t:=r1
  subst r1'
  cases v with
  | true=>exact ⟨_,I1,q1⟩
  | false=>exact w4 I1 q1 rfl
theorem Vq (ha:qU X Y a ga) (hb:yb X Y (.BoolOp .Or (b :: rest) pos) gb):yb X Y (.BoolOp .Or (a :: b :: rest) pos) (orT ga gb):= .mk fun ρ=>
 PW.imp (z1D (ha ρ) (hb ρ)) fun σ H Q ⟨B,I,q⟩=>step I q fun t v H1 _ s1 r1 I1 q1=>by
  have r1' :v=t:=r1
  subst r1'
  cases v with
  | false=>exact ⟨_,I1,q1⟩
  | true=>exact w4 I1 q1 rfl
theorem Ut (ha:qU X Y a ga):qU X Y (.UnaryOp .Not a pos) (YN ga):= .mk fun ρ=>
 PT.imp (GT (ha ρ)) fun σ H Q ⟨B,I,q⟩=>step I q fun t v H1 _ s1 r1 I1 q1=>by
  have r1' :v=t:=r1
  subst r1'
  exact w4 I1 q1 rfl
noncomputable def tru:T->R Bool
 | .bl k=> .ok k
 | .non=> .ok false
 | .int i=> .ok (i != 0)
 | .tup xs=> .ok (!xs.isEmpty)
 | .lst xs=> .ok (!xs.isEmpty)
 | _=> .bad
noncomputable def wG (fa:En->R T):En->R Bool:=fun ρ=>(fa ρ).bind tru
theorem isE {H:Hp} {xs:List V} {ts:List T} (r:Z2 H xs ts):(!xs.isEmpty)= !ts.isEmpty:=by cases r <;> rfl
theorem wN (ha:ue X Y a fa) (he:∀ whole,isTrue a X.env whole=(do let v ← whole; standAt a.pos; holding [v] (truthy v)):=by intro _; rfl):qU X Y a (wG fa):= .mk fun ρ=>
 PT.imp (XY (ha ρ) he) fun σ H Q ⟨B,I,q⟩=>step I q fun t v H1 _ s1 r1 I1 q1=>by
  cases r1 with
  | bl k=>exact ⟨k,rfl,w4 I1 q1 rfl⟩
  | non=>exact ⟨false,rfl,w4 I1 q1 rfl⟩
  | int i=>exact ⟨_,rfl,w4 I1 q1 rfl⟩
  | tup h r=>exact ⟨_, .inr (.inl ⟨_,SqT.of h,rfl⟩),w4 I1 q1 (isE r)⟩
  | lst h r=>exact ⟨_, .inl ⟨_,SqL.of h,rfl⟩,w4 I1 q1 (isE r)⟩
  | _=>exact q1.elim
noncomputable def ifE (g:En->R Bool) (fa fb:En->R T):En->R T:=fun ρ=>(g ρ).bind fun k=>if k=true then fa ρ else fb ρ
theorem GG (hc:qU X Y c ga) (ha:Snd X Y a fa) (hb:Snd X Y b fb):Snd X Y (.IfExp c a b pos) (ifE ga fa fb):= .mk fun ρ=>
 PE.imp (XT (hc ρ) (ha ρ) (hb ρ)) fun σ H Q ⟨B,I,q⟩=>step I q fun t v H1 _ s1 r1 I1 q1=>by
  have r1' :v=t:=r1
  subst r1'
  cases v with
  | true=>exact ⟨_,I1,q1⟩
  | false=>exact ⟨_,I1,q1⟩
end
end PV
namespace PV
open PySem PySem.Spec PyProof.Rows L2
section
variable {X:Cx} {Y:Fx} {a b c d:Expr} {fa fb fc fd:En->R T} {pos p:Pos}
noncomputable def ap1 (g:T->R T) (fa:En->R T):En->R T:=fun ρ=>(fa ρ).bind g
noncomputable abbrev St1 (X:Cx) (a:Expr):Prop:=starEach [a] X.env=[(false,eval a X.env)]
theorem YO {id:String} {x:Str} {r:List V->Hp->VK->Prop} {g:T->R T} (hc:Jn X (.builtin id) r) (hr:∀ v t B H Q,Rep H v t->zT B H->Po Y rC B H (g t) Q->r [v] H Q)
  (gl:Gl X x) (mg:X.mg x=none) (bt:bootBuiltins x=some (.builtin id)) (ha:ue X Y a fa) (hs:St1 X a:=by exact st1 rfl) (hn:x ≠ "__name__":=by decide) (hd:(x == ("__debug__":Str))=false:=by decide):Snd X Y (.Call (.Name x p) [a] [] pos) (ap1 g fa):= .mk fun ρ=>
 PE.imp (WJ hc gl mg bt (zS (ha ρ) ZW hs) hn hd hs rfl) fun σ H Q ⟨B,I,q⟩=>step I q fun t v H1 _ s1 r1 I1 q1=>hr v t _ H1 Q r1 I1.sB q1
theorem Kf {id:String} {x:Str} {r:List V->Hp->VK->Prop} {g:T->R T} (hc:Jn X (.type id) r) (hr:∀ v t B H Q,Rep B v t->zT B H->Po Y rC B H (g t) Q->r [v] H Q)
  (gl:Gl X x) (mg:X.mg x=none) (bt:bootBuiltins x=some (.type id)) (ha:Snd X Y a fa) (hs:St1 X a:=by exact st1 rfl) (hn:x ≠ "__name__":=by decide) (hd:(x == ("__debug__":Str))=false:=by decide):Snd X Y (.Call (.Name x p) [a] [] pos) (ap1 g fa):= .mk fun ρ=>
 PE.imp (WK hc gl mg bt (zS (ha ρ) ZW hs) hn hd hs rfl) fun σ H Q ⟨B,I,q⟩=>step I q fun t v H1 _ s1 r1 I1 q1=>hr v t _ H1 Q r1 I1.sB q1
noncomputable def wO:T->R T
 | .tup xs=> .ok (.int xs.length)
 | .lst xs=> .ok (.int xs.length)
 | .fz xs=> .ok (.int xs.length)
 | .str x=>if x.length<=bnd then .ok (.int x.length) else .bad
 | _=> .bad
theorem z23 (v:V) (t:T) (B H:Hp) (Q:VK) (r:Rep H v t) (sB:zT B H) (q:Po Y rC B H (wO t) Q):
  (∃ p ys,[v]=[V.ref p]/\(SqL X.K H p ys\/SqT X.K H p ys)/\Q (V.int ys.length) H)\/(∃ z,[v]=[V.str z]/\z.length<=sizeLine/\Q (V.int z.length) H):=by
 cases r with
 | tup h r=>exact .inl ⟨_,_,rfl, .inr (SqT.of h),po0 sB q rfl (by rw [r.length]; exact .int _)⟩
 | lst h r=>exact .inl ⟨_,_,rfl, .inl (SqL.of h),po0 sB q rfl (by rw [r.length]; exact .int _)⟩
 | fz h r=>exact .inl ⟨_,_,rfl, .inl (.inl (.inr ⟨_,h⟩)),po0 sB q rfl (by rw [r.length]; exact .int _)⟩
 | str x=>
  by_cases hb:x.length<=bnd
  ·exact .inr ⟨x,rfl,Jp hb,po0 sB q (if_pos hb) (.int _)⟩
  ·rw [show wO (.str x)= .bad from if_neg hb] at q; exact q.elim
 | _=>exact q.elim
theorem Jy (gl:Gl X "len") (mg:X.mg "len"=none) (ha:ue X Y a fa) (hs:St1 X a:=by exact st1 rfl):Snd X Y (.Call (.Name "len" p) [a] [] pos) (ap1 wO fa):=
 YO (YE.or YF) z23 gl mg PySem.boot_len ha hs
noncomputable def z1r:T->R T
 | .tup xs=> .ok (.tup xs)
 | .lst xs=> .ok (.tup xs)
 | _=> .bad
theorem z24 (v:V) (t:T) (B H:Hp) (Q:VK) (r:Rep B v t) (sB:zT B H) (q:Po Y rC B H (z1r t) Q):
  ∃ p ys,[v]=[V.ref p]/\((SqL X.K H p ys/\∀ l,H l=none->Q (.ref l) (upd H l (.tup ys)))\/(SqT X.K H p ys/\Q (.ref p) H)):=by
 cases r with
 | tup h r=>exact ⟨_,_,rfl, .inr ⟨SqT.of (sB _ _ h),po0 sB q rfl (.tup h r)⟩⟩
 | lst h r=>exact ⟨_,_,rfl, .inl ⟨SqL.of (sB _ _ h),fun l hl=>z0i sB q rfl r hl⟩⟩
 | _=>exact q.elim
theorem x3 (gl:Gl X "tuple") (mg:X.mg "tuple"=none) (ha:Snd X Y a fa) (hs:St1 X a:=by exact st1 rfl):Snd X Y (.Call (.Name "tuple" p) [a] [] pos) (ap1 z1r fa):=
 Kf yP z24 gl mg (PyProof.Rows.Boot.«tuple») ha hs
noncomputable def tyN:T->String
 | .non=>"NoneType"
 | .bl _=>"bool"
 | .int _=>"int"
 | .str _=>"str"
 | .tup _=>"tuple"
 | .lst _=>"list"
 | .fz _=>"list"
noncomputable def isT (n:String) (t:T):Bool:=tyN t == n || (n == "int" && tyN t == "bool")
theorem z25 {H:Hp} {v:V} {t:T} (K:PySem.W.Frag) (r:Rep H v t):vC K H v (.type (tyN t)):=by
 cases r with
 | non=>exact .non
 | bl b=>exact .bl b
 | int b=>exact .int b
 | str b=>exact .str b
 | tup h _=>exact .tup h
 | lst h _=>exact .lst h
 | fz h _=>exact .frz h
theorem kg:Jn X (.builtin "isinstance") (fun xs H Q=>∃ v n t,xs=[v, .ty n]/\Rep H v t/\PySem.W.kitOne X.K (.type (tyN t)) (.type n)=some (isT n t)/\Q (.bl (isT n t)) H):=by
 intro pins s σ H xs us Q I rv h
 obtain ⟨v,n,t,rfl,r,hk,q⟩:=h
 obtain ⟨u,w,rfl,ru,rw'⟩:=VE rv
 obtain rfl:w=Value.type n:=rw'
 exact VI I ru (z25 X.K r) hk fun tk=>⟨.bl _,H,I.tok tk,rfl,q⟩
noncomputable def yS (n:String) (t:T):R T:= .ok (.bl (isT n t))
theorem x6 (K:PySem.W.Frag) (t:T):PySem.W.kitOne K (.type (tyN t)) (.type "int")=some (isT "int" t):=by cases t <;> rfl
theorem kh (K:PySem.W.Frag) (t:T):PySem.W.kitOne K (.type (tyN t)) (.type "bool")=some (isT "bool" t):=by cases t <;> rfl
theorem gC (K:PySem.W.Frag) (t:T):PySem.W.kitOne K (.type (tyN t)) (.type "str")=some (isT "str" t):=by cases t <;> rfl
theorem jO (K:PySem.W.Frag) (t:T):PySem.W.kitOne K (.type (tyN t)) (.type "tuple")=some (isT "tuple" t):=by cases t <;> rfl
theorem ki (K:PySem.W.Frag) (t:T):PySem.W.kitOne K (.type (tyN t)) (.type "list")=some (isT "list" t):=by cases t <;> rfl
theorem Uu {n:String} {p' :Pos} (hk:∀ t,PySem.W.kitOne X.K (.type (tyN t)) (.type n)=some (isT n t)) (gl:Gl X "isinstance") (mg:X.mg "isinstance"=none) (gl' :Gl X (Str.ofString n)) (mg' :X.mg (Str.ofString n)=none) (bt:bootBuiltins (Str.ofString n)=some (.type n)) (ha:ue X Y a fa)
  (hs:starEach [a, .Name (Str.ofString n) p'] X.env=[(false,eval a X.env),(false,eval (.Name (Str.ofString n) p') X.env)]:=by exact st2 rfl rfl) (hs2:starEach [.Name (Str.ofString n) p'] X.env=[(false,eval (.Name (Str.ofString n) p') X.env)]:=by exact st1 rfl)
  (hn:Str.ofString n ≠ "__name__":=by decide) (hd:(Str.ofString n == ("__debug__":Str))=false:=by decide) (hz:((backTo pos (starEach [.Name (Str.ofString n) p'] X.env)).any fun x=>x.fst)=false:=by exact JC rfl):
  Snd X Y (.Call (.Name "isinstance" p) [a, .Name (Str.ofString n) p'] [] pos) (ap1 (yS n) fa):= .mk fun ρ=>
 PE.imp (WJ kg gl mg PyProof.Rows.Boot.«isinstance» (zS (ha ρ) (zS (Q1 (v:= .ty n) gl' mg' bt rfl hn hd) ZW hs2) (by rw [hs,hs2])) (by decide) (by decide) (by rw [hs,hs2]) hz) fun σ H Q ⟨B,I,q⟩=>
  step I q fun t v H1 _ s1 r1 I1 q1=>⟨v,n,t,rfl,r1,hk t,po0 I1.sB q1 rfl (.bl _)⟩
noncomputable def atT (xs:List T) (i:Int):R T:=match atI xs i with
 | some t=> .ok t
 | none=> .bad
noncomputable def ixT:T->T->R T
 | .tup xs, .int i=>atT xs i
 | .lst xs, .int i=>atT xs i
 | .fz xs, .int i=>atT xs i
 | .str z, .int i=>if z.length<=bnd then match atI z.cps.toList i with | some c=> .ok (.str ⟨#[c]⟩) | none=> .bad else .bad
 | _,_=> .bad
theorem x8 {H:Hp} {xs:List V} {ts:List T} {i:Int} {t:T} (r:Z2 H xs ts) (h:atI ts i=some t):∃ v,atI xs i=some v/\Rep H v t:=by
 unfold atI at h ⊢
 rw [r.length]
 cases e:ixN ts.length i with
 | none=>rw [e] at h; cases h
 | some j=>
  rw [e] at h
  obtain ⟨v,h1,h2⟩:=r.get (show ts[j]? =some t from h)
  exact ⟨v,h1,h2⟩
theorem zY (ha:Snd X Y a fa) (hb:Snd X Y b fb) (hs:VM b:=by exact fun _ _=>rfl):Snd X Y (.Subscript a b pos) (zg ixT fa fb):= .mk fun ρ=>
 PE.imp (z20 z0d (ha ρ) (hb ρ) hs) fun σ H Q ⟨B,I,q⟩=>step I q fun t v H1 _ s1 r1 I1 q1=>step I1 q1 fun t' v' H2 _ s2 r2 I2 q2=>by
  have r1:=r1.mono (Zi.ge I1.sB s2)
  cases r2 with
  | int i=>
   cases r1 with
   | @tup _ xs ts h r=>
    have q2:Po Y rC _ H2 (atT ts i) Q:=q2
    unfold atT at q2
    split at q2
    ·rename_i t' e
     obtain ⟨w,e1,e2⟩:=x8 r e
     exact .inr (.inl ⟨_,xs,i,w,rfl,rfl,SqT.of (I2.sB _ _ h),e1,po0 I2.sB q2 rfl e2⟩)
    ·exact q2.elim
   | @lst _ xs ts h r=>
    have q2:Po Y rC _ H2 (atT ts i) Q:=q2
    unfold atT at q2
    split at q2
    ·rename_i t' e
     obtain ⟨w,e1,e2⟩:=x8 r e
     exact .inl ⟨_,xs,i,w,rfl,rfl,SqL.of (I2.sB _ _ h),e1,po0 I2.sB q2 rfl e2⟩
    ·exact q2.elim
   | @fz _ _ xs ts h r=>
    have q2:Po Y rC _ H2 (atT ts i) Q:=q2
    unfold atT at q2
    split at q2
    ·rename_i t' e
     obtain ⟨w,e1,e2⟩:=x8 r e
     exact .inl ⟨_,xs,i,w,rfl,rfl, .inl (.inr ⟨_,I2.sB _ _ h⟩),e1,po0 I2.sB q2 rfl e2⟩
    ·exact q2.elim
   | str z=>
    have q2:Po Y rC _ H2 (if z.length<=bnd then match atI z.cps.toList i with | some c=> .ok (.str ⟨#[c]⟩) | none=> .bad else .bad) Q:=q2
    split at q2
    ·rename_i hb
     split at q2
     ·rename_i c e
      exact .inr (.inr ⟨z,i,c,rfl,rfl,Jp hb,e,po0 I2.sB q2 rfl (.str _)⟩)
     ·exact q2.elim
    ·exact q2.elim
   | _=>exact q2.elim
  | _=>cases r1 <;> exact q2.elim
structure GH (X:Cx) (Y:Fx) (e:Option Expr) (f:En->R (Option Int)):Prop where
 mk ::
 go:∀ ρ,PO X e (tS Y rE f ρ)
noncomputable instance {X:Cx} {Y:Fx} {e:Option Expr} {f:En->R (Option Int)}:CoeFun (GH X Y e f) fun _=>∀ ρ,PO X e (tS Y rE f ρ):=⟨GH.go⟩
noncomputable def noO:En->R (Option Int):=fun _=> .ok none
noncomputable def ug (fa:En->R T):En->R (Option Int):=fun ρ=>(fa ρ).bind fun t=>match t with
 | .int i=> .ok (some i)
 | _=> .bad
theorem PO.imp {e:Option Expr} {t t' :TO} (h:PO X e t) (i:∀ σ H Q,t' σ H Q->t σ H Q):PO X e t' :=fun pins s σ H Q I q=>h pins s σ H Q I (i σ H Q q)
theorem QP:GH X Y none noO:= .mk fun ρ=>PO.imp KT fun σ H Q ⟨B,I,q⟩=>w4 I q rfl
theorem QQ (ha:Snd X Y a fa):GH X Y (some a) (ug fa):= .mk fun ρ=>PO.imp (KU (ha ρ)) fun σ H Q ⟨B,I,q⟩=>step I q fun t v H1 _ s1 r1 I1 q1=>by
 cases r1 with
 | int i=>exact ⟨i,rfl,w4 I1 q1 rfl⟩
 | _=>exact q1.elim
noncomputable def cut (xs:List T) (lo hi:Option Int):List T:=(xs.drop (HT.sIx xs.length 0 lo)).take (HT.sIx xs.length xs.length hi - HT.sIx xs.length 0 lo)
noncomputable def slT (t:T) (lo hi:Option Int):R T:=match t with
 | .tup xs=> .ok (.tup (cut xs lo hi))
 | .lst xs=> .ok (.lst (cut xs lo hi))
 | _=> .bad
noncomputable def slE (fa:En->R T) (fl fh:En->R (Option Int)):En->R T:=fun ρ=>(fa ρ).bind fun t=>(fl ρ).bind fun lo=>(fh ρ).bind fun hi=>slT t lo hi
theorem x9 {H:Hp} {xs:List V} {ts:List T} {lo hi:Option Int} (r:Z2 H xs ts):Z2 H (Ka xs lo hi) (cut ts lo hi):=by
 unfold Ka cut
 rw [r.length]
 exact (r.drop _).take _
theorem uh {prog:Program} {w:World} {A:Around} {E:Value->Shared->Prop} {s:Shared} {t sl:Addr} {items:Array Value} {vl vu:Value} {lo hi:Option Int} {Q:Value->Shared->Prop} (ht:IsTup s.heap t items) (hs:s.heap.IsSliceOf sl vl vu .none) (pl:IsPart vl lo) (pu:IsPart vu hi)
  (hw:HT.sIx items.size 0 lo=0/\HT.sIx items.size items.size hi=items.size) (h:Q (.ref t) s):wpAny (model prog w) A (getItem (.ref t) (.ref sl)) Q E s:=by
 obtain ⟨os,hos,hcs,hds⟩:=id hs
 have hTs:s.TypeIs (.ref sl) "slice":=⟨os,hos,hcs⟩
 unfold getItem
 try with_reducible refine wpAny_holding ?_
 first | refine wpAny_bind (wpAny_pure ?_) | skip
 refine wpAny_bind (wpAny_sequenceKey ht.typeIs (by decide) ?_)
 refine wpAny_bind (wpAny_callSpecial?_slot (name:=Str.ofString "__getitem__") ht.typeIs PyProof.Rows.slot_tuple_getitem
  (wpAny_call_entry PyProof.Rows.slot_tuple_getitem ht.typeIs entry_tuple_getitem ?_ (args_tuple_getitem _ _)))
 show wpAny _ _ (Builtin.Tuple.tupleItemsOf (.ref t) >>= _) _ _ s
 refine wpAny_bind (tupleItemsOf_ ht ?_)
 refine wpAny_bind (wpAny_typeOf hTs ?_)
 rw [if_pos (by decide)]
 refine wpAny_bind (HT.sliceApplied_gen hs pl pu ?_)
 have hyes:(((HT.sIx items.size 0 lo:Nat):Int) == 0 && (1:Int) == 1 && (HT.sIx items.size items.size hi - HT.sIx items.size 0 lo) == items.size)=true:=by
  rw [hw.1,hw.2]; simp
 show wpAny _ _ (if (((HT.sIx items.size 0 lo:Nat):Int) == 0 && (1:Int) == 1 && (HT.sIx items.size items.size hi - HT.sIx items.size 0 lo) == items.size)=true then _ else _) _ _ s
 rw [if_pos hyes]
 unfold Builtin.Tuple.tupleIsExact
 refine wpAny_bind (wpAny_bind (wpAny_typeOf ht.typeIs (wpAny_pure ?_)))
 rw [if_pos (by decide)]
 exact wpAny_bind (wpAny_rule (wpAny_pure ⟨_,rfl,wpAny_pure h⟩))
theorem vI:SlR X (fun x lo hi H Q=>∃ a xs,x= .ref a/\SqT X.K H a xs/\(HT.sIx xs.length 0 lo=0/\HT.sIx xs.length xs.length hi=xs.length)/\Q (.ref a) H):=by
 intro pins s σ H x v vl vu lo hi sl Q I rx hs pl pu h
 obtain ⟨a,xs,rfl,hx,hw,q⟩:=h
 obtain rfl:v=Value.ref a:=rx
 obtain ⟨its,r,ht,hz⟩:=I.tuple hx
 have hlen:its.toArray.size=xs.length:=by rw [List.size_toArray]; exact r.length.symm
 refine ⟨"tuple",_,PyProof.Rows.slot_tuple_getitem.lookup,ht.typeIs, ?_⟩
 exact uh ht hs pl pu (by rw [hlen]; exact hw) ⟨.ref a,H,I,rfl,q⟩
theorem gD {xs:List T} {lo hi:Option Int} (h1:HT.sIx xs.length 0 lo=0) (h2:HT.sIx xs.length xs.length hi=xs.length):cut xs lo hi=xs:=by
 unfold cut
 rw [h1,h2]; simp
theorem yT {lo hi:Option Expr} {fl fh:En->R (Option Int)} {p2:Pos} (ha:Snd X Y a fa) (hl:GH X Y lo fl) (hh:GH X Y hi fh):Snd X Y (.Subscript a (.Slice lo hi none p2) pos) (slE fa fl fh):= .mk fun ρ=>
 PE.imp (k6 (z0a.or (vI.or g6)) (ha ρ) (hl ρ) (hh ρ)) fun σ H Q ⟨B,I,q⟩=>step I q fun t v H1 _ s1 r1 I1 q1=>step I1 q1 fun l l' H2 _ s2 el I2 q2=>step I2 q2 fun h h' H3 _ s3 eh I3 q3=>by
  have el' :l' =l:=el
  have eh' :h' =h:=eh
  subst el' eh'
  have r1:=r1.mono ((Zi.ge I1.sB s2).trans (Zi.ge I2.sB s3))
  cases r1 with
  | @tup _ xs ts hx r=>
   have q3:Po Y rC _ H3 (.ok (.tup (cut ts l' h'))) Q:=q3
   by_cases hw:HT.sIx xs.length 0 l' =0/\HT.sIx xs.length xs.length h' =xs.length
   ·refine .inr (.inl ⟨_,xs,rfl,SqT.of (I3.sB _ _ hx),hw,po0 I3.sB q3 rfl ?_⟩)
    rw [r.length] at hw
    rw [gD hw.1 hw.2]
    exact .tup hx r
   ·exact .inl ⟨_,xs,rfl,SqT.of (I3.sB _ _ hx),hw,fun p hp=>z0i I3.sB q3 rfl (x9 r) hp⟩
  | @lst _ xs ts hx r=>
   have q3:Po Y rC _ H3 (.ok (.lst (cut ts l' h'))) Q:=q3
   exact .inr (.inr ⟨_,xs,rfl,SqL.of (I3.sB _ _ hx),fun p hp=>z21 I3.sB q3 rfl (x9 r) hp⟩)
  | _=>exact q3.elim
noncomputable def xa (t t' :T):R T:=match t,t' with
 | .int i, .int j=> .ok (.int (if j < i then j else i))
 | _,_=> .bad
theorem Kg (hc:X.calm=true) (gl:Gl X "min") (mg:X.mg "min"=none) (ha:Snd X Y a fa) (hb:Snd X Y b fb)
  (hs:starEach [a,b] X.env=[(false,eval a X.env),(false,eval b X.env)]:=by exact st2 rfl rfl) (hs2:starEach [b] X.env=[(false,eval b X.env)]:=by exact st1 rfl):
  Snd X Y (.Call (.Name "min" p) [a,b] [] pos) (zg xa fa fb):= .mk fun ρ=>
 PE.imp (WJ (VF hc) gl mg PyProof.Rows.Boot.«min» (zS (ha ρ) (zS (hb ρ) ZW hs2) (by rw [hs,hs2])) (by decide) (by decide) (by rw [hs,hs2]) (by rw [hs2]; rfl)) fun σ H Q ⟨B,I,q⟩=>
  step I q fun t v H1 _ s1 r1 I1 q1=>step I1 q1 fun t' v' H2 _ s2 r2 I2 q2=>by
   cases r1 with
   | int i=>
    cases r2 with
    | int j=>exact ⟨i,j,rfl,po0 I2.sB q2 rfl (.int _)⟩
    | _=>exact q2.elim
   | _=>cases r2 <;> exact q2.elim
noncomputable def YQ:List T->Option Bool
 | []=>some true
 | .bl k :: r=>match YQ r with | some j=>some (k && j) | none=>none
 | _ :: _=>none
noncomputable def xb:T->R T
 | .lst ts=>match YQ ts with | some k=> .ok (.bl k) | none=> .bad
 | _=> .bad
theorem xf:∀ {H:Hp} {xs:List V} {ts:List T} {its:List Value} {k:Bool},Z2 H xs ts->ZD xs its->YQ ts=some k->∃ tr:Nat->Bool,(∀ i v,its[i]? =some v->v=Value.bool (tr i))/\(List.range its.length).all tr=k
 | _,_,_,_,k, .nil, .nil,h=>by
  have h' :some true=some k:=h
  cases h'
  exact ⟨fun _=>true,fun i v e=>by simp at e,rfl⟩
 | H,_,_,_,k, .cons (v:=x) (t:=t) r rs, .cons (b:=u) rv vs,h=>by
  cases r with
  | bl b=>
   unfold YQ at h
   split at h
   ·rename_i j e
    cases h
    obtain ⟨tr,h1,h2⟩:=xf rs vs e
    obtain rfl:u=Value.bool b:=rv
    refine ⟨fun i=>match i with | 0=>b | i+1=>tr i,fun i v e=> ?_, ?_⟩
    ·cases i with
     | zero=>simp at e; exact e.symm
     | succ i=>exact h1 i v (by simpa using e)
    ·rw [List.length_cons,List.range_succ_eq_map,List.all_cons,List.all_map,← h2]
     rfl
   ·cases h
  | _=>cases h
theorem xg (hh:X.A.handled=none):Jn X (.builtin "all") (fun vs H Q=>∃ l xs ts k,vs=[.ref l]/\H l=some (.lst xs)/\Z2 H xs ts/\YQ ts=some k/\Q (.bl k) H):=by
 intro pins s σ H vs us Q I rv h
 obtain ⟨l,xs,ts,k,rfl,hl,r,hk,q⟩:=h
 obtain ⟨u,rfl,ru⟩:=wI rv
 obtain rfl:u=Value.ref l:=ru
 obtain ⟨its,rv,p,_⟩:=Zg I (.inl hl) r
 obtain ⟨tr,h1,h2⟩:=xf r rv hk
 refine call_all_walk (wpAny_pyIter_list p ?_)
 have hlt:l < s.heap.objs.size:=I.hok.lt hl
 have old:∀ b o,s.heap.get? b=some o->(s.heap.push { cls:= .type "list_iterator",data:= .fields #[.ref l, .int 0 0] }).get? b=some o:=fun b o e=>Heap.get?_push_of_some _ e
 refine ⟨s.heap.objs.size,_,_,_,_,_,tr,rfl,Walks.list (A:=X.A.in1) hh s.heap.objs.size l (Nat.ne_of_lt hlt) its.toArray, ?_, ?_,fun h' tk hk' => ?_⟩
 ·refine ⟨?_,p.at fun o e=>old _ o e⟩
  exact ⟨_,Heap.get?_push_size _ rfl,rfl,rfl⟩
 ·intro i v s' Q' E' hi hq
  rw [h1 i v (by simpa using hi)]
  exact wpAny_truthy_bool hq
 ·rw [List.size_toArray,h2]
  refine ⟨.bl k,H,I.kept (t' :=tk) (fun b o e=>hk' b o ?_ (old b o e)),rfl,q⟩
  simp
  exact Nat.ne_of_lt (Heap.lt_size e)
theorem xh (hh:X.A.handled=none) (gl:Gl X "all") (mg:X.mg "all"=none) (ha:ue X Y a fa) (hs:St1 X a:=by exact st1 rfl):Snd X Y (.Call (.Name "all" p) [a] [] pos) (ap1 xb fa):=
 YO (xg hh) (fun v t B H Q r sB q=>by
  cases r with
  | @lst l xs ts h r=>
   have q:Po Y rC B H (match YQ ts with | some k=> .ok (.bl k) | none=> .bad) Q:=q
   split at q
   ·rename_i k e
    exact ⟨l,xs,ts,k,rfl,h,r,e,po0 sB q rfl (.bl k)⟩
   ·exact q.elim
  | _=>exact q.elim) gl mg PyProof.Rows.Boot.«all» ha hs
end
end PV
namespace PV
open PySem PySem.Spec PyProof.Rows L2
inductive RS where
 | nx (ρ:En) | rt (t:T) | bk (ρ:En) | ct (ρ:En) | ex (c:Nat) | bad | rf (ts:List T)
noncomputable def R.s {α:Type} (r:R α) (k:α->RS):RS:=match r with
 | .ok a=>k a
 | .ex c=> .ex c
 | .bad=> .bad
noncomputable def PoS (Y:Fx) (B:Hp) (r:RS) (D:K4):Prop:=match r with
 | .nx ρ' =>∀ σ' H' B',zT B B' ->SI Y B' ρ' σ' H' ->D.nx σ' H'
 | .rt t=>∀ v H',zT Y.H0 H' ->Rep (Zi Y.B0 Y.H0 H') v t->D.rt v H'
 | .bk ρ' =>∀ σ' H' B',zT B B' ->SI Y B' ρ' σ' H' ->D.bk σ' H'
 | .ct ρ' =>∀ σ' H' B',zT B B' ->SI Y B' ρ' σ' H' ->D.ct σ' H'
 | .ex c=>XP Y B c
 | .bad=>False
 | .rf ts=>∀ a xs H' B',zT Y.H0 H' ->Y.H0 a=none->H' a=some (.lst xs)->Z2 B' xs ts->B' a=none->zT B' (Zi Y.B0 Y.H0 H')->D.rt (.ref a) H'
theorem PoS.up {Y:Fx} {B B' :Hp} {r:RS} {D:K4} (s:zT B B') (h:PoS Y B r D):PoS Y B' r D:=by
 cases r with
 | nx ρ=>exact fun σ' H' B2 s2 I=>h σ' H' B2 (s.trans s2) I
 | bk ρ=>exact fun σ' H' B2 s2 I=>h σ' H' B2 (s.trans s2) I
 | ct ρ=>exact fun σ' H' B2 s2 I=>h σ' H' B2 (s.trans s2) I
 | rt t=>exact h
 | rf t=>exact h
 | ex c=>exact fun d H' s0 sB=>h d H' s0 (s.trans sB)
 | bad=>exact h
noncomputable def tSS (Y:Fx) (f:En->RS) (ρ:En):TS:=fun D σ H=>∃ B,SI Y B ρ σ H/\PoS Y B (f ρ) D
structure yU (X:Cx) (Y:Fx) (e:Stmt) (f:En->RS):Prop where
 mk ::
 go:∀ ρ,PS X e (tSS Y f ρ)
noncomputable instance {X:Cx} {Y:Fx} {e:Stmt} {f:En->RS}:CoeFun (yU X Y e f) fun _=>∀ ρ,PS X e (tSS Y f ρ):=⟨yU.go⟩
structure Vr (X:Cx) (Y:Fx) (e:List Stmt) (f:En->RS):Prop where
 mk ::
 go:∀ ρ,PSs X e (tSS Y f ρ)
noncomputable instance {X:Cx} {Y:Fx} {e:List Stmt} {f:En->RS}:CoeFun (Vr X Y e f) fun _=>∀ ρ,PSs X e (tSS Y f ρ):=⟨Vr.go⟩
theorem uY {α β:Type} {Y:Fx} {rel:Hp->Hp->β->α->Prop} {f:En->R α} {k:α->RS} {ρ:En} {B:Hp} {σ:Sg} {H:Hp} {D:K4} {K:β->Hp->Prop}
  (I:SI Y B ρ σ H) (h:PoS Y B ((f ρ).s k) D)
  (n:∀ a b H1,f ρ= .ok a->zT H H1->rel (Zi B H H1) H1 b a->SI Y (Zi B H H1) ρ σ H1->PoS Y (Zi B H H1) (k a) D->K b H1):tS Y rel f ρ σ H K:=by
 refine ⟨B,I, ?_⟩
 cases e:f ρ with
 | bad=>rw [e] at h; exact h
 | ex c=>rw [e] at h; exact h
 | ok a=>
  rw [e] at h
  exact fun b H1 s r=>n a b H1 e s r (I.grow s) (PoS.up (Zi.ge I.sB s) h)
theorem Zr {α:Type} {xs:List α} {i j:Nat} {x y:α} (h:(xs.set i x)[j]? =some y):(j=i/\y=x)\/(j ≠ i/\xs[j]? =some y):=by
 by_cases e:j=i
 ·subst e
  by_cases hl:j < xs.length
  ·rw [List.getElem?_set_self hl] at h; exact .inl ⟨rfl,(Option.some.inj h).symm⟩
  ·rw [List.getElem?_eq_none (by rw [List.length_set]; omega)] at h; cases h
 ·rw [List.getElem?_set_ne (Ne.symm e)] at h; exact .inr ⟨e,h⟩
theorem xi {α:Type} {xs:List α} {i:Nat} {x y:α} (h:(xs.set i x)[i]? =some y):i < xs.length:=by
 by_cases hl:i < xs.length
 ·exact hl
 ·rw [List.getElem?_eq_none (by rw [List.length_set]; omega)] at h; cases h
theorem SI.setV {Y:Fx} {B:Hp} {ρ:En} {σ:Sg} {H:Hp} (I:SI Y B ρ σ H) (i:Nat) {v:V} {t:T} (r:Rep B v t):SI Y B (ρ.set i (.vl t)) (σ.set i (some v)) H where
 s0:=I.s0
 sH:=I.sH
 sB:=I.sB
 old:=I.old
 len:=by rw [List.length_set,List.length_set]; exact I.len
 vl:=fun j u h=>by
  rcases Zr h with ⟨rfl,e⟩ | ⟨hj,h'⟩
  ·cases e
   exact ⟨v,List.getElem?_set_self (by rw [← I.len]; exact xi h),r⟩
  ·obtain ⟨w,e,rr⟩:=I.vl j u h'
   exact ⟨w,by rw [List.getElem?_set_ne (Ne.symm hj)]; exact e,rr⟩
 ow:=fun j us h=>by
  rcases Zr h with ⟨rfl,e⟩ | ⟨hj,h'⟩
  ·cases e
  ·obtain ⟨a,xs,e,b0,h0,hh,rr,d⟩:=I.ow j us h'
   refine ⟨a,xs,by rw [List.getElem?_set_ne (Ne.symm hj)]; exact e,b0,h0,hh,rr,fun k ws hk hw=> ?_⟩
   rcases Zr hw with ⟨rfl,e'⟩ | ⟨hk',hw'⟩
   ·cases e'
   ·rw [List.getElem?_set_ne (Ne.symm hk')]; exact d k ws hk hw'
 xc:=fun j c h=>by
  rcases Zr h with ⟨rfl,e⟩ | ⟨hj,h'⟩
  ·cases e
  ·obtain ⟨a,e,r⟩:=I.xc j c h'
   exact ⟨a,by rw [List.getElem?_set_ne (Ne.symm hj)]; exact e,r⟩
theorem SI.newO {Y:Fx} {B:Hp} {ρ:En} {σ:Sg} {H:Hp} (I:SI Y B ρ σ H) (i:Nat) {p:Addr} {xs:List V} {ts:List T} (hp:H p=none) (r:Z2 B xs ts):SI Y B (ρ.set i (.ow ts)) (σ.set i (some (.ref p))) (upd H p (.lst xs)) where
 s0:=I.s0
 sH:=I.sH.trans (zT.new hp _)
 sB:=I.sB.trans (zT.new hp _)
 old:=I.old
 len:=by rw [List.length_set,List.length_set]; exact I.len
 vl:=fun j u h=>by
  rcases Zr h with ⟨rfl,e⟩ | ⟨hj,h'⟩
  ·cases e
  ·obtain ⟨w,e,rr⟩:=I.vl j u h'
   exact ⟨w,by rw [List.getElem?_set_ne (Ne.symm hj)]; exact e,rr⟩
 ow:=fun j us h=>by
  have op:∀ k ws a,ρ[k]? =some (Sl.ow ws)->σ[k]? =some (some (V.ref a))->a ≠ p:=fun k ws a h1 h2=>by
   obtain ⟨a',xs',e,_,_,hh,_⟩:=I.ow k ws h1
   rw [e] at h2; cases h2
   exact Zb hh hp
  rcases Zr h with ⟨rfl,e⟩ | ⟨hj,h'⟩
  ·cases e
   refine ⟨p,xs,List.getElem?_set_self (by rw [← I.len]; exact xi h),I.sB.free hp,I.sH.free hp,Zq,r,fun k ws hk hw=> ?_⟩
   rcases Zr hw with ⟨rfl,e'⟩ | ⟨hk',hw'⟩
   ·exact absurd rfl hk
   ·rw [List.getElem?_set_ne (Ne.symm hk')]
    exact fun z=>op k ws p hw' z rfl
  ·obtain ⟨a,xs',e,b0,h0,hh,rr,d⟩:=I.ow j us h'
   refine ⟨a,xs',by rw [List.getElem?_set_ne (Ne.symm hj)]; exact e,b0,h0,by rw [zW (op j us a h' e)]; exact hh,rr,fun k ws hk hw=> ?_⟩
   rcases Zr hw with ⟨rfl,e'⟩ | ⟨hk',hw'⟩
   ·rw [List.getElem?_set_self (by rw [← I.len]; exact xi hw)]
    intro z
    exact op j us a h' e (by injection z with z; injection z with z; injection z with z; exact z.symm)
   ·rw [List.getElem?_set_ne (Ne.symm hk')]; exact d k ws hk hw'
 xc:=fun j c h=>by
  rcases Zr h with ⟨rfl,e⟩ | ⟨hj,h'⟩
  ·cases e
  ·obtain ⟨a,e,r⟩:=I.xc j c h'
   exact ⟨a,by rw [List.getElem?_set_ne (Ne.symm hj)]; exact e,r⟩
theorem SI.chg {Y:Fx} {B:Hp} {ρ:En} {σ:Sg} {H:Hp} (I:SI Y B ρ σ H) (i:Nat) {p:Addr} {ts us:List T} {ys:List V} (hi:ρ[i]? =some (.ow ts)) (he:σ[i]? =some (some (.ref p))) (r:Z2 B ys us):SI Y B (ρ.set i (.ow us)) σ (upd H p (.lst ys)):=by
 obtain ⟨p',xs,e,b0,h0,hh,rr,d⟩:=I.ow i ts hi
 rw [he] at e
 cases e
 have nb:∀ b o,B b=some o->b ≠ p:=fun b o h z=>by subst z; rw [b0] at h; cases h
 have n0:∀ b o,Y.H0 b=some o->b ≠ p:=fun b o h z=>by subst z; rw [h0] at h; cases h
 refine ⟨I.s0,fun b o h=>by rw [zW (n0 b o h)]; exact I.sH b o h,fun b o h=>by rw [zW (nb b o h)]; exact I.sB b o h,I.old,by rw [List.length_set]; exact I.len,fun j u h=> ?_,fun j ws h=> ?_,fun j c h=> ?_⟩
 rotate_right
 ·rcases Zr h with ⟨rfl,z⟩ | ⟨hj,h'⟩
  ·cases z
  ·exact I.xc j c h'
 ·rcases Zr h with ⟨rfl,z⟩ | ⟨hj,h'⟩
  ·cases z
  ·exact I.vl j u h'
 ·rcases Zr h with ⟨rfl,z⟩ | ⟨hj,h'⟩
  ·cases z
   refine ⟨p,ys,he,b0,h0,Zq,r,fun k vs hk hw=> ?_⟩
   rcases Zr hw with ⟨rfl,e'⟩ | ⟨hk',hw'⟩
   ·exact absurd rfl hk
   ·exact d k vs hk hw'
  ·obtain ⟨a,xs',e,c0,g0,gg,ss,d'⟩:=I.ow j ws h'
   have hne:a ≠ p:=fun z=>by subst z; exact d j ws hj h' e
   refine ⟨a,xs',e,c0,g0,by rw [zW hne]; exact gg,ss,fun k vs hk hw=> ?_⟩
   rcases Zr hw with ⟨rfl,e'⟩ | ⟨hk',hw'⟩
   ·rw [he]; intro z; injection z with z; injection z with z; injection z with z; exact hne z.symm
   ·exact d' k vs hk hw'
noncomputable def z26:Sl->Sl
 | .ow ts=> .vl (.lst ts)
 | x=>x
noncomputable def frz (ρ:En):En:=ρ.map z26
theorem SI.up {Y:Fx} {B:Hp} {ρ:En} {σ:Sg} {H:Hp} (I:SI Y B ρ σ H):zT B (Zi B Y.H0 H):=fun b o h=>by
 cases q:Y.H0 b with
 | none=>rw [jm q]; exact I.sB b o h
 | some u=>rw [jn q]; exact h
theorem SI.frz {Y:Fx} {B:Hp} {ρ:En} {σ:Sg} {H:Hp} (I:SI Y B ρ σ H):SI Y (Zi B Y.H0 H) (PV.frz ρ) σ H:=by
 have up:zT B (Zi B Y.H0 H):=fun b o h=>by
  cases q:Y.H0 b with
  | none=>rw [jm q]; exact I.sB b o h
  | some u=>rw [jn q]; exact h
 refine ⟨I.s0,I.sH,fun b o h=> ?_,fun b o h=>by rw [jn h]; exact I.old b o h,by unfold PV.frz; rw [List.length_map]; exact I.len,fun j t h=> ?_,fun j ts h=> ?_,fun j c h=> ?_⟩
 rotate_right
 ·unfold PV.frz at h
  rw [List.getElem?_map] at h
  cases e:ρ[j]? with
  | none=>rw [e] at h; cases h
  | some x=>
   rw [e] at h
   cases x with
   | xc d=>
    cases h
    obtain ⟨a,e1,r⟩:=I.xc j _ e
    exact ⟨a,e1,up a _ r⟩
   | un=>cases h
   | vl _=>cases h
   | ow _=>cases h
 ·cases q:Y.H0 b with
  | none=>rw [jm q] at h; exact h
  | some u=>rw [jn q] at h; exact I.sB b o h
 ·unfold PV.frz at h
  rw [List.getElem?_map] at h
  cases e:ρ[j]? with
  | none=>rw [e] at h; cases h
  | some x=>
   rw [e] at h
   cases x with
   | un=>cases h
   | vl u=>
    cases h
    obtain ⟨v,e1,r⟩:=I.vl j _ e
    exact ⟨v,e1,r.mono up⟩
   | ow us=>
    cases h
    obtain ⟨a,xs,e1,b0,h0,hh,rr,_⟩:=I.ow j us e
    exact ⟨.ref a,e1, .lst (by rw [jm h0]; exact hh) (rr.mono up)⟩
   | xc _=>cases h
 ·unfold PV.frz at h
  rw [List.getElem?_map] at h
  cases e:ρ[j]? with
  | none=>rw [e] at h; cases h
  | some x=>
   rw [e] at h
   cases x with
   | un=>cases h
   | vl u=>cases h
   | ow us=>cases h
   | xc _=>cases h
theorem Kh {Y:Fx} {B H H' :Hp} (s0:zT Y.H0 H) (old:∀ b o,Y.H0 b=some o->B b=Y.B0 b) (s:zT H H') (sB:zT B H):zT (Zi B H H') (Zi Y.B0 Y.H0 H'):=fun b o h=>by
 cases q:H b with
 | none=>
  rw [jm q] at h
  rw [jm (s0.free q)]; exact h
 | some u=>
  rw [jn q] at h
  cases z:Y.H0 b with
  | none=>rw [jm z]; exact s b o (sB b o h)
  | some w=>rw [jn z,← old b w z]; exact h
section
variable {X:Cx} {Y:Fx} {a b c d:Expr} {fa fb fc fd:En->R T} {pos p:Pos} {st:Stmt} {sts sts' :List Stmt} {f g:En->RS}
noncomputable def nxS:En->RS:=fun ρ=> .nx ρ
noncomputable def zI (f g:En->RS):En->RS:=fun ρ=>match f ρ with
 | .nx ρ' =>g ρ'
 | r=>r
theorem zM:Vr X Y [] nxS:= .mk fun ρ=>PSs.imp KL fun D σ H ⟨B,I,q⟩=>q σ H B (zT.refl B) I
theorem zn (h:yU X Y st f):Vr X Y [st] f:= .mk fun ρ=>KM (h ρ)
theorem zk (h1:yU X Y st f) (h2:Vr X Y sts g):Vr X Y (st :: sts) (zI f g):= .mk fun ρ=>by
 refine PSs.imp (XU (u:=fun D σ H=>∃ ρ',tSS Y g ρ' D σ H) (h1 ρ) ?_) ?_
 ·intro pins s σ H D I ⟨ρ',q⟩
  exact h2 ρ' pins s σ H D I q
 ·intro D σ H ⟨B,I,q⟩
  refine ⟨B,I, ?_⟩
  unfold zI at q
  cases e:f ρ with
  | nx ρ' =>
   rw [e] at q
   intro σ' H' B' s' I'
   exact ⟨ρ',B',I',PoS.up s' q⟩
  | rt t=>rw [e] at q; exact q
  | rf t=>rw [e] at q; exact q
  | bk ρ' =>rw [e] at q; exact q
  | ct ρ' =>rw [e] at q; exact q
  | ex c=>rw [e] at q; exact q
  | bad=>rw [e] at q; exact q
noncomputable def Zf (i:Nat) (fa:En->R T):En->RS:=fun ρ=>(fa ρ).s fun t=> .nx (ρ.set i (.vl t))
theorem ZH {i:Nat} {x:Str} {p' :Pos} (hN:X.N.Nodup) (hi:X.N[i]? =some x) (hx:L2.Loc X.env.scope x) (ha:Snd X Y a fa) (hs:swapsWith a (some (.Name x p')) pos.line X.env=pure false:=by rfl)
  (hf:X.fn x=true\/X.env.scope.names.lookup x=some .local:=by first | exact .inl rfl | exact .inr rfl | assumption):yU X Y (.Assign [.Name x p'] a pos) (Zf i fa):= .mk fun ρ=>
 PS.imp (Vy hN hi hx (ha ρ) hs hf) fun D σ H ⟨B,I,q⟩=>uY I q fun t v H1 _ s1 r1 I1 q1=>q1 _ _ _ (zT.refl _) (I1.setV i r1)
noncomputable def Vs (i:Nat) (ga:En->R (List T)):En->RS:=fun ρ=>(ga ρ).s fun ts=>if ts.length<=bnd then .nx (ρ.set i (.ow ts)) else .bad
theorem YR {i:Nat} {x:Str} {p' :Pos} {es:List Expr} {ga:En->R (List T)} (hN:X.N.Nodup) (hi:X.N[i]? =some x) (hx:L2.Loc X.env.scope x) (ha:Q5 X Y es ga) (hs:swapsWith (.List es p) (some (.Name x p')) pos.line X.env=pure false:=by rfl)
  (hf:X.fn x=true\/X.env.scope.names.lookup x=some .local:=by first | exact .inl rfl | exact .inr rfl | assumption):yU X Y (.Assign [.Name x p'] (.List es p) pos) (Vs i ga):= .mk fun ρ=>
 PS.imp (Vy hN hi hx (K9 (ha ρ)) hs hf) fun D σ H ⟨B,I,q⟩=>uY I q fun ts vs H1 _ s1 r1 I1 q1=>by
  split at q1
  ·rename_i hb
   exact ⟨by rw [r1.length]; exact Jp hb,fun p hp=>q1 _ _ _ (zT.refl _) (I1.newO i hp r1)⟩
  ·exact q1.elim
noncomputable def zX (fa:En->R T):En->RS:=fun ρ=>(fa (frz ρ)).s fun t=> .rt t
theorem zt (ha:Snd X Y a fa):yU X Y (.Return (some a) pos) (zX fa):= .mk fun ρ=>
 PS.imp (K6 (ha (frz ρ))) fun D σ H ⟨B,I,q⟩=>by
  refine ⟨_,I.frz, ?_⟩
  unfold zX at q
  cases e:fa (frz ρ) with
  | bad=>rw [e] at q; exact q
  | ex c=>
   rw [e] at q
   exact fun d H' s0 sG=>q d H' s0 (I.up.trans sG)
  | ok t=>
   rw [e] at q
   intro v H' s r
   have J:=I.frz
   exact q v H' (I.sH.trans s) (r.mono (Kh J.sH J.old s J.sB))
noncomputable def ifS (g:En->R Bool) (f1 f2:En->RS):En->RS:=fun ρ=>(g ρ).s fun k=>if k=true then f1 ρ else f2 ρ
theorem zN {ga:En->R Bool} (hc:qU X Y c ga) (h1:Vr X Y sts f) (h2:Vr X Y sts' g):yU X Y (.If c sts sts' pos) (ifS ga f g):= .mk fun ρ=>
 PS.imp (z1J (hc ρ) (h1 ρ) (h2 ρ)) fun D σ H ⟨B,I,q⟩=>uY I q fun t v H1 _ s1 r1 I1 q1=>by
  have r1' :v=t:=r1
  subst r1'
  cases v with
  | true=>exact ⟨_,I1,q1⟩
  | false=>exact ⟨_,I1,q1⟩
noncomputable def Uv (fa:En->R T):En->RS:=fun ρ=>(fa ρ).s fun _=> .nx ρ
theorem YS (ha:Snd X Y a fa) (hs:swapsWith a none pos.line X.env=pure false:=by rfl):yU X Y (.Expr a pos) (Uv fa):= .mk fun ρ=>
 PS.imp (Q2 (ha ρ) hs) fun D σ H ⟨B,I,q⟩=>uY I q fun t v H1 _ s1 r1 I1 q1=>q1 _ _ _ (zT.refl _) I1
noncomputable def kj (i:Nat) (fa:En->R T):En->RS:=fun ρ=>match ρ[i]? with
 | some (.ow ts)=>(fa ρ).s fun t=>if ts.length < bnd then .nx (ρ.set i (.ow (ts++[t]))) else .bad
 | _=> .bad
noncomputable def XJ (i:Nat) (fa:En->R T):En->RS:=fun ρ=>match ρ[i]? with
 | some (.ow ts)=>(fa ρ).s fun t=>match t with
  | .lst us=>if ts.length+us.length<=bnd then .nx (ρ.set i (.ow (ts++us))) else .bad
  | _=> .bad
 | _=> .bad
theorem z0n {n:Nat} (h:n < bnd):n < sizeLine:=by rw [sizeLine_eq]; exact h
theorem z0o {i:Nat} {x:Str} {px pa:Pos} (hv:PE X (.Name x px) (KI i)) (ha:Snd X Y a fa) (hb:attributeBase (.Name x px) "append" X.env (eval (.Name x px) X.env)=eval (.Name x px) X.env:=by rfl) (hs:St1 X a:=by exact st1 rfl)
  (hz:(pa.endLine == p.line)=true:=by rfl) (hw:swapsWith (.Call (.Attribute (.Name x px) "append" pa) [a] [] p) none pos.line X.env=pure false:=by rfl):yU X Y (.Expr (.Call (.Attribute (.Name x px) "append" pa) [a] [] p) pos) (kj i fa):= .mk fun ρ=>by
 have e1:(((((backTo p (starEach [a] X.env)).all fun x=> !x.fst) && (backToKw p (keywordEach [] X.env)).all fun x=>x.fst.isSome) && decide (([a].length+([]:List Keyword).length+if ([]:List Keyword).isEmpty=true then 0 else 1) < 30))=true):=by rw [hs]; rfl
 refine PS.imp (Q2 (g9 PySem.F.plainAttrs_list PySem.F.slot_list_append PySem.F.type_list_append YG hv (zS (ha ρ) ZW hs) hb e1 hz hs rfl) hw) fun D σ H ⟨B,I,q⟩=> ?_
 unfold kj at q
 split at q
 ·rename_i ts e
  obtain ⟨l,xs,e1,b0,h0,hh,rr,d⟩:=I.ow i ts e
  refine ⟨.ref l,e1, .inl ⟨rfl,_,SqL.of hh⟩, ?_⟩
  refine uY I q fun t v H1 _ s1 r1 I1 q1=> ?_
  split at q1
  ·rename_i hb
   refine ⟨l,xs,v,rfl,rfl,s1 _ _ hh,by rw [rr.length]; exact z0n hb, ?_⟩
   exact q1 _ _ _ (zT.refl _) (I1.chg i e e1 ((rr.mono (Zi.ge I.sB s1)).append (.cons r1 .nil)))
  ·exact q1.elim
 ·exact q.elim
theorem gE {i:Nat} {x:Str} {px pa:Pos} (hv:PE X (.Name x px) (KI i)) (ha:Snd X Y a fa) (hb:attributeBase (.Name x px) "extend" X.env (eval (.Name x px) X.env)=eval (.Name x px) X.env:=by rfl) (hs:St1 X a:=by exact st1 rfl)
  (hz:(pa.endLine == p.line)=true:=by rfl) (hw:swapsWith (.Call (.Attribute (.Name x px) "extend" pa) [a] [] p) none pos.line X.env=pure false:=by rfl):yU X Y (.Expr (.Call (.Attribute (.Name x px) "extend" pa) [a] [] p) pos) (XJ i fa):= .mk fun ρ=>by
 have e1:(((((backTo p (starEach [a] X.env)).all fun x=> !x.fst) && (backToKw p (keywordEach [] X.env)).all fun x=>x.fst.isSome) && decide (([a].length+([]:List Keyword).length+if ([]:List Keyword).isEmpty=true then 0 else 1) < 30))=true):=by rw [hs]; rfl
 refine PS.imp (Q2 (g9 PySem.F.plainAttrs_list PySem.F.slot_list_extend PySem.F.type_list_extend VN hv (zS (ha ρ) ZW hs) hb e1 hz hs rfl) hw) fun D σ H ⟨B,I,q⟩=> ?_
 unfold XJ at q
 split at q
 ·rename_i ts e
  obtain ⟨l,xs,e1,b0,h0,hh,rr,d⟩:=I.ow i ts e
  refine ⟨.ref l,e1, .inl ⟨rfl,_,SqL.of hh⟩, ?_⟩
  refine uY I q fun t v H1 _ s1 r1 I1 q1=> ?_
  cases r1 with
  | @lst b zs us hb r=>
   have q1:PoS Y _ (if ts.length+us.length<=bnd then .nx (ρ.set i (.ow (ts++us))) else .bad) D:=q1
   split at q1
   ·rename_i hl
    refine ⟨l,b,xs,zs,rfl,rfl,s1 _ _ hh,I1.sB _ _ hb,by rw [rr.length,r.length]; exact Jp hl, ?_⟩
    exact q1 _ _ _ (zT.refl _) (I1.chg i e e1 ((rr.mono (Zi.ge I.sB s1)).append r))
   ·exact q1.elim
  | _=>exact q1.elim
 ·exact q.elim
end
end PV
namespace PV
open PySem PySem.Spec PyProof.Rows L2
noncomputable def spP (cl:Nat->Value) (n:Nat) (g:List T->R T):Sp:=fun vs H Q E=>∃ B ts,ts.length=n/\zT B H/\Z2 B vs ts/\Po ⟨B,H,E,cl⟩ rC B H (g ts) Q
theorem spP.len {cl:Nat->Value} {n:Nat} {g:List T->R T} (vs:List V) (H:Hp) (Q:VK) (E:XK) (h:spP cl n g vs H Q E):vs.length=n:=by
 obtain ⟨B,ts,hl,_,r,_⟩:=h
 rw [r.length,hl]
noncomputable def zc (n:Nat) (g:List T->R T) (ga:En->R (List T)):En->R T:=fun ρ=>(ga ρ).bind fun ts=>if ts.length=n then g ts else .bad
section
variable {X:Cx} {Y:Fx} {a b c d:Expr} {fa fb fc fd:En->R T} {pos p:Pos}
theorem Ki {CX:CXT} {k n:Nat} {f:Addr} {fd:FuncData} {ps:List Str} {g:List T->R T} {x:Str} {es:List Expr} {ga:En->R (List T)} (F:j2 X.prog X.w X.K X.mg X.base CX k f fd ps (spP Y.cl n g)) (hr:uW k X.A) (gl:Gl X x) (mg:X.mg x=some (.ref f))
  (kp:PySem.W.keepIn X.K (.ref f)=true) (bd:L2.Binds X.K fd ps []) (hx:Up CX X Y.E) (ha:Q5 X Y (a :: es) ga) (hd:(x == ("__debug__":Str))=false:=by decide)
  (hs:starEach (a :: es) X.env=(false,eval a X.env) :: starEach es X.env:=by exact ZN rfl) (hz:((backTo pos (starEach es X.env)).any fun x=>x.fst)=false:=by exact JC rfl):Snd X Y (.Call (.Name x p) (a :: es) [] pos) (zc n g ga):= .mk fun ρ=>
 PE.imp (KR F hr gl mg kp bd .nil hx (ha ρ) hd hs hz) fun σ H Q ⟨B,I,q⟩=>step I q fun ts vs H1 _ s1 r1 I1 q1=>by
  split at q1
  ·rename_i hn
   rw [List.append_nil]
   refine ⟨_,ts,hn,I1.sB,r1, ?_⟩
   revert q1
   cases g ts with
   | bad=>exact fun q1=>q1
   | ex c=>exact fun q1 d H' s sB=>q1 d H' (I1.sH.trans s) sB
   | ok t=>exact fun q1=>q1
  ·exact q1.elim
end
noncomputable def zu:RS->R T
 | .rt t=> .ok t
 | .rf ts=> .ok (.lst ts)
 | .nx _=> .ok .non
 | .ex c=> .ex c
 | _=> .bad
noncomputable def en0 (n:Nat) (ts:List T):En:=ts.map Sl.vl++List.replicate (n - ts.length) Sl.un
theorem Z2.vl {H:Hp}:∀ {vs:List V} {ts:List T} {i:Nat} {t:T} {n m:Nat},Z2 H vs ts->(ts.map Sl.vl++List.replicate n Sl.un)[i]? =some (Sl.vl t)->∃ v:V,(vs.map some++List.replicate m none)[i]? =some (some v)/\Rep H v t
 | _,_,i,t,n,m, .nil,h=>by
  exfalso
  simp only [List.map_nil,List.nil_append] at h
  rw [List.getElem?_replicate] at h
  split at h
  ·cases h
  ·cases h
 | _,_,0,t,n,m, .cons r _,h=>by
  simp at h; subst h; exact ⟨_,rfl,r⟩
 | _,_,i+1,t,n,m, .cons _ q,h=>by
  obtain ⟨v,h1,h2⟩:=Z2.vl (i:=i) (t:=t) (n:=n) (m:=m) q (by simpa using h)
  exact ⟨v,by simpa using h1,h2⟩
theorem Kj {n:Nat}:∀ {ts:List T} {i:Nat} {us:List T},(ts.map Sl.vl++List.replicate n Sl.un)[i]? =some (Sl.ow us)->False
 | [],i,us,h=>by
  simp only [List.map_nil,List.nil_append] at h
  rw [List.getElem?_replicate] at h
  split at h
  ·cases h
  ·cases h
 | t :: ts,0,us,h=>by simp at h
 | t :: ts,i+1,us,h=>Kj (ts:=ts) (i:=i) (us:=us) (n:=n) (by simpa using h)
theorem Kk {n:Nat}:∀ {ts:List T} {i:Nat} {c:Nat},(ts.map Sl.vl++List.replicate n Sl.un)[i]? =some (Sl.xc c)->False
 | [],i,us,h=>by
  simp only [List.map_nil,List.nil_append] at h
  rw [List.getElem?_replicate] at h
  split at h
  ·cases h
  ·cases h
 | t :: ts,0,us,h=>by simp at h
 | t :: ts,i+1,us,h=>Kk (ts:=ts) (i:=i) (c:=us) (n:=n) (by simpa using h)
theorem SI.start {Y:Fx} {N:List Str} {vs:List V} {ts:List T} (s:zT Y.B0 Y.H0) (r:Z2 Y.B0 vs ts):SI Y Y.B0 (en0 N.length ts) (L2.start N vs) Y.H0 where
 s0:=s
 sH:=zT.refl _
 sB:=s
 old:=fun _ _ _=>rfl
 len:=by unfold en0 L2.start; simp [r.length]
 vl:=fun i t h=>r.vl h
 ow:=fun i ts h=>(Kj h).elim
 xc:=fun i c h=>(Kk h).elim
section
variable {P:Program} {w:World} {K:PySem.W.Frag} {mg:Str->Option Value} {base:Heap}
theorem Zx {cl:Nat->Value} {x qual:Str} {st:Stmt} {f:Addr} {fd:FuncData} {N ps:List Str} {k n:Nat} {fb:En->RS} {g:List T->R T} (F:Fun K x qual st f fd) (S:zr N ps (ze st)) (hn:n=ps.length)
  (hb:∀ (cdv:Value) (A:Around) (outer:List Env) (s:Shared) (H:Hp) (E:XK) (Y:Fx),Y.cl=cl->uW k (A.deeper (envOfC qual (ze st) s.heap.objs.size f cdv))->
   Vr (yc CX0 P w K mg base N qual (ze st) f cdv A outer s H E).nox Y (jY st) fb)
  (hg:∀ ts,ts.length=n->g ts=zu (fb (en0 N.length ts))):j2 P w K mg base CX0 (k+1) f fd ps (spP cl n g):=by
 subst hn
 refine F.ok S spP.len fun cdv A outer s H vs Q E hr ⟨B,ts,hl,sB,r,q⟩=> ?_
 refine ⟨_,hb cdv A outer s H E ⟨B,H,E,cl⟩ rfl hr (en0 N.length ts),B,SI.start (Y:=⟨B,H,E,cl⟩) sB r, ?_⟩
 rw [hg ts hl] at q
 revert q
 cases fb (en0 N.length ts) with
 | rt t=>exact fun q v H' s r=>q v H' s r
 | rf t=>exact fun q a xs H' B' s0 n e r _ l=>q (.ref a) H' s0 (.lst (by rw [jm n]; exact e) (r.mono l))
 | nx ρ=>exact fun q σ' H' B' _ I=>q .non H' I.sH .non
 | ex c=>exact fun q=>q
 | bk ρ=>exact fun q=>q.elim
 | ct ρ=>exact fun q=>q.elim
 | bad=>exact fun q=>q
end
noncomputable abbrev rI:Hp->Hp->It->List T->Prop:=fun B1 _ J ts=>∀ B2 H2,zT B1 B2->zT B2 H2->(∀ i,i < ts.length->J.go i H2)/\(∀ (i:Nat) t x H3,ts[i]? =some t->J.yld i H2 x H3->zT H2 H3/\Rep (Zi B2 H2 H3) x t)/\(∀ i,ts.length<=i->J.stop i H2)
structure Vt (X:Cx) (Y:Fx) (tg iter:Expr) (f:En->R (List T)):Prop where
 mk ::
 go:∀ ρ,PI X tg iter (tS Y rI f ρ)
noncomputable instance {X:Cx} {Y:Fx} {tg iter:Expr} {f:En->R (List T)}:CoeFun (Vt X Y tg iter f) fun _=>∀ ρ,PI X tg iter (tS Y rI f ρ):=⟨Vt.go⟩
section
variable {X:Cx} {Y:Fx} {a b c d tg:Expr} {fa fb fc fd:En->R T} {pos p:Pos}
theorem PI.imp {e:Expr} {t t' :TI} (h:PI X tg e t) (i:∀ σ H Q,t' σ H Q->t σ H Q):PI X tg e t' :=fun pins s σ H Q I q=>h pins s σ H Q I (i σ H Q q)
theorem z0p {K:PySem.W.Frag} {B1 H1:Hp} {a:Addr} {xs:List V} {ts:List T} (h:B1 a=some (.tup xs)) (r:Z2 B1 xs ts):rI B1 H1 (Itt K a) ts:=fun B2 H2 s1 s2=>by
 have h2:=s2 _ _ (s1 _ _ h)
 refine ⟨fun i hi=> ?_,fun i t x H3 e y=> ?_,fun i hi=>⟨xs,SqT.of h2,by rw [r.length]; exact hi⟩⟩
 ·obtain ⟨v,e,_⟩:=r.get (List.getElem?_eq_getElem hi)
  exact ⟨xs,v,SqT.of h2,e⟩
 ·obtain ⟨rfl,y⟩:=y
  obtain ⟨v,e1,r1⟩:=r.get e
  have:=y xs (SqT.of h2)
  rw [e1] at this; cases this
  refine ⟨zT.refl _, ?_⟩
  rw [Zi.self B2 _ s2]
  exact r1.mono s1
theorem z0q {K:PySem.W.Frag} {B1 H1:Hp} {a:Addr} {xs:List V} {ts:List T} (h:B1 a=some (.lst xs)) (r:Z2 B1 xs ts):rI B1 H1 (Itl K a) ts:=fun B2 H2 s1 s2=>by
 have h2:=s2 _ _ (s1 _ _ h)
 refine ⟨fun i hi=> ?_,fun i t x H3 e y=> ?_,fun i hi=>⟨xs,SqL.of h2,by rw [r.length]; exact hi⟩⟩
 ·obtain ⟨v,e,_⟩:=r.get (List.getElem?_eq_getElem hi)
  exact ⟨xs,v,SqL.of h2,e⟩
 ·obtain ⟨rfl,y⟩:=y
  obtain ⟨v,e1,r1⟩:=r.get e
  have:=y xs (SqL.of h2)
  rw [e1] at this; cases this
  refine ⟨zT.refl _, ?_⟩
  rw [Zi.self B2 _ s2]
  exact r1.mono s1
noncomputable def rng (lo:Int) (n:Nat):List T:=(List.range n).map fun (i:Nat)=>T.int (lo+(i:Int))
theorem Kl {B1 H1:Hp} {lo:Int} {n:Nat}:rI B1 H1 (Itr lo n) (rng lo n):=fun B2 H2 s1 s2=>by
 have hl:(rng lo n).length=n:=by unfold rng; simp
 refine ⟨fun i hi=>by rw [hl] at hi; exact hi,fun i t x H3 e y=> ?_,fun i hi=>by rw [hl] at hi; exact hi⟩
 obtain ⟨rfl,rfl⟩:=y
 refine ⟨zT.refl _, ?_⟩
 unfold rng at e
 rw [List.getElem?_map] at e
 by_cases hi:i < n
 ·rw [List.getElem?_range hi] at e
  cases e
  exact .int _
 ·rw [List.getElem?_eq_none (by simp; omega)] at e; cases e
noncomputable def Jz (fa:En->R T):En->R (List T):=fun ρ=>(fa ρ).bind fun t=>match t with
 | .int j=>if -1000000 < j/\j < 1000000 then .ok (rng 0 j.toNat) else .bad
 | _=> .bad
noncomputable def uZ (fa fb:En->R T):En->R (List T):=fun ρ=>(fa ρ).bind fun t=>(fb ρ).bind fun t' =>match t,t' with
 | .int i, .int j=>if -1000000 < i/\i < 1000000/\ -1000000 < j/\j < 1000000 then .ok (rng i (j - i).toNat) else .bad
 | _,_=> .bad
theorem yt (gl:Gl X "range") (mg:X.mg "range"=none) (ha:Snd X Y a fa) (hs:St1 X a:=by exact st1 rfl):Vt X Y tg (.Call (.Name "range" p) [a] [] pos) (Jz fa):= .mk fun ρ=>PI.imp (VA gl mg (zS (ha ρ) ZW hs) hs) fun σ H R ⟨B,I,q⟩=>step I q fun t v H1 _ s1 r1 I1 q1=>by
 cases r1 with
 | int j=>
  have q1:Po Y rI _ H1 (if -1000000 < j/\j < 1000000 then .ok (rng 0 j.toNat) else .bad) R:=q1
  split at q1
  ·rename_i hj
   exact ⟨j,rfl,by omega,by omega,w4 I1 q1 Kl⟩
  ·exact q1.elim
 | _=>exact q1.elim
theorem Km (gl:Gl X "range") (mg:X.mg "range"=none) (ha:Snd X Y a fa) (hb:Snd X Y b fb) (hs:starEach [a,b] X.env=[(false,eval a X.env),(false,eval b X.env)]:=by exact st2 rfl rfl) (hs2:St1 X b:=by exact st1 rfl):Vt X Y tg (.Call (.Name "range" p) [a,b] [] pos) (uZ fa fb):= .mk fun ρ=>
 PI.imp (VB gl mg (zS (ha ρ) (zS (hb ρ) ZW hs2) (by rw [hs,hs2])) hs hs2) fun σ H R ⟨B,I,q⟩=>step I q fun t v H1 _ s1 r1 I1 q1=>step I1 q1 fun t' v' H2 _ s2 r2 I2 q2=>by
  cases r1 with
  | int i=>
   cases r2 with
   | int j=>
    have q2:Po Y rI _ H2 (if -1000000 < i/\i < 1000000/\ -1000000 < j/\j < 1000000 then .ok (rng i (j - i).toNat) else .bad) R:=q2
    split at q2
    ·rename_i hj
     exact ⟨i,j,rfl,⟨by omega,by omega,by omega,by omega⟩,w4 I2 q2 Kl⟩
    ·exact q2.elim
   | _=>exact q2.elim
  | _=>cases r2 <;> exact q2.elim
noncomputable def z1s (X:Cx) (Y:Fx) (tg:Expr) (g:T->En->R En):Prop:=∃ t:TG,PG X tg t/\∀ B ρ σ H v x Q,SI Y B ρ σ H->Rep B v x->(match g x ρ with | .ok ρ' =>∀ σ',SI Y B ρ' σ' H->Q σ' H | _=>False)->t v σ H Q
noncomputable def zD (i:Nat):T->En->R En:=fun t ρ=> .ok (ρ.set i (.vl t))
theorem wA {i:Nat} {x:Str} (hN:X.N.Nodup) (hi:X.N[i]? =some x) (hx:L2.Loc X.env.scope x) (hf:X.fn x=true\/X.env.scope.names.lookup x=some .local:=by first | exact .inl rfl | exact .inr rfl | assumption):z1s X Y (.Name x pos) (zD i):=
 ⟨Yv i,zH hN hi hx hf,fun B ρ σ H v x Q I r q=>q _ (I.setV i r)⟩
noncomputable def jq (i j:Nat):T->En->R En:=fun t ρ=>match t with
 | .tup [x,y]=> .ok ((ρ.set i (.vl x)).set j (.vl y))
 | _=> .bad
theorem z0r {i j:Nat} {x y:Str} {p' p2:Pos} {k:Nat} (hc:X.calm=true) (hN:X.N.Nodup) (hi:X.N[i]? =some x) (hj:X.N[j]? =some y) (hx:L2.Loc X.env.scope x) (hy:L2.Loc X.env.scope y)
  (hf:X.fn x=true\/X.env.scope.names.lookup x=some .local:=by first | exact .inl rfl | exact .inr rfl | assumption) (hf' :X.fn y=true\/X.env.scope.names.lookup y=some .local:=by first | exact .inl rfl | exact .inr rfl | assumption):
  z1s X Y (.Tuple [.Name x pos, .Name y p'] k p2) (jq i j):=by
 refine ⟨z1L X.K 2 (Vx (Yv i) (Vx (Yv j) z1K)),Yw hc (jI (zH hN hi hx hf) (jI (zH hN hj hy hf') Uo)),fun B ρ σ H v t Q I r q=> ?_⟩
 cases r with
 | @tup l xs ts h r=>
  cases r with
  | nil=>exact q.elim
  | cons r1 rr=>
   cases rr with
   | nil=>exact q.elim
   | cons r2 rr=>
    cases rr with
    | cons _ _=>exact q.elim
    | nil=>
     exact ⟨l,_,rfl,SqT.of (I.sB _ _ h),rfl,_,_,rfl,_,_,rfl,rfl,q _ ((I.setV i r1).setV j r2)⟩
 | _=>exact q.elim
noncomputable def JA (g:T->En->R En) (fb:En->RS):List T->En->RS
 | [],ρ=> .nx ρ
 | t :: ts,ρ=>match g t ρ with
  | .ok ρ1=>match fb ρ1 with
   | .nx ρ2=>JA g fb ts ρ2
   | .ct ρ2=>JA g fb ts ρ2
   | .bk ρ2=> .nx ρ2
   | r=>r
  | .ex c=> .bad
  | .bad=> .bad
noncomputable def Wc (fi:En->R (List T)) (g:T->En->R En) (fb:En->RS):En->RS:=fun ρ=>(fi ρ).s fun ts=>JA g fb ts ρ
theorem U0 {iter:Expr} {sts:List Stmt} {fi:En->R (List T)} {g:T->En->R En} {fb:En->RS} (hp:PassesOwn (model X.prog X.w) X.A X.env X.xe) (hc:X.calm=true) (hi:Vt X Y tg iter fi) (hg:z1s X Y tg g) (hb:Vr X Y sts fb)
  (hs:∀ x,foldedSetIterable iter X.env x=pure x:=by intro _; rfl):yU X Y (.For tg iter sts [] pos) (Wc fi g fb):= .mk fun ρ=>by
 obtain ⟨tG,hG,hG'⟩:=hg
 refine PS.imp (GZ (tb:=fun D σ H=>∃ ρ',tSS Y fb ρ' D σ H) hp hc (hi ρ) hG (fun pins s σ H D I ⟨ρ',q⟩=>hb ρ' pins s σ H D I q) hs) fun D σ H ⟨B,I,q⟩=> ?_
 refine uY I q fun ts J H1 _ s1 r1 I1 q1=> ?_
 refine ⟨fun i m σ' H' =>m=ts.length - i/\i<=ts.length/\∃ ρ' B',SI Y B' ρ' σ' H' /\zT (Zi B H H1) B' /\PoS Y B' (JA g fb (ts.drop i) ρ') D,⟨ts.length,by simp,Nat.zero_le _,ρ,_,I1,zT.refl _,q1⟩, ?_⟩
 rintro i m σ' H' ⟨rfl,hi,ρ',B',I',sB',q'⟩
 obtain ⟨hgo,hyld,hstop⟩:=r1 B' H' sB' I'.sB
 by_cases hlt:i < ts.length
 ·refine .inr ⟨hgo i hlt,fun σ2 H2=>∃ ρ2 B2,SI Y B2 ρ2 σ2 H2/\zT (Zi B H H1) B2/\PoS Y B2 (JA g fb (ts.drop (i+1)) ρ2) D,fun σ2 H2 ⟨ρ2,B2,I2,s2,q2⟩=>⟨ts.length - (i+1),by omega,rfl,hlt,ρ2,B2,I2,s2,q2⟩,fun x H2 y=> ?_⟩
  obtain ⟨s2,r2⟩:=hyld i _ x H2 (List.getElem?_eq_getElem hlt) y
  rw [List.drop_eq_getElem_cons hlt] at q'
  unfold JA at q'
  refine hG' _ ρ' σ' H2 x _ _ (I'.grow s2) r2 ?_
  cases eg:g ts[i] ρ' with
  | bad=>rw [eg] at q'; exact q'
  | ex c=>rw [eg] at q'; exact q'
  | ok ρ1=>
   rw [eg] at q'
   intro σ1 J1
   refine ⟨ρ1,_,J1, ?_⟩
   have q2:=PoS.up (Zi.ge I'.sB s2) q'
   dsimp only at q2
   have s3:zT (Zi B H H1) (Zi B' H' H2):=sB'.trans (Zi.ge I'.sB s2)
   revert q2
   cases fb ρ1 with
   | nx ρ2=>exact fun q2 σ3 H3 B3 s4 I3=>⟨ρ2,B3,I3,s3.trans s4,PoS.up s4 q2⟩
   | ct ρ2=>exact fun q2 σ3 H3 B3 s4 I3=>⟨ρ2,B3,I3,s3.trans s4,PoS.up s4 q2⟩
   | bk ρ2=>exact fun q2=>q2
   | rt t=>exact fun q2=>q2
   | rf t=>exact fun q2=>q2
   | ex c=>exact fun q2=>q2
   | bad=>exact fun q2=>q2
 ·have e:i=ts.length:=by omega
  subst e
  rw [List.drop_length] at q'
  exact .inl ⟨hstop _ (Nat.le_refl _),q' σ' H' B' (zT.refl _) I'⟩
noncomputable def wb (g:En->R Bool) (fb:En->RS):Nat->En->RS
 | 0,_=> .bad
 | n+1,ρ=>(g ρ).s fun k=>if k=true then match fb ρ with
   | .nx ρ2=>wb g fb n ρ2
   | .ct ρ2=>wb g fb n ρ2
   | .bk ρ2=> .nx ρ2
   | r=>r
  else .nx ρ
theorem gF {n:Nat} {sts:List Stmt} {ga:En->R Bool} {fb:En->RS} (hp:PassesOwn (model X.prog X.w) X.A X.env X.xe) (hc:qU X Y c ga) (hb:Vr X Y sts fb):yU X Y (.While c sts [] pos) (wb ga fb n):= .mk fun ρ=>by
 refine PS.imp (XV (tc:=fun σ H Q=>∃ ρ',tS Y rE ga ρ' σ H Q) (tb:=fun D σ H=>∃ ρ',tSS Y fb ρ' D σ H) hp (fun pins s σ H D I ⟨ρ',q⟩=>hc ρ' pins s σ H D I q) (fun pins s σ H D I ⟨ρ',q⟩=>hb ρ' pins s σ H D I q)) fun D σ H ⟨B,I,q⟩=> ?_
 refine ⟨fun m σ' H' =>∃ ρ' B',SI Y B' ρ' σ' H' /\PoS Y B' (wb ga fb m ρ') D,⟨n,ρ,B,I,q⟩, ?_⟩
 rintro m σ' H' ⟨ρ',B',I',q'⟩
 cases m with
 | zero=>exact q'.elim
 | succ m=>
  unfold wb at q'
  refine ⟨ρ',uY I' q' fun t v H1 _ s1 r1 I1 q1=> ?_⟩
  have r1' :v=t:=r1
  subst r1'
  cases v with
  | false=>exact q1 _ _ _ (zT.refl _) I1
  | true=>
   refine ⟨fun σ2 H2=>∃ ρ2 B2,SI Y B2 ρ2 σ2 H2/\PoS Y B2 (wb ga fb m ρ2) D,fun σ2 H2 h=>⟨m,Nat.lt_succ_self m,h⟩,ρ',_,I1, ?_⟩
   have q1:PoS Y _ (match fb ρ' with
    | .nx ρ2=>wb ga fb m ρ2
    | .ct ρ2=>wb ga fb m ρ2
    | .bk ρ2=> .nx ρ2
    | r=>r) D:=q1
   revert q1
   cases fb ρ' with
   | nx ρ2=>exact fun q2 σ3 H3 B3 s4 I3=>⟨ρ2,B3,I3,PoS.up s4 q2⟩
   | ct ρ2=>exact fun q2 σ3 H3 B3 s4 I3=>⟨ρ2,B3,I3,PoS.up s4 q2⟩
   | bk ρ2=>exact fun q2=>q2
   | rt t=>exact fun q2=>q2
   | rf t=>exact fun q2=>q2
   | ex c=>exact fun q2=>q2
   | bad=>exact fun q2=>q2
end
end PV
namespace PV
open PySem PySem.Spec PyProof.Rows L2
theorem Uw {env:Env}:∀ (ns:List (Str×NameKind)) (acc:List (Str×Addr)),(∀ x∈ns,x.2=NameKind.free->∃ c,env.cells.lookup x.1=some c)->(∀ x c,acc.lookup x=some c->env.cells.lookup x=some c)->
  ∃ cl,(forIn ns acc (fun (x:Str×NameKind) (r:List (Str×Addr))=>if (x.2 == NameKind.free)=true then (do let c ← cellOf env x.1; pure (ForInStep.yield ((x.1,c) :: r))) else pure (ForInStep.yield r)):Sem _)=pure cl/\
   (∀ x c,cl.lookup x=some c->env.cells.lookup x=some c)/\(∀ x c,acc.lookup x=some c->∃ c',cl.lookup x=some c')/\(∀ x∈ns,x.2=NameKind.free->∃ c,cl.lookup x.1=some c)
 | [],acc,_,h=>⟨acc,rfl,h,fun x c e=>⟨c,e⟩,fun x hx=>by simp at hx⟩
 | (n,k) :: ns,acc,hf,h=>by
  by_cases hk:k=NameKind.free
  ·obtain ⟨c,hc⟩:=hf (n,k) List.mem_cons_self hk
   have h' :∀ x d,((n,c) :: acc).lookup x=some d->env.cells.lookup x=some d:=fun x d e=>by
    by_cases hx:x=n
    ·subst hx
     have e' :some c=some d:=by simpa [List.lookup_cons] using e
     cases e'; exact hc
    ·have e' :acc.lookup x=some d:=by
      rw [List.lookup_cons,(beq_eq_false_iff_ne.mpr hx)] at e; exact e
     exact h x d e'
   obtain ⟨cl,e,h1,h2,h3⟩:=Uw ns ((n,c) :: acc) (fun x hx=>hf x (List.mem_cons_of_mem _ hx)) h'
   refine ⟨cl, ?_,h1,fun x d ed=> ?_,fun x hx hxf=> ?_⟩
   ·rw [List.forIn_cons]
    subst hk
    have q:cellOf env n=pure c:=by unfold cellOf; rw [hc]
    simp only [beq_self_eq_true,if_true,q]
    exact e
   ·by_cases hx:x=n
    ·subst hx; exact h2 x c (by simp [List.lookup_cons])
    ·exact h2 x d (by rw [List.lookup_cons,(beq_eq_false_iff_ne.mpr hx)]; exact ed)
   ·rcases List.mem_cons.mp hx with rfl | hx
    ·exact h2 n c (by simp [List.lookup_cons])
    ·exact h3 x hx hxf
  ·obtain ⟨cl,e,h1,h2,h3⟩:=Uw ns acc (fun x hx=>hf x (List.mem_cons_of_mem _ hx)) h
   refine ⟨cl, ?_,h1,h2,fun x hx hxf=> ?_⟩
   ·rw [List.forIn_cons]
    have q:(k == NameKind.free)=false:=by simpa using hk
    simp only [q,Bool.false_eq_true,if_false]
    exact e
   ·rcases List.mem_cons.mp hx with rfl | hx
    ·exact absurd hxf hk
    ·exact h3 x hx hxf
theorem gG {scope:Scope} {env:Env} (hf:∀ x∈scope.names,x.2=NameKind.free->∃ c,env.cells.lookup x.1=some c):
  ∃ cl,closureFor scope env=pure cl/\(∀ x c,cl.lookup x=some c->env.cells.lookup x=some c)/\(∀ x∈scope.names,x.2=NameKind.free->∃ c,cl.lookup x.1=some c):=by
 obtain ⟨cl,e,h1,_,h3⟩:=Uw scope.names [] hf (fun x c e=>by simp at e)
 refine ⟨cl, ?_,h1,h3⟩
 unfold closureFor
 show (do let cs ← _; pure cs)=_
 exact (by simpa using e)
noncomputable def cxC (X:Cx) (scope:Scope) (N' :List Str) (cl:List (Str×Addr)) (C:Addr) (s3:Shared) (H3:Hp) (fp:List Addr) (pins:List (Addr×Obj)):Cx:=
 { X with N:=N',s₀:=s3,H₀:=H3,env:=compEnvC scope cl C X.env,outer:=X.stack,stack:=X.stack,ex:=fp,fn:=fun _=>false,pn:=X.pn++pins,xe:=fun _ _=>False }
structure CSc (X:Cx) (scope:Scope):Prop where
 kind:scope.kind= .function
 nocell:∀ x∈scope.names,x.2 ≠ .cell
 loc:∀ x∈scope.names,x.2= .local->scope.names.lookup x.1=some .local
 fre:∀ x∈scope.names,x.2= .free->X.env.kindOf x.1=some .cell\/X.env.kindOf x.1=some .free
theorem WN {scope:Scope} {env:Env} {x:Str} {k:NameKind} (h:(relabel scope env).names.lookup x=some k) (hk:k= .cell\/k= .free) (hn:∀ x∈scope.names,x.2 ≠ NameKind.cell):∃ y∈scope.names,y.1=x/\y.2= .free:=by
 have go:∀ ns:List (Str×NameKind),(∀ x∈ns,x.2 ≠ NameKind.cell)->(ns.map fun (n,k)=>if (k == NameKind.free && env.scope.kind == .function && env.kindOf n == some .cell) then (n,NameKind.cell) else (n,k)).lookup x=some k->∃ y∈ns,y.1=x/\y.2= .free:=by
  intro ns
  induction ns with
  | nil=>intro _ h; simp at h
  | cons y ns ih=>
   intro hn h
   obtain ⟨n,k'⟩:=y
   by_cases hx:x=n
   ·subst hx
    refine ⟨(x,k'),List.mem_cons_self,rfl, ?_⟩
    rw [List.map_cons] at h
    by_cases hc:(k' == NameKind.free && env.scope.kind == .function && env.kindOf x == some .cell)=true
    ·rw [Bool.and_eq_true,Bool.and_eq_true] at hc
     exact eq_of_beq hc.1.1
    ·simp only [if_neg hc,List.lookup_cons,beq_self_eq_true] at h
     cases h
     rcases hk with rfl | rfl
     ·exact absurd rfl (hn _ List.mem_cons_self)
     ·rfl
   ·obtain ⟨z,hz,h1,h2⟩:=ih (fun z hz=>hn z (List.mem_cons_of_mem _ hz)) (by
     rw [List.map_cons] at h
     by_cases hc:(k' == NameKind.free && env.scope.kind == .function && env.kindOf n == some .cell)=true
     ·simp only [if_pos hc,List.lookup_cons,(beq_eq_false_iff_ne.mpr hx)] at h; exact h
     ·simp only [if_neg hc,List.lookup_cons,(beq_eq_false_iff_ne.mpr hx)] at h; exact h)
    exact ⟨z,List.mem_cons_of_mem _ hz,h1,h2⟩
 exact go scope.names hn h
section
variable {X:Cx} {pins:List (Addr×Obj)} {σ:Sg} {H:Hp} {s:Shared}
theorem xj {scope:Scope} {N' :List Str} {cl:List (Str×Addr)} {fp:List Addr} {h' :Heap} {tk:Nat} {σ' :Sg} (I:L2.Inv X pins σ H s) (S:CSc X scope) (hc:X.calm=true)
  (hcl:∀ x c,cl.lookup x=some c->X.env.cells.lookup x=some c) (hcf:∀ x∈scope.names,x.2=NameKind.free->∃ c,cl.lookup x.1=some c)
  (hfp:∀ b∈fp,Yx X pins H b) (hfo:∀ b∈fp,∃ o,s.heap.get? b=some o)
  (hns:h'.Ns s.heap.objs.size (fun _=>none)) (hk:∀ b o,s.heap.get? b=some o->h'.get? b=some o)
  (hl:σ'.length=N'.length) (hσ:∀ (i:Nat) (x:Str) (v:V),N'[i]? =some x->σ'[i]? =some (some v)->∃ j:Nat,X.N[j]? =some x/\σ[j]? =some (some v)/\Vis X.env.scope x/\(scope.names.lookup x=some .free)/\(X.env.kindOf x=some .cell\/X.env.kindOf x=some .free)):
  L2.Inv (cxC X scope N' cl s.heap.objs.size s H fp pins) [] σ' H { s with heap:=h',toks:=tk }:=by
 have stk:=I.stkSub
 have hlt:∀ b∈fp,b < s.heap.objs.size:=fun b hb=>let ⟨o,e⟩:=hfo b hb; Heap.lt_size e
 have fresh:H s.heap.objs.size=none:=I.hok.fresh (Nat.le_refl _)
 refine ⟨⟨I.ok.mod,S.kind,I.ok.glob,I.ok.blt,Nat.le_refl _,fun x y c h1 h2=>I.ok.inj x y c (hcl _ _ h1) (hcl _ _ h2),fun x hx=> ?_,fun x c h _=>(Bool.false_ne_true h).elim,fun _=>I.ok.hd hc,I.ok.frames, .inl rfl,fun b hb=> ?_,I.bs,
   Nat.le_trans I.ok.bsz I.sz,fun b o e hb=> ?_,fun b hb hb' => ?_,I.stack,I.stkFree⟩,rfl,I.bare,Un.kept hk,⟨_,hns,fun i x v h1 h2 h3=> ?_⟩,fun x c e=> ?_,fresh,fun x c e=>I.freeC x c (hcl _ _ e),fun p hp=> ?_,I.hok.kept hk,hl⟩
 ·have hx' :(relabel scope X.env).names.lookup x=some .cell\/(relabel scope X.env).names.lookup x=some .free:=hx
  obtain ⟨y,hy,rfl,hyf⟩:∃ y∈scope.names,y.1=x/\y.2= .free:=by
   rcases hx' with h | h
   ·exact WN h (.inl rfl) S.nocell
   ·exact WN h (.inr rfl) S.nocell
  exact hcf y hy hyf
 ·refine ⟨Nat.ne_of_lt (hlt b hb),fun x c e=>(hfp b hb).2.2.2.2.1 x c (hcl _ _ e)⟩
 ·rcases (hfp b hb).2.2.2.1 with h | h
  ·exact I.ok.noex b o e h
  ·exact absurd (Nat.lt_of_lt_of_le (Heap.lt_size e) (Nat.le_trans I.ok.bsz h)) (Nat.lt_irrefl _)
 ·have q:=hfp b hb
  rcases List.mem_cons.mp (stk b hb') with z | z
  ·exact q.2.1 z
  ·exact q.2.2.1 z
 ·obtain ⟨j,e1,e2,e3,e4,e5⟩:=hσ i x v h1 h2
  obtain ⟨m,hn,hloc⟩:=I.loc
  obtain ⟨u,ru,lk⟩:=hloc j x v e1 e2 e3
  refine ⟨u,ru, .inr ⟨?_, ?_⟩⟩
  ·have h3:Vis (relabel scope X.env) x:=h3
   rcases h3 with h | h | h
   ·exfalso
    have:∀ ns:List (Str×NameKind),ns.lookup x=some .free->(ns.map fun (n,k)=>if (k == NameKind.free && X.env.scope.kind == .function && X.env.kindOf n == some .cell) then (n,NameKind.cell) else (n,k)).lookup x ≠ some .local:=by
     intro ns
     induction ns with
     | nil=>intro z; simp at z
     | cons y ns ih=>
      obtain ⟨n,k⟩:=y
      intro z w
      rw [List.map_cons] at w
      by_cases hx:x=n
      ·subst hx
       have hkf:some k=some NameKind.free:=by simpa [List.lookup_cons] using z
       by_cases hcn:(k == NameKind.free && X.env.scope.kind == .function && X.env.kindOf x == some .cell)=true
       ·simp only [if_pos hcn,List.lookup_cons,beq_self_eq_true] at w; cases w
       ·simp only [if_neg hcn,List.lookup_cons,beq_self_eq_true] at w
        rw [hkf] at w; cases w
      ·have z' :ns.lookup x=some .free:=by rw [List.lookup_cons,(beq_eq_false_iff_ne.mpr hx)] at z; exact z
       refine ih z' ?_
       by_cases hcn:(k == NameKind.free && X.env.scope.kind == .function && X.env.kindOf n == some .cell)=true
       ·simp only [if_pos hcn,List.lookup_cons,(beq_eq_false_iff_ne.mpr hx)] at w; exact w
       ·simp only [if_neg hcn,List.lookup_cons,(beq_eq_false_iff_ne.mpr hx)] at w; exact w
    exact this _ e4 h
   ·exact .inl h
   ·exact .inr h
  ·rcases lk with ⟨hk',_⟩ | ⟨_,c,hc',hcell⟩
   ·rcases e5 with z | z <;> (rw [z] at hk'; cases hk')
   ·obtain ⟨c',hc2⟩:=hcf (x, .free) (PySem.mem_of_lookup e4) rfl
    have:=hcl x c' hc2
    rw [hc'] at this; cases this
    obtain ⟨o,eo,ed⟩:=hcell
    exact ⟨c,hc2,o,hk _ _ eo,ed⟩
 ·obtain ⟨v,o,eo,ed⟩:=I.cell x c (hcl _ _ e)
  exact ⟨v,o,hk _ _ eo,ed⟩
 ·have hp' :p∈X.pn++pins:=by
   have:p∈(X.pn++pins)++[]:=hp
   rwa [List.append_nil] at this
  obtain ⟨e,n,ne,nf,dc⟩:=I.pin p hp'
  refine ⟨hk _ _ e,n,Nat.ne_of_lt (Heap.lt_size e),fun hb=> ?_,dc⟩
  rcases List.mem_cons.mp (stk _ hb) with z | z
  ·exact ne z
  ·exact nf z
end
end PV
namespace PV
open PySem PySem.Spec PyProof.Rows L2
noncomputable def PIf (X:Cx) (ifs:List Expr) (t:TT):Prop:=
 ∀ (pins:List (Addr×Obj)) (s:Shared) (σ:Sg) (H:Hp) (Q:Bool->Hp->Prop),L2.Inv X pins σ H s->t σ H Q->
  wpAny (model X.prog X.w) X.A (forIn ifs true fun c r=>if r=true then do let ok ← isTrue c X.env (eval c X.env); pure (ForInStep.yield ok) else pure (ForInStep.yield r)) (TP X pins σ Q) X.xe s
theorem gH {X:Cx}:PIf X [] (fun _ H Q=>Q true H):=fun _ _ σ H _ I h=>wpAny_tests_nil ⟨H,I,h⟩
theorem gI {X:Cx} {c:Expr} {t:TT} (h:PT X c t):PIf X [c] t:=fun pins s σ H Q I q=>wpAny_tests_one (h pins s σ H Q I q)
theorem yV {α:Type} {M:Model} {A:Around} {m:Sem α} {Q:α->Shared->Prop} {E E' :Value->Shared->Prop} {s:Shared} (hE:E' =fun _ _=>False) (h:wpAny M A m Q E' s):wpAny M A m Q E s:=wpAny_mono h (fun _ _ q=>q) fun e s' z=>by
 rw [hE] at z; exact z.elim
noncomputable def gJ (J:It) (D:Addr) (g:TG) (tt:TT) (te:TE) (fin:Sg->Hp->Prop) (W:Nat->Nat->List V->Sg->Hp->Prop):Prop:=
 ∀ i m ys σ H,W i m ys σ H->H D=some (.lst ys)/\((J.stop i H/\fin σ H)\/(J.go i H/\∀ x H2,J.yld i H x H2->g x σ H2 fun σ3 H3=>tt σ3 H3 fun k H4=>
  if k=true then te σ3 H4 fun v H5=>H5 D=some (.lst ys)/\ys.length < sizeLine/\∃ m',m' < m/\W (i+1) m' (ys++[v]) σ3 (upd H5 D (.lst (ys++[v]))) else ∃ m',m' < m/\W (i+1) m' ys σ3 H4))
theorem xk {X:Cx} (hx:X.xe=fun _ _=>False) (hc:X.calm=true) {tg iter elt:Expr} {ifs:List Expr} {scope:Scope} {pos:Pos} {J:It} {fp:List Addr} {it:Addr} {tn:Nat->Heap->Prop} (TJ:Vp X.prog X.w X.K tg J fp it tn)
  {g:TG} {tt:TT} {te:TE} (hg:PG X tg g) (ht:PIf X ifs tt) (he:PE X elt te) {D:Addr} {R:Result->Shared->Prop} {fin:Sg->Hp->Prop} (W:Nat->Nat->List V->Sg->Hp->Prop) (turn:gJ J D g tt te fin W)
  (hR:∀ s σ H,L2.Inv X [] σ H s->fin σ H->R (.ok .next) s) {m0:Nat} {σ0:Sg} {H0:Hp} {s0:Shared} (w0:W 0 m0 [] σ0 H0) (I0:L2.Inv X [] σ0 H0 s0) (t0:tn 0 s0.heap) (f0:∀ b∈fp,Yx X [] H0 b):
  codeAny (model X.prog X.w) X.A (.compLoop (.ListComp elt [⟨tg,iter,ifs,0⟩] scope pos) 0 (.ref it) (.ref D) X.env) R s0:=by
 have stat:∀ {H' :Hp},(∀ b∈fp,H' b=none)->∀ b∈fp,Yx X [] H' b:=fun hn b hb=>⟨hn b hb,(f0 b hb).2⟩
 refine codeAny_loop rfl (fun n s' =>∃ i ys σ' H',L2.Inv X [] σ' H' s' /\tn i s'.heap/\(∀ b∈fp,H' b=none)/\W i n ys σ' H') (fun n s3 h3=> ?_) m0 ⟨0,[],σ0,H0,I0,t0,fun b hb=>(f0 b hb).1,w0⟩
 obtain ⟨i,ys,σ3,H3,I3,st3,fr3,w3⟩:=h3
 show wpAny _ X.A ((compTurn (.ListComp elt [⟨tg,iter,ifs,0⟩] scope pos) 0 (.ref it) (.ref D) X.env).onRaise (fun x=>do noteFrame x X.env; theTreesLotGoes x)) _ _ s3
 refine wpAny_noted ?_
 rw [compTurn_list]
 obtain ⟨hD,h⟩:=turn i n ys σ3 H3 w3
 rcases h with ⟨stop,qn⟩ | ⟨go,next⟩
 ·refine wpAny_bind (wpAny_standAt (wpAny_bind (thn (TJ.done X rfl rfl rfl hc i [] s3 σ3 H3 _ I3 (stat fr3) st3 stop) fun r s4 ⟨hr,I4⟩=> ?_)))
  subst hr
  exact wpAny_pure (hR s4 σ3 H3 I4 qn)
 ·refine wpAny_bind (wpAny_standAt (wpAny_bind (thn (TJ.item X rfl rfl rfl hc i [] s3 σ3 H3 _ I3 (stat fr3) st3 go) fun r s4 ⟨u,hr,h4⟩=> ?_)))
  subst hr
  refine wpAny_bind (thn h4 fun _ s5 ⟨x,H5,I5,r5,y5,st5,fr5⟩=> ?_)
  have I5' :=I5.pinned (stat fr5) (TJ.obj _ _ st5)
  refine wpAny_bind (yV hx (thn (hg _ s5 σ3 H5 x u _ I5' r5 (next x H5 y5)) fun _ s6 ⟨σ6,H6,I6,q6⟩=> ?_))
  have again:∀ {σ7:Sg} {H7:Hp} {s7:Shared} {ys' :List V},L2.Inv X ([]++Yy fp s5.heap) σ7 H7 s7->(∃ m',m' < n/\W (i+1) m' ys' σ7 H7)->∃ m,m < n/\∃ i ys σ' H',L2.Inv X [] σ' H' s7/\tn i s7.heap/\(∀ b∈fp,H' b=none)/\W i m ys σ' H' :=fun {σ7 H7 s7 ys'} I7 ⟨m',hm,w7⟩=>by
   refine ⟨m',hm,i+1,ys',σ7,H7,I7.unpinned,TJ.keep _ _ _ st5 fun b hb o e=>(I7.pin (b,o) (List.mem_append_right _ (List.mem_append_right _ (Wb hb e)))).1,fun b hb=> ?_,w7⟩
   obtain ⟨o,e,d⟩:=TJ.obj _ _ st5 b hb
   exact (I7.pin (b,o) (List.mem_append_right _ (List.mem_append_right _ (Wb hb e)))).2.1
  refine wpAny_bind (yV hx (thn (ht _ s6 σ6 H6 _ I6 q6) fun k s7 ⟨H7,I7,q7⟩=> ?_))
  cases k with
  | false=>exact wpAny_pure ⟨rfl,again I7 q7⟩
  | true=>
   refine wpAny_bind (wpAny_bind (yV hx (thn (he _ s7 σ6 H7 _ I7 q7) fun v s8 ⟨y,H8,I8,r8,hD8,hlen,q8⟩=> ?_)))
   refine wpAny_bind (yV hx (thn (YG _ s8 σ6 H8 (.ref D) [y] (.ref D) [v] (fun _ H9=>∃ m',m' < n/\W (i+1) m' (ys++[y]) σ6 H9) I8 rfl (.cons r8 .nil) ⟨D,ys,y,rfl,rfl,hD8,hlen,q8⟩) fun w s9 ⟨_,H9,I9,_,q9⟩=> ?_))
   exact wpAny_pure (wpAny_pure ⟨rfl,again I9 q9⟩)
noncomputable def Kn (k:Nat) (js:List Nat) (σ:Sg):Sg:=List.replicate k none++js.map fun j=>(σ[j]?).getD none
section
variable {X:Cx}
noncomputable abbrev kl (X:Cx) (scope:Scope) (N' :List Str) (P:Cx->Prop):Prop:=∀ cl C s3 H3 fp pins,P (cxC X scope N' cl C s3 H3 fp pins)
structure z27 (X:Cx) (scope:Scope) (N' :List Str) (k:Nat) (js:List Nat):Prop where
 len:N'.length=k+js.length
 cap:∀ (i j:Nat),js[i]? =some j->∃ x,N'[k+i]? =some x/\X.N[j]? =some x/\Vis X.env.scope x/\scope.names.lookup x=some .free/\(X.env.kindOf x=some .cell\/X.env.kindOf x=some .free)
theorem yW {tg iter elt:Expr} {ifs:List Expr} {scope:Scope} {pos pos' :Pos} {N' :List Str} {k:Nat} {js:List Nat} {wi:TI} {g:TG} {tt:TT} {te:TE} {use:Option (Value->Sem Unit)} (S:CSc X scope) (CP:z27 X scope N' k js) (hc:X.calm=true)
  (hi:PI X tg iter wi) (hg:kl X scope N' fun XC=>PG XC tg g) (ht:kl X scope N' fun XC=>PIf XC ifs tt) (he:kl X scope N' fun XC=>PE XC elt te) {pins:List (Addr×Obj)} {σ:Sg} {H:Hp} {s:Shared} {Q:Value->Shared->Prop} {F:Addr->Hp->Prop} (I:L2.Inv X pins σ H s)
  (h:wi σ H fun J H1=>∀ D,H1 D=none->∃ W,(∃ m,W 0 m [] (Kn k js σ) (upd H1 D (.lst [])))/\gJ J D g tt te (fun _ H' =>F D H') W)
  (hQ:∀ D C H' s',L2.Inv X pins σ H' s' ->F D H' ->H' C=none->(X.s₀.heap.objs.size<=C)->C ≠ X.env.locals->(∀ x c,X.env.cells.lookup x=some c->c ≠ C)->(∀ p∈X.pn++pins,p.1 ≠ C)->(∃ m,s'.heap.Ns C m)->compPost (model X.prog X.w) X.A X.xe use Q (.ref D) C (.ok .next) s')
  (hs:∀ x,foldedSetIterable iter X.env x=pure x:=by intro _; rfl):
  wpAny (model X.prog X.w) X.A (comprehension (.ListComp elt [⟨tg,iter,ifs,0⟩] scope pos) scope X.env pos' (newList []) false (eval iter X.env) use) Q X.xe s:=by
 obtain ⟨cl,ecl,hcl,hcf⟩:=gG (scope:=scope) (env:=X.env) fun x hx hf=>I.ok.has x.1 (S.fre x hx hf)
 refine wpAny_comprehension_free rfl hs ecl S.kind S.loc ?_
 refine thn (hi pins s σ H _ I h) fun v s1 h1=>thn h1 fun itv s2 h2=> ?_
 obtain ⟨it,fp,tn,J,H2,e,I2,TJ,st2,f2,q2⟩:=h2
 subst e
 refine wpAny_newObj_type ?_
 have hD:H2 s2.heap.objs.size=none:=I2.hok.fresh (Nat.le_refl _)
 have I3:L2.Inv X pins σ (upd H2 s2.heap.objs.size (.lst [])) { s2 with heap:=s2.heap.push { cls:= .type "list",data:= .seq ([]:List Value).toArray } }:=
  I2.laid (t' :=s2.toks) (fun b u e=>Heap.get?_push_of_some _ e) (Nat.le_refl _) ⟨Nat.zero_le _,[],_, .nil,Heap.get?_push_size _ rfl⟩
 obtain ⟨W,⟨m0,w0⟩,turn⟩:=q2 s2.heap.objs.size hD
 have f3:∀ b∈fp,Yx X pins (upd H2 s2.heap.objs.size (.lst [])) b:=fun b hb=>by
  obtain ⟨o,eo,_⟩:=TJ.obj _ _ st2 b hb
  exact ⟨by rw [zW (Nat.ne_of_lt (Heap.lt_size eo))]; exact (f2 b hb).1,(f2 b hb).2⟩
 have o3:∀ b∈fp,∃ o,(s2.heap.push { cls:= .type "list",data:= .seq ([]:List Value).toArray }).get? b=some o:=fun b hb=>by
  obtain ⟨o,eo,_⟩:=TJ.obj _ _ st2 b hb
  exact ⟨o,Heap.get?_push_of_some _ eo⟩
 refine wpAny_newFunctionEnv S.nocell (by intro y hy; simp at hy) (fun h4 hns4 hsb4=> ?_) S.kind
 generalize hG:s2.heap.push { cls:= .type "list",data:= .seq ([]:List Value).toArray }=G3 at I3 o3 hns4 hsb4 ⊢
 dsimp only at hns4 hsb4 ⊢
 have s3e:∃ s3:Shared,s3={ s2 with heap:=G3 }:=⟨_,rfl⟩
 obtain ⟨s3,es3⟩:=s3e
 have hh3:s3.heap=s2.heap.push { cls:= .type "list",data:= .seq ([]:List Value).toArray }:=by rw [es3,hG]
 have hg3:G3=s3.heap:=by rw [es3]
 rw [← es3] at I3
 have ht3:s2.toks=s3.toks:=by rw [es3]
 rw [hg3] at hns4 hsb4 o3
 have k4:∀ b o,s3.heap.get? b=some o->h4.get? b=some o:=fun b o e=>hsb4.extBut b o (Nat.ne_of_lt (Heap.lt_size e)) (Heap.get?_push_of_some _ e)
 have IC:=xj (N' :=N') (cl:=cl) (fp:=fp) (σ' :=Kn k js σ) (tk:=s3.toks+([]:List (Str×Value)).length) I3 S hc hcl hcf f3 o3 hns4 k4 (by unfold Kn; simp [CP.len]) (fun i x v h1 h2=>by
  unfold Kn at h2
  by_cases hik:i < k
  ·rw [List.getElem?_append_left (by simpa using hik),List.getElem?_replicate,if_pos hik] at h2
   cases h2
  ·have hk' :k<=i:=by omega
   rw [List.getElem?_append_right (by simpa using hk'),List.length_replicate,List.getElem?_map] at h2
   cases ej:js[i - k]? with
   | none=>rw [ej] at h2; cases h2
   | some j=>
    rw [ej] at h2
    obtain ⟨y,e1,e2,e3,e4,e5⟩:=CP.cap (i - k) j ej
    have:k+(i - k)=i:=by omega
    rw [this,h1] at e1
    cases e1
    refine ⟨j,e2, ?_,e3,e4,e5⟩
    have h2' :some ((σ[j]?).getD none)=some (some v):=h2
    cases ez:σ[j]? with
    | none=>rw [ez] at h2'; cases h2'
    | some z=>rw [ez] at h2'; exact congrArg some (Option.some.inj h2'))
 have TC:Vp (cxC X scope N' cl s3.heap.objs.size s3 (upd H2 s2.heap.objs.size (.lst [])) fp pins).prog (cxC X scope N' cl s3.heap.objs.size s3 (upd H2 s2.heap.objs.size (.lst [])) fp pins).w (cxC X scope N' cl s3.heap.objs.size s3 (upd H2 s2.heap.objs.size (.lst [])) fp pins).K tg J fp it tn:=TJ
 have t4:tn 0 h4:=TJ.keep _ _ _ st2 fun b hb o e=>k4 b o (by rw [hh3]; exact Heap.get?_push_of_some _ e)
 have fC:∀ b∈fp,Yx (cxC X scope N' cl s3.heap.objs.size s3 (upd H2 s2.heap.objs.size (.lst [])) fp pins) [] (upd H2 s2.heap.objs.size (.lst [])) b:=fun b hb=>by
  obtain ⟨q0,q1,q2,q3,q4,q5⟩:=f3 b hb
  obtain ⟨o,eo⟩:=o3 b hb
  refine ⟨q0,Nat.ne_of_lt (Heap.lt_size eo),fun hb' => ?_, .inl hb,fun x c e=>q4 x c (hcl _ _ e),fun p hp=> ?_⟩
  ·rcases List.mem_cons.mp (I3.stkSub b hb') with z | z
   ·exact q1 z
   ·exact q2 z
  ·exact q5 p (by
    have:p∈(X.pn++pins)++[]:=hp
    rwa [List.append_nil] at this)
 have fin:∀ (s5:Shared) (σ5:Sg) (H5:Hp),L2.Inv (cxC X scope N' cl s3.heap.objs.size s3 (upd H2 s2.heap.objs.size (.lst [])) fp pins) [] σ5 H5 s5->F s2.heap.objs.size H5->compPost (model X.prog X.w) X.A X.xe use Q (.ref s2.heap.objs.size) s3.heap.objs.size (.ok .next) s5:=fun s5 σ5 H5 I5 q5=>by
  have J5:L2.Inv X pins σ H5 s5:=I3.call' (ch:=fp) I5.os I5.base I5.hok I5.bare fun b hb=>by
   obtain ⟨q0,q1,q2,q3,q4,q5⟩:=f3 b hb
   exact ⟨q3,q1,q4,q5⟩
  refine hQ _ _ H5 s5 J5 q5 I5.free I3.sz (Nat.ne_of_gt I3.lt) (fun x c e z=> ?_) (fun p hp z=> ?_) (let ⟨m,hm,_⟩:=I5.loc; ⟨m,hm⟩)
  ·obtain ⟨v',o,eo,_⟩:=I3.cell x c e
   exact absurd (Heap.lt_size eo) (by rw [z]; exact Nat.lt_irrefl _)
  ·exact absurd (Heap.lt_size (I3.pin p hp).1) (by rw [z]; exact Nat.lt_irrefl _)
 have loop:=xk (X:=cxC X scope N' cl s3.heap.objs.size s3 (upd H2 s2.heap.objs.size (.lst [])) fp pins) (iter:=iter) (scope:=scope) (pos:=pos) (R:=compPost (model X.prog X.w) X.A X.xe use Q (.ref s2.heap.objs.size) s3.heap.objs.size) rfl hc TC (hg _ _ _ _ _ _) (ht _ _ _ _ _ _) (he _ _ _ _ _ _) W turn fin w0 IC t4 fC
 rw [es3] at loop
 exact codeAny_compStart_list loop (TJ.self _ _ _ _ _ t4 loop)
end
end PV
namespace PV
open PySem PySem.Spec PyProof.Rows L2
noncomputable def Z5 (g:T->En->R En) (ft:En->R Bool) (fe:En->R T):List T->En->R (List T)
 | [],_=> .ok []
 | t :: ts,ρ=>(g t ρ).bind fun ρ1=>(ft ρ1).bind fun k=>if k=true then (fe ρ1).bind fun v=>(Z5 g ft fe ts ρ1).bind fun vs=> .ok (v :: vs) else Z5 g ft fe ts ρ1
noncomputable def km:Option Sl->Sl
 | some (.vl t)=> .vl t
 | _=> .un
noncomputable def qV (k:Nat) (js:List Nat) (ρ:En):En:=List.replicate k .un++js.map fun j=>km ρ[j]?
noncomputable def quiet {α:Type}:R α->R α
 | .ok a=> .ok a
 | _=> .bad
noncomputable def zG (g:T->En->R En) (ft:En->R Bool) (fe:En->R T) (k:Nat) (js:List Nat) (ρ:En) (ts:List T):R (List T):=if ts.length<=bnd then quiet (Z5 g ft fe ts (qV k js ρ)) else .bad
noncomputable def Z9 (fi:En->R (List T)) (g:T->En->R En) (ft:En->R Bool) (fe:En->R T) (k:Nat) (js:List Nat):En->R T:=fun ρ=>(fi ρ).bind fun ts=>(zG g ft fe k js ρ ts).bind fun vs=> .ok (.lst vs)
noncomputable def GOk (tG:TG) (g:T->En->R En):Prop:=∀ Y B ρ σ H v x Q,SI Y B ρ σ H->Rep B v x->(match g x ρ with | .ok ρ' =>∀ σ',SI Y B ρ' σ' H->Q σ' H | _=>False)->tG v σ H Q
theorem zU (i:Nat):GOk (Yv i) (zD i):=fun Y B ρ σ H v x Q I r q=>q _ (I.setV i r)
theorem Uc (K:PySem.W.Frag) (i j:Nat):GOk (z1L K 2 (Vx (Yv i) (Vx (Yv j) z1K))) (jq i j):=fun Y B ρ σ H v t Q I r q=>by
 cases r with
 | @tup l xs ts h r=>
  cases r with
  | nil=>exact q.elim
  | cons r1 rr=>
   cases rr with
   | nil=>exact q.elim
   | cons r2 rr=>
    cases rr with
    | cons _ _=>exact q.elim
    | nil=>exact ⟨l,_,rfl,SqT.of (I.sB _ _ h),rfl,_,_,rfl,_,_,rfl,rfl,q _ ((I.setV i r1).setV j r2)⟩
 | _=>exact q.elim
theorem SI.block {Y:Fx} {B:Hp} {ρ:En} {σ:Sg} {H H3:Hp} {D:Addr} (I:SI Y B ρ σ H) (k:Nat) (js:List Nat) (E:XK) (hD:H D=none) (o:HO):SI ⟨B,H,E,Y.cl⟩ B (qV k js ρ) (Kn k js σ) (upd H D o) where
 s0:=I.sB
 sH:=zT.new hD _
 sB:=I.sB.trans (zT.new hD _)
 old:=fun _ _ _=>rfl
 len:=by unfold qV Kn; simp
 vl:=fun i t h=>by
  unfold qV at h
  unfold Kn
  by_cases hik:i < k
  ·rw [List.getElem?_append_left (by simpa using hik),List.getElem?_replicate,if_pos hik] at h; cases h
  ·have hk' :k<=i:=by omega
   rw [List.getElem?_append_right (by simpa using hk'),List.length_replicate,List.getElem?_map] at h ⊢
   cases ej:js[i - k]? with
   | none=>rw [ej] at h; cases h
   | some j=>
    rw [ej] at h
    have h' :km ρ[j]? = .vl t:=Option.some.inj h
    unfold km at h'
    split at h'
    ·rename_i u e
     cases h'
     obtain ⟨v,e1,r⟩:=I.vl j _ e
     exact ⟨v,by show some ((σ[j]?).getD none)=_; rw [e1]; rfl,r⟩
    ·cases h'
 ow:=fun i ts h=>by
  exfalso
  unfold qV at h
  by_cases hik:i < k
  ·rw [List.getElem?_append_left (by simpa using hik),List.getElem?_replicate,if_pos hik] at h; cases h
  ·have hk' :k<=i:=by omega
   rw [List.getElem?_append_right (by simpa using hk'),List.length_replicate,List.getElem?_map] at h
   cases ej:js[i - k]? with
   | none=>rw [ej] at h; cases h
   | some j=>
    rw [ej] at h
    have h' :km ρ[j]? = .ow ts:=Option.some.inj h
    unfold km at h'
    split at h' <;> cases h'
 xc:=fun i c h=>by
  exfalso
  unfold qV at h
  by_cases hik:i < k
  ·rw [List.getElem?_append_left (by simpa using hik),List.getElem?_replicate,if_pos hik] at h; cases h
  ·have hk' :k<=i:=by omega
   rw [List.getElem?_append_right (by simpa using hk'),List.length_replicate,List.getElem?_map] at h
   cases ej:js[i - k]? with
   | none=>rw [ej] at h; cases h
   | some j=>
    rw [ej] at h
    have h' :km ρ[j]? = .xc c:=Option.some.inj h
    unfold km at h'
    split at h' <;> cases h'
theorem SI.acc {Y:Fx} {B:Hp} {ρ:En} {σ:Sg} {H:Hp} {D:Addr} (I:SI Y B ρ σ H) (hb:B D=none) (h0:Y.H0 D=none) (ho:∀ (i:Nat) (ts:List T),ρ[i]? =some (Sl.ow ts)->σ[i]? ≠ some (some (V.ref D))) (o:HO):SI Y B ρ σ (upd H D o) where
 s0:=I.s0
 sH:=fun b u h=>by
  rw [zW (fun z=>by subst z; rw [h0] at h; cases h)]; exact I.sH b u h
 sB:=fun b u h=>by
  rw [zW (fun z=>by subst z; rw [hb] at h; cases h)]; exact I.sB b u h
 old:=I.old
 len:=I.len
 vl:=I.vl
 ow:=fun i ts h=>by
  obtain ⟨a,xs,e,b0,h0',hh,r,d⟩:=I.ow i ts h
  refine ⟨a,xs,e,b0,h0', ?_,r,d⟩
  rw [zW (fun z=>ho i ts h (by rw [e,z]))]; exact hh
 xc:=I.xc
noncomputable def gK (ρ:En):Prop:=∀ (i:Nat) (ts:List T),ρ[i]? ≠ some (Sl.ow ts)
theorem kn (k:Nat) (js:List Nat) (ρ:En):gK (qV k js ρ):=fun i ts h=>by
 unfold qV at h
 by_cases hik:i < k
 ·rw [List.getElem?_append_left (by simpa using hik),List.getElem?_replicate,if_pos hik] at h; cases h
 ·have hk' :k<=i:=by omega
  rw [List.getElem?_append_right (by simpa using hk'),List.length_replicate,List.getElem?_map] at h
  cases ej:js[i - k]? with
  | none=>rw [ej] at h; cases h
  | some j=>
   rw [ej] at h
   have h' :km ρ[j]? = .ow ts:=Option.some.inj h
   unfold km at h'
   split at h' <;> cases h'
theorem yX {ρ:En} {i:Nat} {t:T} (h:gK ρ):gK (ρ.set i (.vl t)):=fun j ts e=>by
 rcases Zr e with ⟨_,z⟩ | ⟨_,z⟩
 ·cases z
 ·exact h j ts z
noncomputable def GNo (g:T->En->R En):Prop:=∀ t ρ ρ',gK ρ->g t ρ= .ok ρ' ->gK ρ'
theorem zV (i:Nat):GNo (zD i):=fun t ρ ρ' h e=>by
 cases e; exact yX h
theorem Ud (i j:Nat):GNo (jq i j):=fun t ρ ρ' h e=>by
 unfold jq at e
 split at e
 ·cases e; exact yX (yX h)
 ·cases e
section
variable {X:Cx} {Y:Fx} {tg iter elt:Expr} {ifs:List Expr} {scope:Scope} {pos pos' :Pos} {N' :List Str} {k:Nat} {js:List Nat} {fi:En->R (List T)} {tG:TG} {g:T->En->R En} {ft:En->R Bool} {fe:En->R T}
structure vJ (X:Cx) (Y:Fx) (ifs:List Expr) (f:En->R Bool):Prop where
 mk ::
 go:∀ ρ,PIf X ifs (tS Y rE f ρ)
noncomputable instance {X:Cx} {Y:Fx} {ifs:List Expr} {f:En->R Bool}:CoeFun (vJ X Y ifs f) fun _=>∀ ρ,PIf X ifs (tS Y rE f ρ):=⟨vJ.go⟩
theorem PIf.imp {X:Cx} {e:List Expr} {t t' :TT} (h:PIf X e t) (i:∀ σ H Q,t' σ H Q->t σ H Q):PIf X e t' :=fun pins s σ H Q I q=>h pins s σ H Q I (i σ H Q q)
noncomputable def ZI:En->R Bool:=fun _=> .ok true
theorem jC {X:Cx}:vJ X Y [] ZI:= .mk fun ρ=>PIf.imp gH fun σ H Q ⟨B,I,q⟩=>w4 I q rfl
theorem uF {X:Cx} {c:Expr} (h:qU X Y c ft):vJ X Y [c] ft:= .mk fun ρ=>gI (h ρ)
theorem Ux {B1 H1:Hp} {σ:Sg} {ρ:En} {J:It} {ts vs:List T} {D:Addr} (hG:GOk tG g) (hN:GNo g) (I:SI Y B1 ρ σ H1) (rI' :rI B1 H1 J ts) (hl:ts.length<=bnd) (ev:Z5 g ft fe ts (qV k js ρ)= .ok vs) (hD:H1 D=none) {F:Hp->Prop}
  (hF:∀ H' xs B',zT H1 H' ->H' D=some (.lst xs)->Z2 B' xs vs->zT B' (Zi B1 H1 H')->B' D=none->zT B1 B' ->F H'):
  ∃ W,(∃ m,W 0 m [] (Kn k js σ) (upd H1 D (.lst [])))/\gJ J D tG (fun σ H Q=>∃ Y' ρ',Y'.cl=Y.cl/\tS Y' rE ft ρ' σ H Q) (fun σ H Q=>∃ Y' ρ',Y'.cl=Y.cl/\tS Y' rC fe ρ' σ H Q) (fun _ H' =>F H') W:=by
 refine ⟨fun i m ys σ' H' =>m=ts.length - i/\i<=ts.length/\ys.length<=i/\H' D=some (.lst ys)/\∃ ρ' B' us ws,SI ⟨B1,H1,fun _ _ _=>False,Y.cl⟩ B' ρ' σ' H' /\gK ρ' /\zT B1 B' /\B' D=none/\Z2 B' ys us/\Z5 g ft fe (ts.drop i) ρ' = .ok ws/\us++ws=vs,
  ⟨ts.length,by simp,Nat.zero_le _,Nat.zero_le _,Zq,_,B1,[],vs,I.block (H3:=H1) k js _ hD _,kn k js ρ,zT.refl _,I.sB.free hD, .nil,ev,rfl⟩, ?_⟩
 rintro i m ys σ' H' ⟨rfl,hi,hyl,hDl,ρ',B',us,ws,I',no',s1',bD,r',ew,eall⟩
 refine ⟨hDl, ?_⟩
 obtain ⟨hgo,hyld,hstop⟩:=rI' B' H' s1' I'.sB
 have tD:∀ H2,zT H' H2->Zi B' H' H2 D=none:=fun H2 s=>by rw [jn hDl]; exact bD
 by_cases hlt:i < ts.length
 ·refine .inr ⟨hgo i hlt,fun x H2 y=> ?_⟩
  obtain ⟨s2,r2⟩:=hyld i _ x H2 (List.getElem?_eq_getElem hlt) y
  rw [List.drop_eq_getElem_cons hlt] at ew
  unfold Z5 at ew
  have I2:=I'.grow s2
  refine hG _ _ ρ' σ' H2 x _ _ I2 r2 ?_
  cases eg:g ts[i] ρ' with
  | bad=>rw [eg] at ew; cases ew
  | ex c=>rw [eg] at ew; cases ew
  | ok ρ1=>
   rw [eg] at ew
   have no1:gK ρ1:=hN _ _ _ no' eg
   intro σ1 J1
   refine ⟨⟨B1,H1,fun _ _ _=>False,Y.cl⟩,ρ1,rfl,_,J1, ?_⟩
   have ew1:(ft ρ1).bind (fun k=>if k=true then (fe ρ1).bind fun v=>(Z5 g ft fe (ts.drop (i+1)) ρ1).bind fun vs=> .ok (v :: vs) else Z5 g ft fe (ts.drop (i+1)) ρ1)= .ok ws:=ew
   cases ef:ft ρ1 with
   | bad=>rw [ef] at ew1; cases ew1
   | ex c=>rw [ef] at ew1; cases ew1
   | ok kk=>
    rw [ef] at ew1
    intro b H3 s3 eb
    have eb' :b=kk:=eb
    subst eb'
    have ew2:(if b=true then (fe ρ1).bind fun v=>(Z5 g ft fe (ts.drop (i+1)) ρ1).bind fun vs=> .ok (v :: vs) else Z5 g ft fe (ts.drop (i+1)) ρ1)= .ok ws:=ew1
    have J2:=J1.grow s3
    have hD3:H3 D=some (.lst ys):=s3 _ _ (s2 _ _ hDl)
    have bD3:Zi (Zi B' H' H2) H2 H3 D=none:=by rw [jn (s2 _ _ hDl)]; exact tD H2 s2
    have sB3:zT B' (Zi (Zi B' H' H2) H2 H3):=(Zi.ge I'.sB s2).trans (Zi.ge I2.sB s3)
    cases b with
    | false=>
     have ew3:Z5 g ft fe (ts.drop (i+1)) ρ1= .ok ws:=ew2
     exact ⟨ts.length - (i+1),by omega,rfl,hlt,by omega,hD3,ρ1,_,us,ws,J2,no1,s1'.trans sB3,bD3,r'.mono sB3,ew3,eall⟩
    | true=>
     refine ⟨⟨B1,H1,fun _ _ _=>False,Y.cl⟩,ρ1,rfl,_,J2, ?_⟩
     have ew3:(fe ρ1).bind (fun v=>(Z5 g ft fe (ts.drop (i+1)) ρ1).bind fun vs=> .ok (v :: vs))= .ok ws:=ew2
     cases ee:fe ρ1 with
     | bad=>rw [ee] at ew3; cases ew3
     | ex c=>rw [ee] at ew3; cases ew3
     | ok v=>
      rw [ee] at ew3
      have ew4:(Z5 g ft fe (ts.drop (i+1)) ρ1).bind (fun vs=> .ok (v :: vs))= .ok ws:=ew3
      cases el:Z5 g ft fe (ts.drop (i+1)) ρ1 with
      | bad=>rw [el] at ew4; cases ew4
      | ex c=>rw [el] at ew4; cases ew4
      | ok ws' =>
       rw [el] at ew4
       cases ew4
       intro w H4 s4 rw4
       have hD4:H4 D=some (.lst ys):=s4 _ _ hD3
       have J3:=J2.grow s4
       have bD4:Zi (Zi (Zi B' H' H2) H2 H3) H3 H4 D=none:=by rw [jn hD3]; exact bD3
       have sB4:=sB3.trans (Zi.ge J2.sB s4)
       refine ⟨hD4,Nat.lt_of_lt_of_le (Nat.lt_of_le_of_lt hyl hlt) (Jp hl),ts.length - (i+1),by omega,rfl,hlt,by rw [List.length_append,List.length_singleton]; omega,Zq,ρ1,_,us++[v],ws', ?_,no1,s1'.trans sB4,bD4,(r'.mono sB4).append (.cons rw4 .nil),el,by rw [List.append_assoc]; exact eall⟩
       exact J3.acc bD4 hD (fun j ts' e=>(no1 j ts' e).elim) _
 ·have e:i=ts.length:=by omega
  subst e
  refine .inl ⟨hstop _ (Nat.le_refl _), ?_⟩
  rw [List.drop_length] at ew
  cases ew
  rw [List.append_nil] at eall
  subst eall
  refine hF H' ys B' I'.sH hDl r' (fun b o h=> ?_) bD s1'
  cases q:H1 b with
  | none=>rw [jm q]; exact I'.sB b o h
  | some u=>
   rw [jn q]
   have z:B' b=B1 b:=I'.old b u q
   rw [← z]; exact h
structure QR (X:Cx) (Y:Fx) (tg iter elt:Expr) (ifs:List Expr) (scope:Scope) (N' :List Str) (k:Nat) (js:List Nat) (fi:En->R (List T)) (tG:TG) (g:T->En->R En) (ft:En->R Bool) (fe:En->R T):Prop where
 sc:CSc X scope
 cp:z27 X scope N' k js
 cm:X.calm=true
 it:Vt X Y tg iter fi
 gt:kl X scope N' fun XC=>PG XC tg tG
 gk:GOk tG g
 gn:GNo g
 tt:∀ Y',Y'.cl=Y.cl->kl X scope N' fun XC=>vJ XC Y' ifs ft
 el:∀ Y',Y'.cl=Y.cl->kl X scope N' fun XC=>Snd XC Y' elt fe
 hs:∀ x,foldedSetIterable iter X.env x=pure x
theorem jc (C:QR X Y tg iter elt ifs scope N' k js fi tG g ft fe):Snd X Y (.ListComp elt [⟨tg,iter,ifs,0⟩] scope pos) (Z9 fi g ft fe k js):= .mk fun ρ=>by
 intro pins s σ H Q I ⟨B,J,q⟩
 rw [eval_ListComp]
 refine yW (use:=none) (Q:=EP X pins σ Q) (F:=fun D H' =>Q (.ref D) H') (te:=fun σ H Q=>∃ Y' ρ',Y'.cl=Y.cl/\tS Y' rC fe ρ' σ H Q) (tt:=fun σ H Q=>∃ Y' ρ',Y'.cl=Y.cl/\tS Y' rE ft ρ' σ H Q) C.sc C.cp C.cm (C.it ρ) C.gt
  (fun cl Cx' s3 H3 fp pins pins' s σ H Q I ⟨Y',ρ',ey,q⟩=>C.tt Y' ey cl Cx' s3 H3 fp pins ρ' pins' s σ H Q I q) (fun cl Cx' s3 H3 fp pins pins' s σ H Q I ⟨Y',ρ',ey,q⟩=>C.el Y' ey cl Cx' s3 H3 fp pins ρ' pins' s σ H Q I q) I ?_ ?_ C.hs
 ·refine step J q fun ts it' H1 _ s1 r1 J1 q1=> ?_
  intro D hD
  unfold zG at q1
  split at q1
  ·rename_i hl
   cases ev:Z5 g ft fe ts (qV k js ρ) with
   | bad=>rw [ev] at q1; exact q1.elim
   | ex c=>rw [ev] at q1; exact q1.elim
   | ok vs=>
    rw [ev] at q1
    refine Ux C.gk C.gn J1 r1 hl ev hD fun H' xs B' s' e' r' l' b' sb' => ?_
    refine (show Po Y rC _ H1 (.ok (.lst vs)) Q from q1) (.ref D) H' s' ?_
    exact .lst (by rw [jm hD]; exact e') (r'.mono l')
  ·exact q1.elim
 ·intro D Cc H' s' I' q' hC h0 hL hcell hpin hns
  obtain ⟨m,hm⟩:=hns
  refine ⟨m,hm,fun h' hsb=>⟨.ref D,H', ?_,rfl,q'⟩⟩
  exact I'.turned (t' :=s'.toks) (fun b o hb e=>hsb.extBut b o hb e) hC (Ne.symm hL).symm (.inr h0) hcell hpin
end
end PV
namespace PV
open PySem PySem.Spec PyProof.Rows L2
section
variable {X:Cx} {Y:Fx} {tg iter elt:Expr} {ifs:List Expr} {scope:Scope} {pos pos' :Pos} {N' :List Str} {k:Nat} {js:List Nat} {fi:En->R (List T)} {tG:TG} {g:T->En->R En} {ft:En->R Bool} {fe:En->R T}
theorem YT {i:Nat} {x:Str} {pc p' :Pos} (C:QR X Y tg iter elt ifs scope N' k js fi tG g ft fe) (hN:X.N.Nodup) (hi:X.N[i]? =some x) (hx:L2.Loc X.env.scope x)
  (hsw:swapsWith (.ListComp elt [⟨tg,iter,ifs,0⟩] scope pc) (some (.Name x p')) pos.line X.env=pure true) (hf:X.fn x=true\/X.env.scope.names.lookup x=some .local:=by first | exact .inl rfl | exact .inr rfl | assumption):
  yU X Y (.Assign [.Name x p'] (.ListComp elt [⟨tg,iter,ifs,0⟩] scope pc) pos) (Zf i (Z9 fi g ft fe k js)):= .mk fun ρ=>by
 intro pins s σ H D I ⟨B,J,q⟩
 rw [exec_Assign_Name_used _ _ _ _ hsw]
 refine wpAny_bind (wpAny_standAt (wpAny_bind ?_))
 show wpAny _ X.A (do let _ ← comprehension (.ListComp elt [⟨tg,iter,ifs,0⟩] scope pc) scope X.env _ (newList []) false (eval iter X.env) (some (assign (.Name x p') X.env))) _ _ s
 refine wpAny_bind (thn (yW (use:=some (assign (.Name x p') X.env)) (Q:=fun _ s' =>SP X pins D .next s') (F:=fun D' H' =>D.nx (σ.set i (some (.ref D'))) H') (te:=fun σ H Q=>∃ Y' ρ',Y'.cl=Y.cl/\tS Y' rC fe ρ' σ H Q) (tt:=fun σ H Q=>∃ Y' ρ',Y'.cl=Y.cl/\tS Y' rE ft ρ' σ H Q) C.sc C.cp C.cm (C.it ρ) C.gt
  (fun cl Cx' s3 H3 fp pins pins' s σ H Q I ⟨Y',ρ',ey,q⟩=>C.tt Y' ey cl Cx' s3 H3 fp pins ρ' pins' s σ H Q I q) (fun cl Cx' s3 H3 fp pins pins' s σ H Q I ⟨Y',ρ',ey,q⟩=>C.el Y' ey cl Cx' s3 H3 fp pins ρ' pins' s σ H Q I q) I ?_ ?_ C.hs) fun _ s' hq=>wpAny_pure (wpAny_pure hq))
 ·have q' :PoS Y B (((fi ρ).s fun ts=>(zG g ft fe k js ρ ts).s fun vs=> .nx (ρ.set i (.vl (.lst vs))))) D:=by
   unfold Zf Z9 at q
   revert q
   cases fi ρ with
   | bad=>exact fun q=>q
   | ex c=>exact fun q=>q
   | ok ts=>
    intro q
    have q2:PoS Y B (((zG g ft fe k js ρ ts).bind fun vs=>R.ok (T.lst vs)).s fun t=>RS.nx (List.set ρ i (Sl.vl t))) D:=q
    show PoS Y B ((zG g ft fe k js ρ ts).s fun vs=>RS.nx (List.set ρ i (Sl.vl (T.lst vs)))) D
    revert q2
    cases zG g ft fe k js ρ ts with
    | bad=>exact fun q=>q
    | ex c=>exact fun q=>q
    | ok vs=>exact fun q=>q
  refine uY J q' fun ts it' H1 _ s1 r1 J1 q1=> ?_
  intro D' hD
  unfold zG at q1
  split at q1
  ·rename_i hl
   cases ev:Z5 g ft fe ts (qV k js ρ) with
   | bad=>rw [ev] at q1; exact q1.elim
   | ex c=>rw [ev] at q1; exact q1.elim
   | ok vs=>
    rw [ev] at q1
    refine Ux C.gk C.gn J1 r1 hl ev hD fun H' xs B' s' e' r' l' b' sb' => ?_
    have rr:Rep (Zi (Zi B H H1) H1 H') (.ref D') (.lst vs):= .lst (by rw [jm hD]; exact e') (r'.mono l')
    exact q1 _ _ _ (Zi.ge J1.sB s') ((J1.grow s').setV i rr)
  ·exact q1.elim
 ·intro D' Cc H' s' I' q' hC h0 hL hcell hpin hns
  obtain ⟨m,hm⟩:=hns
  show wpAny _ X.A (assign (.Name x p') X.env (.ref D')) _ _ s'
  refine wpAny_assign_Name (Yu (v:= .ref D') I' hN hi hx rfl (fun s'' I'' ⟨a,hsb,ha⟩=> ?_) hf)
  have hne:Cc ≠ a:=by
   rcases ha with rfl | ha
   ·exact hL
   ·exact (hcell x a ha).symm
  refine ⟨m,hm.sameBut hsb hne,fun h' hsb' =>⟨_,H', ?_,q'⟩⟩
  exact I''.turned (t' :=s''.toks) (fun b o hb e=>hsb'.extBut b o hb e) hC hL (.inr h0) hcell hpin
end
end PV
namespace PV
open PySem PySem.Spec PyProof.Rows L2
noncomputable def Itc (x:Str):It:=⟨fun i _=>i < x.cps.size,fun i H v H' =>H' =H/\∃ c,x.cps[i]? =some c/\v= .str ⟨#[c]⟩,fun i _=>x.cps.size<=i⟩
theorem yu {P:Program} {w:World} {K:PySem.W.Frag} {tg:Expr} {x:Str} {t:Tok} {ty:String} (it:Addr) (hty:ty="str_ascii_iterator"\/ty="str_iterator"):Vp P w K tg (Itc x) [it] it (fun i h=>h.IsStrIter it ty x t i):=by
 have W:∀ A:Around,A.handled=none->Walks P w A it [it] [it] x.cps.size (SignAt x) (fun i h=>h.IsStrIter it ty x t i):=fun A hA=>by
  rcases hty with rfl | rfl
  ·exact Walks.strAscii hA it x t
  ·exact Walks.strWide hA it x t
 have hn:["enumerate","zip","dict_itemiterator","dict_reverseitemiterator","odict_iterator","itertools.zip_longest","itertools.pairwise"].contains ty=false:=by rcases hty with rfl | rfl <;> decide
 refine ⟨by simp,fun i h st b hb=> ?_,fun i h h' st k=> ?_, ?_, ?_,fun A i s Q E st h=> ?_⟩
 ·have e:b=it:=by simpa using hb
  subst e
  obtain ⟨o,e,c,d⟩:=st
  exact ⟨o,e,fun v z=>by rw [d] at z; cases z⟩
 ·obtain ⟨o,e,r⟩:=st
  exact ⟨o,k it (by simp) o e,r⟩
 ·intro X hP hw hK hc i pins s σ H E I hf st hg
  subst hP hw hK
  obtain ⟨f0,f1,f2,f3,f4,f5⟩:=hf it (by simp)
  refine (W X.A (I.ok.hd hc)).item i s _ _ hg st fun v h' tk hv st' kk=> ?_
  obtain ⟨c,u,hc',rfl⟩:=hv
  have I1:L2.Inv X pins σ H { s with heap:=h',toks:=tk }:=I.turned (fun b o hb e=>kk b o (by simpa using hb) e) f0 f1 f3 f4 f5
  obtain ⟨o,e,cl,d⟩:=id st'
  exact ⟨_,rfl,vw (s:={ s with heap:=h',toks:=tk }) e cl d hn ⟨.str ⟨#[c]⟩,H,I1,⟨u,rfl⟩,⟨rfl,c,hc',rfl⟩,st',fun b hb=>(hf b hb).1⟩⟩
 ·intro X hP hw hK hc i pins s σ H E I hf st hg
  subst hP hw hK
  obtain ⟨f0,f1,f2,f3,f4,f5⟩:=hf it (by simp)
  have hx:x.cps[i]? =none:=Array.getElem?_eq_none hg
  rcases hty with rfl | rfl
  ·exact wpAny_pyNext_ascii_end (I.ok.hd hc) st hx fun h' eb=>⟨rfl,I.turned (t' :=s.toks) (fun b o hb e=>eb b o hb e) f0 f1 f3 f4 f5⟩
  ·exact wpAny_pyNext_wide_end (I.ok.hd hc) st hx fun h' eb=>⟨rfl,I.turned (t' :=s.toks) (fun b o hb e=>eb b o hb e) f0 f1 f3 f4 f5⟩
 ·rcases hty with rfl | rfl
  ·exact wpAny_pyIter_striter_ascii st h
  ·exact wpAny_pyIter_striter_wide st h
noncomputable def Ww (x:Str):List T:=x.cps.toList.map fun c=>T.str ⟨#[c]⟩
theorem ko {B1 H1:Hp} {x:Str}:rI B1 H1 (Itc x) (Ww x):=fun B2 H2 s1 s2=>by
 have hl:(Ww x).length=x.cps.size:=by unfold Ww; simp
 refine ⟨fun i hi=>by rw [hl] at hi; exact hi,fun i t v H3 e y=> ?_,fun i hi=>by rw [hl] at hi; exact hi⟩
 obtain ⟨rfl,c,hc,rfl⟩:=y
 refine ⟨zT.refl _, ?_⟩
 unfold Ww at e
 rw [List.getElem?_map] at e
 have hc' :x.cps.toList[i]? =some c:=by simpa using hc
 rw [hc'] at e
 cases e
 exact .str _
section
variable {X:Cx} {Y:Fx} {a b c d tg:Expr} {fa fb fc fd:En->R T} {pos p:Pos}
theorem z0s {l:Expr} {tl:TE} (hl:PE X l tl):PI X tg l (fun σ H R=>tl σ H fun x H1=>(∃ a,x= .ref a/\(((∃ xs,SqL X.K H1 a xs)/\R (Itl X.K a) H1)\/((∃ xs,SqT X.K H1 a xs)/\R (Itt X.K a) H1)))\/(∃ z,x= .str z/\R (Itc z) H1)):=by
 intro pins s σ H R I h
 refine thn (hl pins s σ H _ I h) fun v s1 ⟨x,H1,I1,r1,q1⟩=> ?_
 have ok:∀ b∈[s1.heap.objs.size],Yx X pins H1 b:=fun b hb=>by
  have e:b=s1.heap.objs.size:=by simpa using hb
  subst e
  exact I1.fpOk (Nat.le_refl _) (I1.hok.fresh (Nat.le_refl _))
 rcases q1 with ⟨a,e,q⟩ | ⟨z,e,q⟩
 ·subst e
  obtain rfl:v=Value.ref a:=r1
  rcases q with ⟨⟨xs,hq⟩,q⟩ | ⟨⟨xs,hq⟩,q⟩
  ·obtain ⟨its,rv,p,hz⟩:=I1.list hq
   exact wpAny_pyIter_list p.isList ⟨s1.heap.objs.size,[s1.heap.objs.size],_,_,H1,rfl,I1.kept (t' :=s1.toks) fun b o e=>Heap.get?_push_of_some _ e,Vz a _,⟨_,Heap.get?_push_size _ rfl,rfl,rfl⟩,ok,q⟩
  ·obtain ⟨its,rv,p,hz⟩:=I1.tuple hq
   exact wpAny_pyIter_tuple (show s1.heap.IsTuple a its.toArray from p) ⟨s1.heap.objs.size,[s1.heap.objs.size],_,_,H1,rfl,I1.kept (t' :=s1.toks) fun b o e=>Heap.get?_push_of_some _ e,vx a _,⟨_,Heap.get?_push_size _ rfl,rfl,rfl⟩,ok,q⟩
 ·subst e
  obtain ⟨t,rfl⟩:=r1
  cases ha:z.cps.all (· < 128)
  ·exact wpAny_pyIter_wide ha ⟨s1.heap.objs.size,[s1.heap.objs.size],_,_,H1,rfl,I1.kept (t' :=s1.toks) fun b o e=>Heap.get?_push_of_some _ e,yu _ (.inr rfl),⟨_,Heap.get?_push_size _ rfl,rfl,rfl⟩,ok,q⟩
  ·exact wpAny_pyIter_ascii ha ⟨s1.heap.objs.size,[s1.heap.objs.size],_,_,H1,rfl,I1.kept (t' :=s1.toks) fun b o e=>Heap.get?_push_of_some _ e,yu _ (.inl rfl),⟨_,Heap.get?_push_size _ rfl,rfl,rfl⟩,ok,q⟩
noncomputable def uG:T->R (List T)
 | .lst xs=> .ok xs
 | .tup xs=> .ok xs
 | .str x=> .ok (Ww x)
 | _=> .bad
noncomputable def Jh (fa:En->R T):En->R (List T):=fun ρ=>(fa ρ).bind uG
theorem jP (ha:Snd X Y a fa):Vt X Y tg a (Jh fa):= .mk fun ρ=>PI.imp (z0s (ha ρ)) fun σ H R ⟨B,I,q⟩=>step I q fun t v H1 _ s1 r1 I1 q1=>by
 cases r1 with
 | @tup l xs ts h r=>
  exact .inl ⟨l,rfl, .inr ⟨⟨xs,SqT.of (I1.sB _ _ h)⟩,w4 I1 (show Po Y rI _ H1 (.ok ts) R from q1) (z0p h r)⟩⟩
 | @lst l xs ts h r=>
  exact .inl ⟨l,rfl, .inl ⟨⟨xs,SqL.of (I1.sB _ _ h)⟩,w4 I1 (show Po Y rI _ H1 (.ok ts) R from q1) (z0q h r)⟩⟩
 | str z=>exact .inr ⟨z,rfl,w4 I1 (show Po Y rI _ H1 (.ok (Ww z)) R from q1) ko⟩
 | _=>exact q1.elim
end
theorem Inv.laidT {X:Cx} {pins:List (Addr×Obj)} {σ:Sg} {H:Hp} {s:Shared} {h' :Heap} {tk:Nat} {ch:List Addr} {a:Addr} {xs:List V} (I:L2.Inv X pins σ H s) (hf:∀ b∈ch,Yx X pins H b) (k:∀ b o,b ∉ ch->s.heap.get? b=some o->h'.get? b=some o)
  (th:∀ b o,b∈ch->s.heap.get? b=some o->∃ o',h'.get? b=some o') (ha:s.heap.objs.size<=a) (new:jl X.prog X.w (upd H a (.tup xs)) h' a (.tup xs)):L2.Inv X pins σ (upd H a (.tup xs)) { s with heap:=h',toks:=tk }:=by
 have hn:H a=none:=I.hok.fresh ha
 have nch:∀ b u,H b=some u->b ∉ ch:=fun b u e hb=>by rw [(hf b hb).1] at e; cases e
 refine I.call' (s' :={ s with heap:=h',toks:=tk }) (ch:=ch) rfl ⟨fun b o e n _ hc=>k b o hc e,fun b o e n _ hc=>⟨o.slots,k b o hc e⟩,fun b o e n _=>by rw [zW (Nat.ne_of_lt (Nat.lt_of_lt_of_le (Heap.lt_size e) ha))]; exact n,fun b o e hc=>⟨o,k b o hc e⟩,
  fun b ys e=>by rw [zW (Zb e hn)]; exact e,fun b o u e=>by rw [zW (Zb e hn)]; exact e,fun b ps e=>⟨#[],by rw [zW (Zb e hn),e]; simp⟩⟩ (fun b u e=> ?_) I.bare fun b hb=> ?_
 ·by_cases hb:b=a
  ·subst hb; rw [Zq] at e; cases e; exact new
  ·rw [zW hb] at e
   refine (I.hok b u e).stay (fun c v hc q=> ?_) (fun c q=>by rw [zW (Zb q hn)]; exact q) fun c ys q=>by rw [zW (Zb q hn)]; exact q
   rcases hc with rfl | hc
   ·exact k c v (nch c u e) q
   ·exact k c v (nch c _ hc) q
 ·obtain ⟨f0,f1,f2,f3,f4,f5⟩:=hf b hb
  exact ⟨f3,f1,f4,f5⟩
noncomputable def Ite (K:PySem.W.Frag) (l:Addr):It:=
 ⟨fun i H=>∃ xs x,SqL K H l xs/\xs[i]? =some x,fun i H v H' =>∃ p x,H p=none/\v= .ref p/\(∀ xs,SqL K H l xs->xs[i]? =some x)/\H' =upd H p (.tup [.int i,x]),fun i H=>∃ xs,SqL K H l xs/\xs.length<=i⟩
theorem xl {P:Program} {w:World} {K:PySem.W.Frag} {elts:List Expr} {kk:Nat} {pt:Pos} (e it l:Addr) (hei:e ≠ it) (hle:l ≠ e) (hli:l ≠ it):
  Vp P w K (.Tuple elts kk pt) (Ite K l) [e,it] e (fun i h=>(∃ old,IsEnum h e it i old)/\h.IsListIter it l i) where
 mem:=by simp
 obj:=fun i h st b hb=>by
  obtain ⟨⟨old,he⟩,o,e1,c,d⟩:=st
  rcases List.mem_cons.mp hb with rfl | hb
  ·exact ⟨_,he,fun v z=>nomatch z⟩
  ·have z:b=it:=by simpa using hb
   subst z
   exact ⟨o,e1,fun v z=>by rw [d] at z; cases z⟩
 keep:=fun i h h' st k=>by
  obtain ⟨⟨old,he⟩,hit⟩:=st
  exact ⟨⟨old,k e (by simp) _ he⟩,hit.at fun o x=>k it (by simp) o x⟩
 item:=by
  intro X hP hw hK hc i pins s σ H E I hf st hg
  subst hP hw hK
  obtain ⟨xs,x,hq,hx⟩:=hg
  obtain ⟨its,rv,p,hz⟩:=I.list hq
  obtain ⟨u,hu,ru⟩:=rv.get hx
  obtain ⟨⟨old,he⟩,hit⟩:=st
  have hi:i < its.toArray.size:=by
   have:=(List.getElem?_eq_some_iff.mp hu).1
   simpa using this
  refine (WalksT.enumerate (prog:=X.prog) (w:=X.w) (I.ok.hd hc) e it l hei hle hli its.toArray).item i s _ _ hi ⟨⟨old,he⟩,hit,p.isList⟩ fun T vals h' tk hP hT hTup hM hk=> ?_
  obtain ⟨t,y,hy,rfl⟩:=hP
  have hyu:y=u:=by
   have:its[i]? =some y:=by simpa using hy
   rw [hu] at this; exact (Option.some.inj this).symm
  subst hyu
  refine ⟨.ref T,rfl, ?_⟩
  refine (WalksT.enumerate (prog:=X.prog) (w:=X.w) (I.ok.hd hc) e it l hei hle hli its.toArray).go elts kk pt i T _ _ _ hM fun h2 hst2 hk2=> ?_
  have hTn:H T=none:=I.hok.fresh hT
  have hTne:∀ b∈[e,it],b ≠ T:=fun b hb z=>by
   obtain ⟨_,_,_,h3,h4⟩:=hM
   rcases List.mem_cons.mp hb with rfl | hb
   ·exact h3 z.symm
   ·have:b=it:=by simpa using hb
    subst this; exact h4 z.symm
  have Vv:IsTup h2 T #[.int i t,y]:=by
   obtain ⟨o,eo,r⟩:=hTup
   exact ⟨o,hk2 T o (fun hb=>hTne T hb rfl) eo,r⟩
  refine ⟨.ref T,upd H T (.tup [.int i,x]),Inv.laidT (s:=s) (h' :=h2) (ch:=[e,it]) (tk:=tk) I hf (fun b o hb e=>hk2 b o hb (hk b o hb e)) (fun b o hb _=> ?_) hT ⟨by rw [sizeLine_eq]; show 2<=16777216; decide,[.int i t,y], .cons ⟨t,rfl⟩ (.cons ru .nil),Vv⟩,rfl,⟨T,x,hTn,rfl,fun ys hy=>by rw [I.list_inj hy hq]; exact hx,rfl⟩,⟨hst2.1,hst2.2.1⟩,fun b hb=> ?_⟩
  ·obtain ⟨⟨old2,he2⟩,⟨o2,eo2,_⟩,_⟩:=hst2
   rcases List.mem_cons.mp hb with rfl | hb
   ·exact ⟨_,he2⟩
   ·have:b=it:=by simpa using hb
    subst this; exact ⟨o2,eo2⟩
  ·rw [zW (hTne b hb)]; exact (hf b hb).1
 done:=by
  intro X hP hw hK hc i pins s σ H E I hf st hg
  subst hP hw hK
  obtain ⟨xs,hq,hx⟩:=hg
  obtain ⟨its,rv,p,hz⟩:=I.list hq
  obtain ⟨⟨old,he⟩,hit⟩:=st
  have hl:=rv.length
  refine wpAny_pyNext_enum_end (I.ok.hd hc) he hit p.isList (Array.getElem?_eq_none (by simp; omega)) fun h' hk=>⟨rfl, ?_⟩
  obtain ⟨f0,f1,f2,f3,f4,f5⟩:=hf it (by simp)
  exact I.turned (t' :=s.toks) (fun b o hb e=>hk b o hb e) f0 f1 f3 f4 f5
 self:=fun _ _ _ _ _ st h=>let ⟨⟨_,he⟩,_⟩:=st; wpAny_pyIter_enum he h
noncomputable def wP (xs:List T):List T:=(xs.zipIdx).map fun p=>T.tup [.int (p.2:Nat),p.1]
theorem YU {xs:List T} {i:Nat} {t:T} (h:(wP xs)[i]? =some t):∃ x,xs[i]? =some x/\t= .tup [.int (i:Nat),x]:=by
 unfold wP at h
 rw [List.getElem?_map,List.getElem?_zipIdx] at h
 cases e:xs[i]? with
 | none=>rw [e] at h; cases h
 | some x=>rw [e] at h; cases h; exact ⟨x,rfl,by simp⟩
theorem uH (xs:List T):(wP xs).length=xs.length:=by unfold wP; simp
theorem gL {K:PySem.W.Frag} {B1 H1:Hp} {a:Addr} {xs:List V} {ts:List T} (h:B1 a=some (.lst xs)) (r:Z2 B1 xs ts):rI B1 H1 (Ite K a) (wP ts):=fun B2 H2 s1 s2=>by
 have h2:=s2 _ _ (s1 _ _ h)
 rw [uH]
 refine ⟨fun i hi=> ?_,fun i t x H3 e y=> ?_,fun i hi=>⟨xs,SqL.of h2,by rw [r.length]; exact hi⟩⟩
 ·obtain ⟨v,e,_⟩:=r.get (List.getElem?_eq_getElem hi)
  exact ⟨xs,v,SqL.of h2,e⟩
 ·obtain ⟨p,v,hp,rfl,y,rfl⟩:=y
  obtain ⟨t',et,rfl⟩:=YU e
  obtain ⟨v',e1,r1⟩:=r.get et
  have:=y xs (SqL.of h2)
  rw [e1] at this; cases this
  refine ⟨zT.new hp _, .tup (wL hp _) (.cons (.int _) (.cons ?_ .nil))⟩
  exact (r1.mono s1).mono (Zi.ge s2 (zT.new hp _))
section
variable {X:Cx} {Y:Fx} {a:Expr} {fa:En->R T} {pos p pt:Pos} {elts:List Expr} {kk:Nat}
theorem gM {ta:TA} (hg:Gl X "enumerate") (hm:X.mg "enumerate"=none) (ha:PA X [a] ta) (hs:St1 X a:=by exact st1 rfl):
  PI X (.Tuple elts kk pt) (.Call (.Name "enumerate" p) [a] [] pos) (fun σ H R=>ta σ H fun vs H1=>∃ l xs,vs=[.ref l]/\H1 l=some (.lst xs)/\R (Ite X.K l) H1):=by
 intro pins s σ H R I h
 refine Call_ (wH I hg hm PyProof.Rows.Boot.«enumerate» (PyProof.Rows.callWith_type1 (thn (ha pos pins s σ H _ I h) fun us s1 ⟨vs,H1,I1,r1,q1⟩=> ?_) hs rfl))
 obtain ⟨l,xs,e,hl,q⟩:=q1
 subst e
 obtain ⟨u,rfl,ru⟩:=wI r1
 obtain rfl:u=Value.ref l:=ru
 obtain ⟨_,its,n,rv,eo⟩:=(show jl X.prog X.w H1 s1.heap l (.lst xs) from I1.hok l _ hl)
 have hlt:l < s1.heap.objs.size:=Heap.lt_size eo
 refine call_enumerate_1 eo fun h' he hit hsz hk=>wpAny_pyIter_enum he ?_
 have f:∀ b∈[s1.heap.objs.size+1,s1.heap.objs.size],Yx X pins H1 b:=fun b hb=>by
  rcases List.mem_cons.mp hb with rfl | hb
  ·exact I1.fpOk (Nat.le_succ _) (I1.hok.fresh (Nat.le_succ _))
  ·have z:b=s1.heap.objs.size:=by simpa using hb
   subst z
   exact I1.fpOk (Nat.le_refl _) (I1.hok.fresh (Nat.le_refl _))
 exact ⟨s1.heap.objs.size+1,[s1.heap.objs.size+1,s1.heap.objs.size],_,_,H1,rfl,I1.kept (t' :=s1.toks) hk,xl _ _ l (Nat.succ_ne_self _) (Nat.ne_of_lt (Nat.lt_succ_of_lt hlt)) (Nat.ne_of_lt hlt),⟨⟨_,he⟩,hit⟩,f,q⟩
noncomputable def gN (fa:En->R T):En->R (List T):=fun ρ=>(fa ρ).bind fun t=>match t with
 | .lst xs=> .ok (wP xs)
 | _=> .bad
theorem z0t (hg:Gl X "enumerate") (hm:X.mg "enumerate"=none) (ha:Snd X Y a fa) (hs:St1 X a:=by exact st1 rfl):Vt X Y (.Tuple elts kk pt) (.Call (.Name "enumerate" p) [a] [] pos) (gN fa):= .mk fun ρ=>
 PI.imp (gM hg hm (zS (ha ρ) ZW hs) hs) fun σ H R ⟨B,I,q⟩=>step I q fun t v H1 _ s1 r1 I1 q1=>by
  cases r1 with
  | @lst l xs ts h r=>exact ⟨l,xs,rfl,I1.sB _ _ h,w4 I1 (show Po Y rI _ H1 (.ok (wP ts)) R from q1) (gL h r)⟩
  | _=>exact q1.elim
noncomputable def Vu:List T->Option (List Str)
 | []=>some []
 | .str x :: r=>match Vu r with | some ys=>some (x :: ys) | none=>none
 | _ :: _=>none
noncomputable def z0u (sep:Str):T->R T
 | .lst ts=>match Vu ts with
  | some ys=>if (ys.map (·.length)).sum+ys.length*sep.length<=16777216 then .ok (.str (Txt.join sep ys)) else .bad
  | none=> .bad
 | _=> .bad
theorem yY {H:Hp}:∀ {xs:List V} {ts:List T} {its:List Value} {ys:List Str},Z2 H xs ts->ZD xs its->Vu ts=some ys->StrsAre its ys
 | _,_,_,ys, .nil, .nil,h=>by
  have h' :some []=some ys:=h
  cases h'; exact .nil
 | _,_,_,ys, .cons (t:=t) r rs, .cons (b:=u) rv vs,h=>by
  cases r with
  | str x=>
   unfold Vu at h
   split at h
   ·rename_i zs e
    cases h
    obtain ⟨tk,rfl⟩:=rv
    exact .cons x tk (yY rs vs e)
   ·cases h
  | _=>cases h
theorem gO:MtR X "str.join" (fun x xs H Q=>∃ z l zs ts ys,x= .str z/\xs=[.ref l]/\H l=some (.lst zs)/\Z2 H zs ts/\Vu ts=some ys/\(ys.map (·.length)).sum+ys.length*z.length<=16777216/\Q (.str (Txt.join z ys)) H):=by
 intro pins s σ H x xs v us Q I rx rv h
 obtain ⟨z,l,zs,ts,ys,rfl,rfl,hl,r,e,hb,q⟩:=h
 obtain ⟨t,rfl⟩:=rx
 obtain ⟨u,rfl,ru⟩:=wI rv
 obtain rfl:u=Value.ref l:=ru
 obtain ⟨its,rv,p,_⟩:=Zg I (.inl hl) r
 exact join_list p (by simpa using yY r rv e) hb fun t' k=>⟨.str _,H,I.tok k,⟨t',rfl⟩,q⟩
theorem z0v {z:Str} {kc:Nat} {pz pa:Pos} (ha:ue X Y a fa) (hb:attributeBase (.Constant (.str z) kc pz) "join" X.env (eval (.Constant (.str z) kc pz) X.env)=eval (.Constant (.str z) kc pz) X.env:=by rfl) (hs:St1 X a:=by exact st1 rfl)
  (hz:(pa.endLine == p.line)=true:=by rfl):Snd X Y (.Call (.Attribute (.Constant (.str z) kc pz) "join" pa) [a] [] p) (ap1 (z0u z) fa):= .mk fun ρ=>by
 have e1:(((((backTo p (starEach [a] X.env)).all fun x=> !x.fst) && (backToKw p (keywordEach [] X.env)).all fun x=>x.fst.isSome) && decide (([a].length+([]:List Keyword).length+if ([]:List Keyword).isEmpty=true then 0 else 1) < 30))=true):=by rw [hs]; rfl
 refine PE.imp (g9 PySem.F.plainAttrs_str PySem.F.slot_str_join PySem.F.type_str_join gO K5 (zS (ha ρ) ZW hs) hb e1 hz hs rfl) fun σ H Q ⟨B,I,q⟩=> ?_
 refine ⟨rfl,step I q fun t v H1 _ s1 r1 I1 q1=> ?_⟩
 cases r1 with
 | @lst l xs ts h r=>
  have q1:Po Y rC _ H1 (match Vu ts with | some ys=>if (ys.map (·.length)).sum+ys.length*z.length<=16777216 then .ok (.str (Txt.join z ys)) else .bad | none=> .bad) Q:=q1
  split at q1
  ·rename_i ys e
   split at q1
   ·rename_i hl
    exact ⟨z,l,xs,ts,ys,rfl,rfl,h,r,e,hl,po0 I1.sB q1 rfl (.str _)⟩
   ·exact q1.elim
  ·exact q1.elim
 | _=>exact q1.elim
end
end PV
namespace PV
open PySem PySem.Spec PyProof.Rows L2
noncomputable def dd:List Str->List Str->List Str
 | acc,[]=>acc
 | acc,x :: r=>dd (if x∈acc then acc else acc++[x]) r
section
variable {prog:Program} {w:World} {A:Around} {R:Result->Shared->Prop} {I:Addr} {fp wr:List Addr} {n:Nat} {P:Nat->Value->Prop} {St:Nat->Heap->Prop}
theorem Wd {h h' :Heap} {S:Addr} {f g:Str->Bool} {m k:Nat} (x:h.SetOf (strKind prog w) S f m) (e:∀ o,h.get? S=some o->h'.get? S=some o) (ef:f=g) (em:m=k):h'.SetOf (strKind prog w) S g k:=by
 subst ef em
 obtain ⟨o,es,ep,t,ho,r⟩:=x
 exact ⟨o,es,ep,t,e o ho,r⟩
theorem kq (W:Walks prog w A.in1 I fp wr n P St) (S:Addr) (hSf:S ∉ fp) (val:Nat->Str) (hval:∀ i v,P i v->∃ t,v=Value.str (val i) t) (hb:n+1 < scanBound):
  ∀ (k i:Nat) (acc:List Str) (s:Shared),n - i=k->i<=n->acc.length<=i->St i s.heap->s.heap.SetOf (strKind prog w) S (fun x=>decide (x∈acc)) acc.length->
   (∀ h' tk,(∀ b o,b ∉ S :: wr->s.heap.get? b=some o->h'.get? b=some o)->h'.SetOf (strKind prog w) S (fun x=>decide (x∈dd acc ((List.range' i k).map val))) (dd acc ((List.range' i k).map val)).length->
    R (.ok (.ret .none)) { s with heap:=h',toks:=tk })->codeAny (model prog w) A (.builtin "set.update.loop" ⟨[.ref S, .ref I],[]⟩) R s:=by
 intro k
 induction k with
 | zero=>
  intro i acc s hk hi hal hst hS hR
  obtain rfl:i=n:=by omega
  refine codeAny_builtin F.entry_set_update_loop ?_
  rw [Around.under_plainId F.plain_set_update_loop _]
  refine wpAny_bind (m:=pyNext (.ref I)) (W.done s _ _ hst fun h' tk hk' =>wpAny_pure ?_)
  exact hR h' tk (fun b o hb e=>hk' b o (fun z=>hb (List.mem_cons_of_mem _ z)) e) (Wd hS (fun o e=>hk' S o (fun z=>hSf (W.sub _ z)) e) rfl rfl)
 | succ k ih=>
  intro i acc s hk hi hal hst hS hR
  refine codeAny_builtin F.entry_set_update_loop ?_
  rw [Around.under_plainId F.plain_set_update_loop _]
  refine wpAny_bind (m:=pyNext (.ref I)) (W.item i s _ _ (by omega) hst fun v h1 tk1 hP hst1 hk1=> ?_)
  obtain ⟨t,rfl⟩:=hval i v hP
  have hS1:=Wd hS (fun o e=>hk1 S o (fun z=>hSf (W.sub _ z)) e) rfl rfl
  refine wpAny_bind (m:=holding [Value.str (val i) t] (setAdd S (.str (val i) t))) (wpAny_holding ?_)
  unfold setAdd
  have isk:(strKind prog w).is (val i) (.str (val i) t)=true:=strKind_is _ _ _ _
  refine wpAny_holding (wpAny_bind ((strKind prog w).pyHash isk ?_))
  refine wpAny_setAddHashed_of (knd:=strKind prog w) (s:={ s with heap:=h1,toks:=tk1+1 }) isk rfl hS1 (by omega) fun h2 hsb hS2=> ?_
  have e2:(if decide (val i∈acc)=true then acc.length else acc.length+1)=(if val i∈acc then acc else acc++[val i]).length:=by
   by_cases hm:val i∈acc
   ·simp [hm]
   ·simp [hm]
  have e1:(fun x=>decide (x∈acc) || decide (x=val i))=(fun x=>decide (x∈(if val i∈acc then acc else acc++[val i]))):=by
   funext x
   by_cases hm:val i∈acc
   ·simp only [if_pos hm]
    by_cases hx:x=val i
    ·subst hx; simp [hm]
    ·simp [hx]
   ·simp [hm,Bool.decide_or]
  have hS3:=Wd (h' :=h2) hS2 (fun o e=>e) e1 e2
  refine wpAny_pure ⟨plainId_quiet F.plain_set_update_loop _,ih (i+1) _ _ (by omega) (by omega) ?_ (W.frame _ h1 _ hst1 fun b hb o e=> ?_) hS3 fun h3 tk3 hk3 hS4=> ?_⟩
  ·split
   ·omega
   ·rw [List.length_append,List.length_singleton]; omega
  ·exact (hsb.2 b (fun z:b=S=>hSf (z ▸ hb))).trans e
  ·rw [List.range'_succ,List.map_cons] at hR
   refine hR h3 tk3 (fun b o hb e=>hk3 b o hb ?_) hS4
   exact (hsb.2 b (fun z:b=S=>hb (z ▸ List.mem_cons_self))).trans (hk1 b o (fun z=>hb (List.mem_cons_of_mem _ z)) e)
end
section
variable {prog:Program} {w:World} {A:Around} {E:Value->Shared->Prop} {s:Shared}
set_option maxRecDepth 100000 in
set_option maxHeartbeats 3200000 in
theorem xm {l:Addr} {its:List Value} {ys:List Str} {Q:Value->Shared->Prop} (hh:A.handled=none) (hl:s.heap.IsList l its.toArray) (hi:StrsAre its ys) (hb:its.length+1 < scanBound)
  (h:∀ (h' :Heap) (tk:Nat),h'.SetOf (strKind prog w) s.heap.objs.size (fun x=>decide (x∈dd [] ys)) (dd [] ys).length->(∀ b o,b < s.heap.objs.size->s.heap.get? b=some o->h'.get? b=some o)->
   Q (.ref s.heap.objs.size) { s with heap:=h',toks:=tk }):wpAny (model prog w) A (call (.type "set") [.ref l]) Q E s:=by
 have getv:∀ {its:List Value} {ys:List Str},StrsAre its ys->its.length=ys.length/\∀ (i:Nat) (v:Value),its[i]? =some v->∃ t,v=Value.str (ys.getD i ⟨#[]⟩) t:=fun {its ys} hi=>by
  induction hi with
  | nil=>exact ⟨rfl,fun i v e=>by simp at e⟩
  | cons y t _ ih=>
   refine ⟨by simp [ih.1],fun i v e=> ?_⟩
   cases i with
   | zero=>exact ⟨t,by simpa using e.symm⟩
   | succ i=>exact ih.2 i v (by simpa using e)
 obtain ⟨hlen,hget⟩:=getv hi
 have hys:(List.range' 0 its.length).map (fun i=>ys.getD i ⟨#[]⟩)=ys:=by
  rw [hlen]
  refine List.ext_getElem? fun i=> ?_
  rw [List.getElem?_map]
  by_cases hi' :i < ys.length
  ·rw [List.getElem?_range' hi',List.getElem?_eq_getElem hi']
   simp [List.getElem?_eq_getElem hi']
  ·rw [List.getElem?_eq_none (by simp; omega),List.getElem?_eq_none (by omega)]
   rfl
 obtain ⟨c,tl,hmro⟩:=F.called_set.mro
 have hmade:=F.called_set.made
 have hsub:=F.called_set.sub
 have h1:=F.called_set.notType
 have h2:=F.called_set.canCreate
 have hct:=F.typeCall_set_1 (.ref l)
 refine wpAny_call (codeAny_of_tree (show wpAny _ _ (callAny (.type "set") _) _ _ _ from ?_))
 refine wpAny_pure ⟨Code.quiet_builtin _ (by decide+kernel),codeAny_builtin F.entry_type_call ?_⟩
 rw [Around.under_plain (weight_type_call_type "set" [.ref l] []) rfl]
 repeat any_goals (first | assumption | wp_step)
 refine codeAny_mono (code_set_new_1 (.ref l) (E:=E) (Q₁:=fun obj s₁=>∃ led:Bool,obj= .ref s.heap.objs.size/\s₁={ s with heap:=s.heap.push { cls:= .type "set",dict:=none,data:= .set #[] 0 (.fresh 0 0 led) } }) fun led=>⟨led,rfl,rfl⟩) fun r s₁ hr=> ?_
 cases r with
 | error e=>exact hr
 | ok fl=>
  cases fl with
  | ret obj=>
   obtain ⟨led,rfl,rfl⟩:=hr
   generalize hG:s.heap.push { cls:= .type "set",dict:=none,data:= .set #[] 0 (.fresh 0 0 led) }=G
   have hS:G.get? s.heap.objs.size=some { cls:= .type "set",dict:=none,data:= .set #[] 0 (.fresh 0 0 led) }:=by rw [← hG]; exact Heap.get?_push_size _ rfl
   have hGs:G.objs.size=s.heap.objs.size+1:=by rw [← hG,Heap.size_push]
   have hGk:∀ b o,s.heap.get? b=some o->G.get? b=some o:=fun b o e=>by rw [← hG]; exact Heap.get?_push_of_some _ e
   have hT:Shared.TypeIs { s with heap:=G } (.ref s.heap.objs.size) "set":=⟨_,hS,rfl⟩
   have hli:=F.called_set.init.lookup
   have hbi:=F.called_set.init.bind (.ref s.heap.objs.size)
   repeat any_goals (first | assumption | wp_step)
   refine codeAny_mono (codeAny_call_builtin (R:=wants (fun r s₂=>r= .none/\∃ h' tk,s₂={ s with heap:=h',toks:=tk }/\h'.SetOf (strKind prog w) s.heap.objs.size (fun x=>decide (x∈dd [] ys)) (dd [] ys).length/\
     (∀ b o,b < s.heap.objs.size->s.heap.get? b=some o->h'.get? b=some o)) E) F.called_set.init.plain F.entry_set_init (check_set_init_1 hT ?_)) fun r₂ s₂ hr₂=> ?_
   ·obtain ⟨⟨ocls,odict,odata,oslots⟩,hol,hcl,nl,hdl⟩:=hl
    simp only at hcl hdl
    subst hcl; subst hdl
    have hol' :=hGk _ _ hol
    have hsls:=F.sub_list_set
    have hslf:=F.sub_list_frozenset
    have hne:(Value.type "list" == Value.type "dict")=false:=by decide
    have hl1:G.IsList l its.toArray:=⟨_,hol',rfl,nl,rfl⟩
    have hlS:l < s.heap.objs.size:=Heap.lt_size hol
    unfold Builtin.«set.__init__» noKeywords Builtin.Frozenset.updateFrom
    generalize hPI:pyIter=PI
    wp_walk
    subst hPI
    refine wpAny_pyIter_list hl1 (wpAny_bind (wpAny_runValue ?_))
    have hSf:s.heap.objs.size ∉ [G.objs.size,l]:=by
     rw [hGs]
     intro z
     rcases List.mem_cons.mp z with z | z
     ·exact absurd z (Nat.ne_of_lt (Nat.lt_succ_self _))
     ·exact absurd (List.mem_singleton.mp z) (Nat.ne_of_gt hlS)
    refine kq (Walks.list (A:=A.in1.in1.in1) (by simp [hh]) G.objs.size l (by rw [hGs]; exact Nat.ne_of_lt (Nat.lt_succ_of_lt hlS)) its.toArray) s.heap.objs.size hSf (fun i=>ys.getD i ⟨#[]⟩) (fun i v e=>hget i v (by simpa using e)) (by simpa using hb) its.length 0 [] _ (by simp) (Nat.zero_le _) (Nat.le_refl _)
     ⟨⟨_,Heap.get?_push_size _ rfl,rfl,rfl⟩,hl1.push _⟩ ?_ ?_
    ·have hget' :(G.push { cls:= .type "list_iterator",data:= .fields #[.ref l, .int 0 0] }).get? s.heap.objs.size=some { cls:= .type "set",dict:=none,data:= .set #[] 0 (.fresh 0 0 led) }:=Heap.get?_push_of_some _ hS
     exact Wd ((PyProof.Rows.setObjOf_fresh (knd:=strKind prog w) led).setOf hget' (by unfold scanBound; omega)) (fun o e=>e) (by funext x; simp) rfl
    ·intro h' tk' hm hS'
     rw [hys] at hS'
     refine wpAny_pure (show wpAny _ _ (ret Value.none) _ _ _ from wpAny_pure ⟨rfl,h',tk',rfl,hS',fun b o hb e=> ?_⟩)
     refine hm b o (fun z=> ?_) (Heap.get?_push_of_some _ (hGk b o e))
     rcases List.mem_cons.mp z with z | z
     ·exact absurd z (Nat.ne_of_lt hb)
     ·have z' :b=G.objs.size:=List.mem_singleton.mp z
      rw [hGs] at z'
      exact absurd z' (Nat.ne_of_lt (Nat.lt_succ_of_lt hb))
   ·cases r₂ with
    | error e=>exact hr₂
    | ok fl₂=>
     cases fl₂ with
     | ret r=>
      obtain ⟨rfl,h',tk,rfl,hS',hk'⟩:=hr₂
      repeat any_goals (first | assumption | wp_step)
      exact h _ _ hS' hk'
     | _=>exact hr₂.elim
  | _=>exact hr.elim
end
end PV
namespace PV
open PySem PySem.Spec PyProof.Rows L2
section
variable {X:Cx} {Y:Fx} {a b:Expr} {fa fb:En->R T} {pos pos' p p' :Pos}
theorem xn (hh:X.A.handled=none):Jn X (.type "set") (fun vs H Q=>∃ l xs ts ys,vs=[.ref l]/\H l=some (.lst xs)/\Z2 H xs ts/\Vu ts=some ys/\ts.length+1 < 4096/\
  ∀ q,H q=none->Q (.ref q) (upd H q (.ext fun h=>h.SetOf (strKind X.prog X.w) q (fun x=>decide (x∈dd [] ys)) (dd [] ys).length))):=by
 intro pins s σ H vs us Q I rv h
 obtain ⟨l,xs,ts,ys,rfl,hl,r,ey,hb,q⟩:=h
 obtain ⟨u,rfl,ru⟩:=wI rv
 obtain rfl:u=Value.ref l:=ru
 obtain ⟨its,rv,pl,hln,_⟩:=Zg I (.inl hl) r
 refine xm hh pl (yY r rv ey) (by unfold scanBound; omega) fun h' tk hS hk=> ?_
 refine ⟨.ref s.heap.objs.size,_,I.laid (t' :=tk) (fun b u e=>hk b u (Heap.lt_size e) e) (Nat.le_refl _) ?_,rfl,q _ (I.hok.fresh (Nat.le_refl _))⟩
 obtain ⟨o,es,ep,t,ho,rr⟩:=id hS
 exact ⟨hS,⟨o,ho⟩,fun h1 h2 ⟨o1,es1,ep1,t1,ho1,rr1⟩ e=>⟨o1,es1,ep1,t1,e _ ho1,rr1⟩⟩
theorem xo:Jn X (.builtin "len") (fun vs H Q=>∃ q φ f n,vs=[.ref q]/\H q=some (.ext φ)/\(∀ h:Heap,φ h->h.SetOf (strKind X.prog X.w) q f n)/\Q (.int n) H):=by
 intro pins s σ H vs us Q I rv h
 obtain ⟨l,φ,f,n,rfl,hl,hφ,q⟩:=h
 obtain ⟨u,rfl,ru⟩:=wI rv
 obtain rfl:u=Value.ref l:=ru
 obtain ⟨h1,_,_⟩:=(show jl X.prog X.w H s.heap l (.ext φ) from I.hok l _ hl)
 obtain ⟨o,es,ep,t,ho,hex,hd,_,_,hb,hf,hn⟩:=hφ _ h1
 refine call_len_set ho hex hd hf ?_ ⟨.int es.size,H,I.tok _,⟨_,rfl⟩,by rw [hn]; exact q⟩
 have:es.size < 4096:=hb
 omega
noncomputable def kr:T->R T
 | .lst ts=>match Vu ts with
  | some ys=>if ts.length+1 < 4096 then .ok (.int (dd [] ys).length) else .bad
  | none=> .bad
 | _=> .bad
theorem z0w (hh:X.A.handled=none) (gl:Gl X "len") (mg:X.mg "len"=none) (gl' :Gl X "set") (mg' :X.mg "set"=none) (ha:ue X Y a fa) (hs:St1 X a:=by exact st1 rfl) (hs' :St1 X (.Call (.Name "set" p') [a] [] pos'):=by exact st1 rfl):
  Snd X Y (.Call (.Name "len" p) [.Call (.Name "set" p') [a] [] pos'] [] pos) (ap1 kr fa):= .mk fun ρ=>
 PE.imp (WJ xo gl mg PySem.boot_len (zS (WK (xn hh) gl' mg' PyProof.Rows.Boot.«set» (zS (ha ρ) ZW hs) (by decide) (by decide) hs rfl) ZW hs') (by decide) (by decide) hs' rfl) fun σ H Q ⟨B,I,q⟩=>
  step I q fun t v H1 _ s1 r1 I1 q1=>by
   cases r1 with
   | @lst l xs ts h r=>
    have q1:Po Y rC _ H1 (match Vu ts with | some ys=>if ts.length+1 < 4096 then .ok (.int (dd [] ys).length) else .bad | none=> .bad) Q:=q1
    split at q1
    ·rename_i ys e
     split at q1
     ·rename_i hl
      refine ⟨l,xs,ts,ys,rfl,h,r,e,hl,fun z hz=>⟨z,_,_,_,rfl,Zq,fun h hh=>hh, ?_⟩⟩
      exact q1 _ _ (zT.new hz _) (.int _)
     ·exact q1.elim
    ·exact q1.elim
   | _=>exact q1.elim
end
end PV
namespace PV
open PySem PySem.Spec PyProof.Rows L2
theorem z28 {X:Cx} {E:XK}:Up CX0 X E:=fun _ _ _ _ _ _ _ h=>h.elim
section
variable {X:Cx} {Y:Fx} {a b:Expr} {fa fb:En->R T} {pos pos' p p' :Pos}
theorem gP {cl:Nat->Value} {k j n:Nat} {f:Addr} {fd:FuncData} {ps:List Str} {g:List T->R T} {x:Str} {es:List Expr} {ga:En->R (List T)} (hy:Y.cl=cl) (F:j2 X.prog X.w X.K X.mg X.base CX0 j f fd ps (spP cl n g)) (hr:uW k X.A) (hj:j<=k) (gl:Gl X x)
  (mg:X.mg x=some (.ref f)) (kp:PySem.W.keepIn X.K (.ref f)=true) (bd:L2.Binds X.K fd ps []) (ha:Q5 X Y (a :: es) ga) (hd:(x == ("__debug__":Str))=false:=by decide)
  (hs:starEach (a :: es) X.env=(false,eval a X.env) :: starEach es X.env:=by exact ZN rfl) (hz:((backTo pos (starEach es X.env)).any fun x=>x.fst)=false:=by exact JC rfl):Snd X Y (.Call (.Name x p) (a :: es) [] pos) (zc n g ga):=by
 subst hy
 exact Ki F (hr.mono hj) gl mg kp bd z28 ha hd hs hz
theorem Uy {x:Str} {i:Int} {u:Value} (gl:Gl X x) (mg:X.mg x=some u) (hu:∃ t,u=Value.int i t) (hd:(x == ("__debug__":Str))=false:=by decide):Snd X Y (.Name x pos) (cE (.int i)):= .mk fun ρ=>
 PE.imp (KJ (v:= .int i) gl mg hu hd) fun σ H Q ⟨B,I,q⟩=>w4 I q (.int i)
end
noncomputable def z29 (scope sc0:Scope):Bool:=(scope.kind == .function) && scope.names.all (fun x=>x.2 != .cell) && scope.names.all (fun x=>x.2 != .local || scope.names.lookup x.1 == some .local) &&
 scope.names.all (fun x=>x.2 != .free || sc0.names.lookup x.1 == some .cell || sc0.names.lookup x.1 == some .free)
theorem z0x {X:Cx} {scope:Scope} (sc0:Scope) (h0:X.env.scope=sc0) (h:z29 scope sc0=true):CSc X scope:=by
 unfold z29 at h
 simp only [Bool.and_eq_true,List.all_eq_true] at h
 obtain ⟨⟨⟨h1,h2⟩,h3⟩,h4⟩:=h
 refine ⟨eq_of_beq h1,fun x hx=>by simpa using h2 x hx,fun x hx hl=> ?_,fun x hx hf=> ?_⟩
 ·have:=h3 x hx
  rw [hl] at this
  simpa using this
 ·have:=h4 x hx
  rw [hf] at this
  show X.env.scope.names.lookup x.1=_\/X.env.scope.names.lookup x.1=_
  rw [h0]
  simpa using this
noncomputable def z2a (N N' :List Str) (scope sc0:Scope) (k:Nat) (js:List Nat):Bool:=(N'.length == k+js.length) && (List.range js.length).all fun i=>match js[i]? with
 | none=>true
 | some j=>match N'[k+i]?,N[j]? with
  | some x,some y=>(x == y) && (sc0.names.lookup x == some .cell || sc0.names.lookup x == some .free) && (scope.names.lookup x == some .free)
  | _,_=>false
theorem gQ {X:Cx} {scope:Scope} {N' :List Str} {k:Nat} {js:List Nat} (N:List Str) (sc0:Scope) (hN:X.N=N) (h0:X.env.scope=sc0) (h:z2a N N' scope sc0 k js=true):z27 X scope N' k js:=by
 unfold z2a at h
 simp only [Bool.and_eq_true,List.all_eq_true] at h
 obtain ⟨h1,h2⟩:=h
 refine ⟨eq_of_beq h1,fun i j e=> ?_⟩
 have hi:i < js.length:=(List.getElem?_eq_some_iff.mp e).1
 have q:=h2 i (List.mem_range.mpr hi)
 rw [e] at q
 dsimp only at q
 split at q
 ·rename_i x y e1 e2
  simp only [Bool.and_eq_true,Bool.or_eq_true,beq_iff_eq] at q
  obtain ⟨⟨rfl,q2⟩,q3⟩:=q
  refine ⟨x,e1,by rw [hN]; exact e2, ?_,q3, ?_⟩
  ·unfold Vis
   rw [h0]
   exact .inr q2
  ·show X.env.scope.names.lookup x=_\/X.env.scope.names.lookup x=_
   rw [h0]
   exact q2
 ·cases q
theorem Zm {X:Cx} {Y:Fx} {tg iter elt:Expr} {ifs:List Expr} {scope:Scope} {k:Nat} {js:List Nat} {fi:En->R (List T)} {tG:TG} {g:T->En->R En} {ft:En->R Bool} {fe:En->R T} (N' :List Str) (N:List Str) (sc0:Scope) (hN:X.N=N) (h0:X.env.scope=sc0)
  (h:(z29 scope sc0 && z2a N N' scope sc0 k js)=true) (cm:X.calm=true) (it:Vt X Y tg iter fi) (gt:kl X scope N' fun XC=>PG XC tg tG) (gk:GOk tG g) (gn:GNo g) (tt:∀ Y',Y'.cl=Y.cl->kl X scope N' fun XC=>vJ XC Y' ifs ft)
  (el:∀ Y',Y'.cl=Y.cl->kl X scope N' fun XC=>Snd XC Y' elt fe) (hs:∀ x,foldedSetIterable iter X.env x=pure x:=by intro _; rfl):QR X Y tg iter elt ifs scope N' k js fi tG g ft fe:=by
 rw [Bool.and_eq_true] at h
 exact ⟨z0x sc0 h0 h.1,gQ N sc0 hN h0 h.2,cm,it,gt,gk,gn,tt,el,hs⟩
end PV
namespace PV
open PySem PySem.Spec PyProof.Rows L2 PySem.W
section
variable {X:Cx} {Y:Fx} {a b:Expr} {fa fb:En->R T} {pos pos' p p' :Pos}
theorem gR {cl:Nat->Value} {k j n:Nat} {f:Addr} {fd:FuncData} {ps:List Str} {g:List T->R T} {x:Str} {es:List Expr} {ga:En->R (List T)} (hy:Y.cl=cl) (hp:Up (CX1 X.prog X.w) X Y.E) (F:j2 X.prog X.w X.K X.mg X.base (CX1 X.prog X.w) j f fd ps (spP cl n g)) (hr:uW k X.A) (hj:j<=k) (gl:Gl X x)
  (mg:X.mg x=some (.ref f)) (kp:PySem.W.keepIn X.K (.ref f)=true) (bd:L2.Binds X.K fd ps []) (ha:Q5 X Y (a :: es) ga) (hd:(x == ("__debug__":Str))=false:=by decide)
  (hs:starEach (a :: es) X.env=(false,eval a X.env) :: starEach es X.env:=by exact ZN rfl) (hz:((backTo pos (starEach es X.env)).any fun x=>x.fst)=false:=by exact JC rfl):Snd X Y (.Call (.Name x p) (a :: es) [] pos) (zc n g ga):=by
 subst hy
 exact Ki F (hr.mono hj) gl mg kp bd hp ha hd hs hz
end
noncomputable def YV (c:Nat):En->RS:=fun _=> .ex c
section
variable {P:Program} {w:World} {K:PySem.W.Frag} {mg:Str->Option Value} {base:Heap} {N:List Str} {qual:Str} {scope:Scope} {f:Addr} {cd:Value} {A:Around} {outer:List Env} {s:Shared} {H:Hp} {E:XK} {Y:Fx}
theorem yZ {x m:Str} {C:Addr} {bm bmN:List Value} {Bn Bb newId nid initId inN:String} {np cpos pos ap:Pos} {j c:Nat} (O:OwnCls x C bm newId mg base) (Fn:ExcBaseFacts Bn newId inN bmN) (hBn:bm.contains (.type Bn)=true) (FB:ExcBaseFacts Bb nid initId bm)
  (hY:Y.E=E) (hc:Y.cl c= .ref C) (hg:Gl (yc (CX1 P w) P w K mg base N qual scope f cd A outer s H E) x) (hd:(x == ("__debug__":Str))=false:=by decide):
  yU (yc (CX1 P w) P w K mg base N qual scope f cd A outer s H E) Y (.Raise (some (.Call (.Name x np) [.Constant (.str m) j ap] [] cpos)) none pos) (YV c):= .mk fun ρ=>by
 subst hY
 refine PS.imp (VQ O Fn hBn FB hg ((za zF zi:Q5 (yc (CX1 P w) P w K mg base N qual scope f cd A outer s H Y.E) Y [.Constant (.str m) j ap] _) ρ) (ZN rfl) hd) fun D σ H1 ⟨B,I,q⟩=>⟨B,I,fun vs H2 s2 r2=> ?_⟩
 have q:XP Y B c:=q
 refine ⟨?_, ?_⟩
 ·rw [r2.length]; exact (by decide:1<=sizeLine)
 ·have:=q none H2 (I.sH.trans s2) (I.sB.trans s2)
  rw [hc] at this
  exact this
theorem Fun.okX {x qual:Str} {st:Stmt} {f:Addr} {fd:FuncData} {N ps:List Str} {k:Nat} {sp:Sp} (F:Fun K x qual st f fd) (S:zr N ps (ze st)) (len:∀ vs H Q E,sp vs H Q E->vs.length=ps.length)
  (hbody:∀ (cdv:Value) (A:Around) (outer:List Env) (s:Shared) (H:Hp) (vs:List V) (Q:VK) (E:XK),uW k (A.deeper (envOfC qual (ze st) s.heap.objs.size f cdv))->sp vs H Q E->
   ∃ t,PSs (yc (CX1 P w) P w K mg base N qual (ze st) f cdv A outer s H E) (jY st) t/\t { nx:=fun _ H' =>Q .non H',rt:=Q } (start N vs) H):j2 P w K mg base (CX1 P w) (k+1) f fd ps sp:=by
 obtain ⟨oc,od,kV,doc,pm,an,cdv,ct,osl,rfl,lk,hcd⟩:=F.ex
 exact z08 lk hcd S len fun A outer s H vs Q E hr hsp=>hbody cdv A outer s H vs Q E hr hsp
theorem uI {cl:Nat->Value} {x qual:Str} {st:Stmt} {f:Addr} {fd:FuncData} {N ps:List Str} {k n:Nat} {fb:En->RS} {g:List T->R T} (F:Fun K x qual st f fd) (S:zr N ps (ze st)) (hn:n=ps.length)
  (hb:∀ (cdv:Value) (A:Around) (outer:List Env) (s:Shared) (H:Hp) (E:XK) (Y:Fx),Y.cl=cl->Y.E=E->uW k (A.deeper (envOfC qual (ze st) s.heap.objs.size f cdv))->
   Vr (yc (CX1 P w) P w K mg base N qual (ze st) f cdv A outer s H E) Y (jY st) fb)
  (hg:∀ ts,ts.length=n->g ts=zu (fb (en0 N.length ts))):j2 P w K mg base (CX1 P w) (k+1) f fd ps (spP cl n g):=by
 subst hn
 refine Fun.okX F S spP.len fun cdv A outer s H vs Q E hr ⟨B,ts,hl,sB,r,q⟩=> ?_
 refine ⟨_,hb cdv A outer s H E ⟨B,H,E,cl⟩ rfl rfl hr (en0 N.length ts),B,SI.start (Y:=⟨B,H,E,cl⟩) sB r, ?_⟩
 rw [hg ts hl] at q
 revert q
 cases fb (en0 N.length ts) with
 | rt t=>exact fun q v H' s r=>q v H' s r
 | rf t=>exact fun q a xs H' B' s0 n e r _ l=>q (.ref a) H' s0 (.lst (by rw [jm n]; exact e) (r.mono l))
 | nx ρ=>exact fun q σ' H' B' s' I' =>q _ H' I'.sH .non
 | bk ρ=>exact fun q=>q.elim
 | ct ρ=>exact fun q=>q.elim
 | ex c=>exact fun q=>q
 | bad=>exact fun q=>q
end
end PV
namespace PySem.W
open PySem PySem.Calls PyProof.Rows PySem.Spec Builtin Builtin.ObjectAttr Builtin.Getset_descriptor
section
variable {prog:Program} {w:World} {A:Around} {E:Value->Shared->Prop} {s:Shared} {K:Frag} {x C:Addr}
end
end PySem.W
namespace PySem.W
open PySem PySem.Calls PyProof.Rows PySem.Spec Builtin Builtin.ObjectAttr Builtin.Getset_descriptor
section
variable {prog:Program} {w:World} {A:Around} {E:Value->Shared->Prop} {s:Shared} {K:Frag} {x C:Addr}
end
end PySem.W
namespace PySem.W
open PySem PySem.Calls PyProof.Rows PySem.Spec Builtin Builtin.ObjectAttr Builtin.Getset_descriptor
section
variable {prog:Program} {w:World} {A:Around} {E:Value->Shared->Prop} {s:Shared} {K:Frag} {x C:Addr}
end
end PySem.W
namespace PV
open PySem PySem.Spec PyProof.Rows L2 PySem.W
section
variable {X:Cx} {Y:Fx} {a b:Expr} {fa fb:En->R T} {pos pos' p p' :Pos}
end
section
variable {P:Program} {w:World} {K:PySem.W.Frag} {mg:Str->Option Value} {base:Heap}
end
end PV
namespace PySem.ZG
open PySem PySem.Spec PySem.Builtin.SmallTypes
structure Q6 (i:Addr) (fp:List Addr) (v:Nat->Option Value) (St:Nat->Heap->Prop):Prop where
 mem:i∈fp
 item:∀ {prog:Program} {w:World} {A:Around} {E:Value->Shared->Prop} {s:Shared} {Q:Value->Shared->Prop} {k:Nat} {x:Value},St k s.heap->v k=some x->(∀ h',St (k+1) h' ->Heap.SameBut i s.heap h' ->Q x { s with heap:=h' })->wpAny (model prog w) A (nextOf (.ref i)) Q E s
 stop:∀ {prog:Program} {w:World} {A:Around} {E:Value->Shared->Prop} {s:Shared} {Q:Value->Shared->Prop} {k:Nat},A.handled=none->St k s.heap->v k=none->(∀ h' e,Heap.ExtBut i s.heap h' ->(∃ o,h'.get? e=some o/\o.cls= .type "StopIteration")->E (.ref e) { s with heap:=h' })->wpAny (model prog w) A (nextOf (.ref i)) Q E s
 keep:∀ {k:Nat} {h h' :Heap},St k h->(∀ b∈fp,∀ o,h.get? b=some o->h'.get? b=some o)->St k h'
 there:∀ {k:Nat} {h:Heap},St k h->∀ b∈fp,∃ o,h.get? b=some o
theorem Q6.but {i:Addr} {fp:List Addr} {v:Nat->Option Value} {St:Nat->Heap->Prop} (N:Q6 i fp v St) {k:Nat} {h h' :Heap} {b:Addr} (x:St k h) (e:Heap.ExtBut b h h') (n:b ∉ fp):St k h' :=
 N.keep x fun c hc o q=>e c o (fun z=>n (z ▸ hc)) q
theorem gS {i l:Addr} (hil:l ≠ i) (xs:Array Value):Q6 i [i,l] (fun k=>xs[k]?) (fun k h=>h.IsListIter i l k/\h.IsList l xs) where
 mem:= .head _
 item:=fun st hx h=>wpAny_nextOf_list_item st.1 st.2 hx fun h' a b=>h h' ⟨a,st.2.extBut b.extBut hil⟩ b
 stop:=fun hh st hx h=>wpAny_nextOf_list_end hh st.1 st.2 hx h
 keep:=fun st k=>⟨st.1.at fun o e=>k i (.head _) o e,st.2.at fun o e=>k l (.tail _ (.head _)) o e⟩
 there:=fun st b hb=>by
  obtain ⟨⟨o,e,_⟩,o2,e2,_⟩:=st
  rcases List.mem_cons.mp hb with z | hb
  ·exact ⟨o,z ▸ e⟩
  ·exact ⟨o2,(List.mem_singleton.mp hb) ▸ e2⟩
end PySem.ZG
namespace PySem.ZG
open PySem PySem.Spec PySem.Builtin.SmallTypes
section
variable {prog:Program} {w:World} {A:Around} {E:Value->Shared->Prop} {s:Shared} {it l:Addr} {k:Nat} {xs:Array Value} {Q:Value->Shared->Prop}
theorem QS (hit:s.heap.IsTupleIter it l k) (h:wpAny (model prog w) A.in1 (Builtin.«tuple_iterator.__next__» ⟨[.ref it],[]⟩) (fun fin s' =>∃ v,fin= .done (.ret v)/\Q v s') E s):wpAny (model prog w) A (nextOf (.ref it)) Q E s:=by
 unfold nextOf
 exact wpAny_bind (wpAny_callSpecial?_slot (name:=Str.ofString "__next__") hit.typeIs PySem.F.slot_tuple_iterator_next (wpAny_call_entry PySem.F.slot_tuple_iterator_next hit.typeIs PySem.F.entry_tuple_iterator_next
  (wpAny_mono h (fun fin s' ⟨v,e,q⟩=>⟨v,e,wpAny_pure q⟩) fun _ _ z=>z) (PySem.F.args_tuple_iterator_next_1 _)))
theorem tup_item (hit:s.heap.IsTupleIter it l k) (ht:s.heap.IsTuple l xs) {x:Value} (hx:xs[k]? =some x) (h:∀ h',h'.IsTupleIter it l (k+1)->Heap.SameBut it s.heap h' ->Q x { s with heap:=h' }):wpAny (model prog w) A (nextOf (.ref it)) Q E s:=by
 refine QS hit ?_
 obtain ⟨o,ho,hc,hd⟩:=id hit
 obtain ⟨ol,hol,_,nl,hdl⟩:=ht
 refine wpAny_bind (m:=field (.ref it) 0) (wpAny_field ho hd (x:= .ref l) rfl ?_)
 rw [if_neg (show ¬((Value.ref l == Value.none)=true) by exact Bool.false_ne_true)]
 refine wpAny_bind (m:=field (.ref it) 1) (wpAny_field ho hd (x:= .int k 0) rfl (wpAny_bind (m:=seqItems? (.ref l)) (wpAny_seqItems hol hdl ?_)))
 simp only [Int.toNat_natCast,hx]
 have g:=Heap.get?_update_self (Obj.mapFields (·.setIfInBounds 1 (rawInt (k+1:Nat)))) ho (Obj.isFreed_of_fields (Obj.data_mapFields hd _))
 refine wpAny_bind (wpAny_setField ho hd (by simp) (wpAny_pure ⟨x,rfl,h _ ⟨_,g,(Obj.cls_mapFields ..).trans hc, ?_⟩ (Heap.SameBut.update ..)⟩))
 rw [Obj.data_mapFields hd]; simp [rawInt]
theorem tup_stop (hh:A.handled=none) (hit:s.heap.IsTupleIter it l k) (ht:s.heap.IsTuple l xs) (hx:xs[k]? =none)
  (h:∀ h' e,Heap.ExtBut it s.heap h' ->(∃ o,h'.get? e=some o/\o.cls= .type "StopIteration")->E (.ref e) { s with heap:=h' }):wpAny (model prog w) A (nextOf (.ref it)) Q E s:=by
 refine QS hit ?_
 obtain ⟨o,ho,hc,hd⟩:=id hit
 obtain ⟨ol,hol,_,nl,hdl⟩:=ht
 refine wpAny_bind (m:=field (.ref it) 0) (wpAny_field ho hd (x:= .ref l) rfl ?_)
 rw [if_neg (show ¬((Value.ref l == Value.none)=true) by exact Bool.false_ne_true)]
 refine wpAny_bind (m:=field (.ref it) 1) (wpAny_field ho hd (x:= .int k 0) rfl (wpAny_bind (m:=seqItems? (.ref l)) (wpAny_seqItems hol hdl ?_)))
 simp only [Int.toNat_natCast,hx]
 refine wpAny_bind (wpAny_rule (wpAny_bind (wpAny_setField ho hd (by simp) (wpAny_bind (m:=newExc (.type "StopIteration") []) ?_))))
 simp only [newExc,newTuple]
 refine wpAny_bind (wpAny_newObj_type (wpAny_bind (m:=firstArgMember _ _) (wpAny_of_eq (a:=Value.none) (by first | rfl | (simp only [firstArgMember]; rfl)) (wpAny_newObj_type ?_ (by size_fits)))) (by size_fits))
 simp only [raiseNew]
 refine wpAny_bind (wpAny_handled ?_)
 rw [show A.in1.handled=none from hh]
 exact wpAny_bind (wpAny_pure (wpAny_throw (h _ _ (((Heap.SameBut.update ..).extBut.push _).push _) ⟨_,Heap.get?_push_size _ rfl,rfl⟩)))
end
theorem nx_tup {i l:Addr} (hil:l ≠ i) (xs:Array Value):Q6 i [i,l] (fun k=>xs[k]?) (fun k h=>h.IsTupleIter i l k/\h.IsTuple l xs) where
 mem:= .head _
 item:=fun st hx h=>tup_item st.1 st.2 hx fun h' a b=>h h' ⟨a,st.2.extBut b.extBut hil⟩ b
 stop:=fun hh st hx h=>tup_stop hh st.1 st.2 hx h
 keep:=fun st k=>by
  obtain ⟨⟨o,e,r⟩,o2,e2,r2⟩:=st
  exact ⟨⟨o,k i (.head _) o e,r⟩,o2,k l (.tail _ (.head _)) o2 e2,r2⟩
 there:=fun st b hb=>by
  obtain ⟨⟨o,e,_⟩,o2,e2,_⟩:=st
  rcases List.mem_cons.mp hb with z | hb
  ·exact ⟨o,z ▸ e⟩
  ·exact ⟨o2,(List.mem_singleton.mp hb) ▸ e2⟩
end PySem.ZG
namespace PySem.ZG
open PySem PySem.Spec PySem.Builtin.SmallTypes
structure Ap (z TI TO i1 i2:Addr) (fp1 fp2:List Addr):Prop where
 Iz:TI ≠ z
 Oz:TO ≠ z
 IO:TI ≠ TO
 I1:TI ≠ i1
 I2:TI ≠ i2
 z1:z ∉ fp1
 z2:z ∉ fp2
 O1:TO ∉ fp1
 O2:TO ∉ fp2
 a:i1 ∉ fp2
 b:i2 ∉ fp1
section
variable {prog:Program} {w:World} {A:Around} {E:Value->Shared->Prop} {s:Shared} {z TI TO i1 i2:Addr} {fp1 fp2:List Addr} {v1 v2:Nat->Option Value} {S1 S2:Nat->Heap->Prop} {k:Nat} {x y a b:Value}
theorem Ap.ne1 (D:Ap z TI TO i1 i2 fp1 fp2) (N1:Q6 i1 fp1 v1 S1):i1 ≠ z/\i1 ≠ TO:=⟨fun e=>D.z1 (e ▸ N1.mem),fun e=>D.O1 (e ▸ N1.mem)⟩
theorem Ap.ne2 (D:Ap z TI TO i1 i2 fp1 fp2) (N2:Q6 i2 fp2 v2 S2):i2 ≠ z/\i2 ≠ TO:=⟨fun e=>D.z2 (e ▸ N2.mem),fun e=>D.O2 (e ▸ N2.mem)⟩
theorem gT {Q:Value->Shared->Prop} (N1:Q6 i1 fp1 v1 S1) (N2:Q6 i2 fp2 v2 S2) (D:Ap z TI TO i1 i2 fp1 fp2) (hz:IsZip s.heap z TI TO .none) (hTI:IsPair s.heap TI (.ref i1) (.ref i2)) (hTO:IsPair s.heap TO a b) (p1:S1 k s.heap) (p2:S2 k s.heap) (hx:v1 k=some x) (hy:v2 k=some y)
  (hQ:∀ h',IsZip h' z TI TO (rawInt s.heap.objs.size)->IsPair h' TO x y->S1 (k+1) h' ->S2 (k+1) h' ->IsPair h' s.heap.objs.size x y->
   (∀ c o,c ≠ z->c ≠ TO->c ≠ i1->c ≠ i2->s.heap.get? c=some o->h'.get? c=some o)->Q (.ref s.heap.objs.size) { s with heap:=h' }):
  wpAny (model prog w) A (Builtin.«zip.__next__» ⟨[.ref z],[]⟩) (fun fin s' =>∃ v,fin= .done (.ret v)/\Q v s') E s:=by
 refine wpAny_bind (m:=field (.ref z) 2) (wpAny_field hz rfl (x:= .bool false) rfl (wpAny_bind (m:=field (.ref z) 3) (wpAny_field hz rfl (x:= .ref TI) rfl (wpAny_bind (wpAny_seqItems hTI rfl ?_)))))
 refine wpAny_bind (m:=ownedTupleIsFree (.ref z)) ?_
 unfold ownedTupleIsFree
 refine wpAny_bind (wpAny_field hz rfl (x:= .none) rfl (wpAny_pure ?_))
 simp only [if_true]
 refine wpAny_bind (wpAny_rule (wpAny_bind (wpAny_field hz rfl (x:= .ref TO) rfl (wpAny_bind (wpAny_setField_rec hz (by simp) fun g1 z1 e1=> ?_)))))
 replace z1:IsZip g1 z TI TO .ellipsis:=z1
 refine wpAny_bind ?_
 simp only [List.zipIdx_cons,List.zipIdx_nil,List.forIn_cons,List.forIn_nil]
 refine wpAny_bind (wpAny_bind (wpAny_onRaise (wpAny_bind (m:=nextOf (.ref i1)) (N1.item (N1.but p1 e1.extBut D.z1) hx fun g2 q1 e2=>wpAny_pure ?_))))
 have t2:IsPair g2 TO a b:=e2.extBut _ _ (D.ne1 N1).2.symm (e1.extBut _ _ D.Oz hTO)
 refine wpAny_bind (wpAny_seqItems t2 rfl (wpAny_bind (wpAny_updateSeq_pair t2 fun g3 t3 e3=> ?_)))
 replace t3:IsPair g3 TO x b:=t3
 refine wpAny_bind (wpAny_letGo (wpAny_pure ?_))
 refine wpAny_bind (wpAny_bind (wpAny_onRaise (wpAny_bind (m:=nextOf (.ref i2)) (N2.item (N2.but (N2.but (N2.but p2 e1.extBut D.z2) e2.extBut D.a) e3.extBut D.O2) hy fun g4 q2 e4=>wpAny_pure ?_))))
 have t4:IsPair g4 TO x b:=e4.extBut _ _ (D.ne2 N2).2.symm t3
 refine wpAny_bind (wpAny_seqItems t4 rfl (wpAny_bind (wpAny_updateSeq_pair t4 fun g5 t5 e5=> ?_)))
 replace t5:IsPair g5 TO x y:=t5
 refine wpAny_bind (wpAny_letGo (wpAny_pure (wpAny_pure ?_)))
 refine wpAny_bind (wpAny_seqItems t5 rfl (wpAny_bind (wpAny_newTuple ?_)))
 have sz:g5.objs.size=s.heap.objs.size:=by rw [e5.1,e4.1,e3.1,e2.1,e1.1]
 have z5:IsZip g5 z TI TO .ellipsis:=e5.extBut _ _ D.Oz.symm (e4.extBut _ _ (D.ne2 N2).1.symm (e3.extBut _ _ D.Oz.symm (e2.extBut _ _ (D.ne1 N1).1.symm z1)))
 have k5:∀ c o,c ≠ z->c ≠ TO->c ≠ i1->c ≠ i2->s.heap.get? c=some o->g5.get? c=some o:=fun c o c1 c2 c3 c4 e=>
  e5.extBut _ _ c2 (e4.extBut _ _ c4 (e3.extBut _ _ c2 (e2.extBut _ _ c3 (e1.extBut _ _ c1 e))))
 have r1:S1 (k+1) g5:=N1.but (N1.but (N1.but q1 e3.extBut D.O1) e4.extBut D.b) e5.extBut D.O1
 have r2:S2 (k+1) g5:=N2.but q2 e5.extBut D.O2
 refine wpAny_bind (m:=ownedTupleHandOut (.ref z) (.ref g5.objs.size)) ?_
 unfold ownedTupleHandOut
 have z6:IsZip (g5.push { cls:= .type "tuple",data:= .seq #[x,y] }) z TI TO .ellipsis:=Heap.get?_push_of_some _ z5
 refine wpAny_bind (wpAny_setField_rec z6 (by simp) fun g7 z7 e7=> ?_)
 replace z7:IsZip g7 z TI TO (rawInt g5.objs.size):=z7
 refine wpAny_setField_rec z7 (by simp) fun g8 z8 e8=> ?_
 replace z8:IsZip g8 z TI TO (rawInt g5.objs.size):=z8
 have up:∀ c o,c ≠ z->g5.get? c=some o->g8.get? c=some o:=fun c o c1 e=>e8.extBut _ _ c1 (e7.extBut _ _ c1 (Heap.get?_push_of_some _ e))
 have hn:g5.objs.size ≠ z:=Nat.ne_of_gt (Heap.lt_size z5)
 have t8:IsPair g8 g5.objs.size x y:=e8.extBut _ _ hn (e7.extBut _ _ hn (Heap.get?_push_size _ rfl))
 rw [sz] at z8 t8
 refine wpAny_pure ⟨_,rfl, ?_⟩
 show Q (.ref g5.objs.size) _
 rw [sz]
 exact hQ g8 z8 (up _ _ D.Oz t5) (N1.keep r1 fun c hc o e=>up c o (fun q=>D.z1 (q ▸ hc)) e) (N2.keep r2 fun c hc o e=>up c o (fun q=>D.z2 (q ▸ hc)) e) t8 fun c o c1 c2 c3 c4 e=>up c o c1 (k5 c o c1 c2 c3 c4 e)
theorem gU {Q:Fin->Shared->Prop} (hh:A.handled=none) (N1:Q6 i1 fp1 v1 S1) (N2:Q6 i2 fp2 v2 S2) (D:Ap z TI TO i1 i2 fp1 fp2) (hz:IsZip s.heap z TI TO .none) (hTI:IsPair s.heap TI (.ref i1) (.ref i2)) (hTO:IsPair s.heap TO a b) (p1:S1 k s.heap) (p2:S2 k s.heap) (hend:v1 k=none\/v2 k=none)
  (hE:∀ h' e,(∀ c o,c ≠ z->c ≠ TO->c ≠ i1->c ≠ i2->s.heap.get? c=some o->h'.get? c=some o)->(∃ o,h'.get? e=some o/\o.cls= .type "StopIteration")->E (.ref e) { s with heap:=h' }):
  wpAny (model prog w) A (Builtin.«zip.__next__» ⟨[.ref z],[]⟩) Q E s:=by
 refine wpAny_bind (m:=field (.ref z) 2) (wpAny_field hz rfl (x:= .bool false) rfl (wpAny_bind (m:=field (.ref z) 3) (wpAny_field hz rfl (x:= .ref TI) rfl (wpAny_bind (wpAny_seqItems hTI rfl ?_)))))
 refine wpAny_bind (m:=ownedTupleIsFree (.ref z)) ?_
 unfold ownedTupleIsFree
 refine wpAny_bind (wpAny_field hz rfl (x:= .none) rfl (wpAny_pure ?_))
 simp only [if_true]
 refine wpAny_bind (wpAny_rule (wpAny_bind (wpAny_field hz rfl (x:= .ref TO) rfl (wpAny_bind (wpAny_setField_rec hz (by simp) fun g1 z1 e1=> ?_)))))
 replace z1:IsZip g1 z TI TO .ellipsis:=z1
 refine wpAny_bind ?_
 simp only [List.zipIdx_cons,List.zipIdx_nil,List.forIn_cons,List.forIn_nil]
 have off:∀ {g:Heap} {e:Addr} {oe:Obj},IsZip g z TI TO .ellipsis->g.get? e=some oe->oe.cls= .type "StopIteration"->e ≠ z:=fun hg he hc q=>by
  subst q; rw [hg] at he; cases he; simp at hc
 cases hx:v1 k with
 | none=>
  refine wpAny_bind (wpAny_bind (wpAny_onRaise (wpAny_bind (m:=nextOf (.ref i1)) (N1.stop hh (N1.but p1 e1.extBut D.z1) hx fun g2 e e2 he=> ?_))))
  obtain ⟨oe,ho,hc⟩:=he
  have z2:IsZip g2 z TI TO .ellipsis:=e2 _ _ (D.ne1 N1).1.symm z1
  exact wpAny_setField_rec z2 (by simp) fun g3 _ e3=>hE g3 e (fun c o c1 _ c3 _ q=>e3.extBut _ _ c1 (e2 _ _ c3 (e1.extBut _ _ c1 q))) ⟨oe,e3.extBut _ _ (off z2 ho hc) ho,hc⟩
 | some x=>
  have hy:v2 k=none:=by
   rcases hend with q | q
   ·rw [hx] at q; cases q
   ·exact q
  refine wpAny_bind (wpAny_bind (wpAny_onRaise (wpAny_bind (m:=nextOf (.ref i1)) (N1.item (N1.but p1 e1.extBut D.z1) hx fun g2 q1 e2=>wpAny_pure ?_))))
  have t2:IsPair g2 TO a b:=e2.extBut _ _ (D.ne1 N1).2.symm (e1.extBut _ _ D.Oz hTO)
  refine wpAny_bind (wpAny_seqItems t2 rfl (wpAny_bind (wpAny_updateSeq_pair t2 fun g3 t3 e3=>wpAny_bind (wpAny_letGo (wpAny_pure ?_)))))
  refine wpAny_bind (wpAny_bind (wpAny_onRaise (wpAny_bind (m:=nextOf (.ref i2)) (N2.stop hh (N2.but (N2.but (N2.but p2 e1.extBut D.z2) e2.extBut D.a) e3.extBut D.O2) hy fun g4 e e4 he=> ?_))))
  obtain ⟨oe,ho,hc⟩:=he
  have z4:IsZip g4 z TI TO .ellipsis:=e4 _ _ (D.ne2 N2).1.symm (e3.extBut _ _ D.Oz.symm (e2.extBut _ _ (D.ne1 N1).1.symm z1))
  exact wpAny_setField_rec z4 (by simp) fun g5 _ e5=>hE g5 e (fun c o c1 c2 c3 c4 q=>e5.extBut _ _ c1 (e4 _ _ c4 (e3.extBut _ _ c2 (e2.extBut _ _ c3 (e1.extBut _ _ c1 q))))) ⟨oe,e5.extBut _ _ (off z4 ho hc) ho,hc⟩
theorem gW {Q:Option Value->Shared->Prop} (N1:Q6 i1 fp1 v1 S1) (N2:Q6 i2 fp2 v2 S2) (D:Ap z TI TO i1 i2 fp1 fp2) (hz:IsZip s.heap z TI TO .none) (hTI:IsPair s.heap TI (.ref i1) (.ref i2)) (hTO:IsPair s.heap TO a b) (p1:S1 k s.heap) (p2:S2 k s.heap) (hx:v1 k=some x) (hy:v2 k=some y)
  (hQ:∀ h',IsZip h' z TI TO (rawInt s.heap.objs.size)->IsPair h' TO x y->S1 (k+1) h' ->S2 (k+1) h' ->IsPair h' s.heap.objs.size x y->
   (∀ c o,c ≠ z->c ≠ TO->c ≠ i1->c ≠ i2->s.heap.get? c=some o->h'.get? c=some o)->Q (some (.ref s.heap.objs.size)) { s with heap:=h' }):wpAny (model prog w) A (pyNext (.ref z)) Q E s:=by
 have ty:s.TypeIs (.ref z) "zip":=⟨_,hz,rfl⟩
 unfold pyNext
 exact wpAny_bind (wpAny_attempt (wpAny_callSpecial?_slot (name:=Str.ofString "__next__") ty PySem.F.slot_zip_next (wpAny_call_entry PySem.F.slot_zip_next ty PySem.F.entry_zip_next
  (gT N1 N2 D hz hTI hTO p1 p2 hx hy fun h' a1 a2 a3 a4 a5 a6=>wpAny_pure (hQ h' a1 a2 a3 a4 a5 a6)) (PySem.F.args_zip_next_1 _))))
theorem gX {Q:Option Value->Shared->Prop} (hh:A.handled=none) (N1:Q6 i1 fp1 v1 S1) (N2:Q6 i2 fp2 v2 S2) (D:Ap z TI TO i1 i2 fp1 fp2) (hz:IsZip s.heap z TI TO .none) (hTI:IsPair s.heap TI (.ref i1) (.ref i2)) (hTO:IsPair s.heap TO a b) (p1:S1 k s.heap) (p2:S2 k s.heap) (hend:v1 k=none\/v2 k=none)
  (hQ:∀ h',(∀ c o,c ≠ z->c ≠ TO->c ≠ i1->c ≠ i2->s.heap.get? c=some o->h'.get? c=some o)->Q none { s with heap:=h' }):wpAny (model prog w) A (pyNext (.ref z)) Q E s:=by
 have ty:s.TypeIs (.ref z) "zip":=⟨_,hz,rfl⟩
 unfold pyNext
 refine wpAny_bind (wpAny_attempt (wpAny_callSpecial?_slot (name:=Str.ofString "__next__") ty PySem.F.slot_zip_next (wpAny_call_entry PySem.F.slot_zip_next ty PySem.F.entry_zip_next
  (gU hh N1 N2 D hz hTI hTO p1 p2 hend fun h' e kp he=> ?_) (PySem.F.args_zip_next_1 _))))
 obtain ⟨o,ho,hc⟩:=he
 exact wpAny_bind (wpAny_isInstance (T:="StopIteration") (b:=true) ⟨o,ho,hc⟩ isSubtype_stop (wpAny_pure (hQ _ kp)))
end
end PySem.ZG
namespace PySem.ZG
open PySem PySem.Spec PySem.Builtin.SmallTypes
structure gY (l:Addr) (o:Obj) (P:Heap->Prop):Prop where
 go:∀ {prog:Program} {w:World} {A:Around} {E:Value->Shared->Prop} {s:Shared} {Q:Value->Shared->Prop},P s.heap->Q (.ref s.heap.objs.size) { s with heap:=s.heap.push o }->wpAny (model prog w) A (pyIter (.ref l)) Q E s
 push:∀ {h:Heap} (o' :Obj),P h->P (h.push o')
 fresh:o.isFreed=false
noncomputable abbrev oL (l:Addr):Obj:={ cls:= .type "list_iterator",data:= .fields #[.ref l, .int 0 0] }
noncomputable abbrev oT (l:Addr):Obj:={ cls:= .type "tuple_iterator",data:= .fields #[.ref l, .int 0 0] }
theorem gZ (l:Addr) (xs:Array Value):gY l (oL l) (fun h=>h.IsList l xs):=⟨fun p q=>wpAny_pyIter_list p q,fun o p=>Heap.IsList.push p o,rfl⟩
theorem z0y (l:Addr) (xs:Array Value):gY l (oT l) (fun h=>h.IsTuple l xs):=⟨fun p q=>wpAny_pyIter_tuple p q,fun o p=>Heap.IsTuple.push p o,rfl⟩
noncomputable abbrev zh2 (h:Heap) (o1 o2:Obj):Heap:=(h.push o1).push o2
noncomputable abbrev zh3 (h:Heap) (o1 o2:Obj):Heap:=(zh2 h o1 o2).push { cls:= .type "tuple",data:= .seq #[.ref h.objs.size, .ref (h.push o1).objs.size] }
noncomputable abbrev zh4 (h:Heap) (o1 o2:Obj):Heap:=(zh3 h o1 o2).push { cls:= .type "tuple",data:= .seq #[.none, .none] }
noncomputable abbrev zh5 (h:Heap) (o1 o2:Obj):Heap:=(zh4 h o1 o2).push { cls:= .type "zip",data:= .fields #[.none, .bool false, .bool false, .ref (zh2 h o1 o2).objs.size, .ref (zh3 h o1 o2).objs.size] }
theorem z0z {l1 l2:Addr} {o1 o2:Obj} {P1 P2:Heap->Prop} (J1:gY l1 o1 P1) (J2:gY l2 o2 P2):
  Meets (Builtin.«zip.__new__» ⟨[.type "zip", .ref l1, .ref l2],[]⟩) (fun _ R s=>P1 s.heap/\P2 s.heap/\R (.ok (.ret (.ref (zh4 s.heap o1 o2).objs.size))) { s with heap:=zh5 s.heap o1 o2 }):=
 .of_wp fun prog w A R s h=>by
  obtain ⟨hp,g,d,tk,os⟩:=s
  obtain ⟨q1,q2,h⟩:=h
  have hsub:=sub_zip
  have c1:P1 (Shared.heap ⟨hp,g,d,tk,os⟩):=q1
  have c2:P2 (Shared.heap ⟨hp.push o1,g,d,tk,os⟩):=J2.push o1 q2
  wp_walk using J1.go c1,J2.go c2
  exact ⟨_,rfl,h⟩
end PySem.ZG
namespace PySem.ZG
open PySem PySem.Spec PySem.Builtin.SmallTypes
theorem G1 {prog:Program} {w:World} {A:Around} {E:Value->Shared->Prop} {s:Shared} {l1 l2:Addr} {o1 o2:Obj} {P1 P2:Heap->Prop} {Q:Value->Shared->Prop} (J1:gY l1 o1 P1) (J2:gY l2 o2 P2) (q1:P1 s.heap) (q2:P2 s.heap)
  (h:∀ h' n,n=s.heap.objs.size->IsZip h' (n+4) (n+2) (n+3) .none->IsPair h' (n+2) (.ref n) (.ref (n+1))->IsPair h' (n+3) .none .none->h'.get? n=some o1->h'.get? (n+1)=some o2->
   (∀ c o,s.heap.get? c=some o->h'.get? c=some o)->Q (.ref (n+4)) { s with heap:=h' }):wpAny (model prog w) A (call (.type "zip") [.ref l1, .ref l2]) Q E s:=by
 refine callType_new PySem.F.called_zip (by decide) (PySem.F.typeCall_zip_2 _ _) (PySem.F.newCall_zip_2 _ _) (fun obj=>PySem.F.args_object_init_3 obj _ _) PySem.F.entry_zip_new (z0z J1 J2) ⟨q1,q2, ?_⟩
 have n1:(s.heap.push o1).objs.size=s.heap.objs.size+1:=Heap.size_push ..
 have n2:(zh2 s.heap o1 o2).objs.size=s.heap.objs.size+2:=by rw [Heap.size_push,n1]
 have n3:(zh3 s.heap o1 o2).objs.size=s.heap.objs.size+3:=by rw [Heap.size_push,n2]
 have n4:(zh4 s.heap o1 o2).objs.size=s.heap.objs.size+4:=by rw [Heap.size_push,n3]
 have up:∀ {h:Heap} {c:Addr} {o:Obj} (o' :Obj),h.get? c=some o->(h.push o').get? c=some o:=fun o' e=>Heap.get?_push_of_some o' e
 have e5:(zh5 s.heap o1 o2).get? (zh4 s.heap o1 o2).objs.size=some _:=Heap.get?_push_size _ rfl
 have e4:(zh5 s.heap o1 o2).get? (zh3 s.heap o1 o2).objs.size=some _:=up _ (Heap.get?_push_size _ rfl)
 have e3:(zh5 s.heap o1 o2).get? (zh2 s.heap o1 o2).objs.size=some _:=up _ (up _ (Heap.get?_push_size _ rfl))
 have e2:(zh5 s.heap o1 o2).get? (s.heap.push o1).objs.size=some _:=up _ (up _ (up _ (Heap.get?_push_size _ J2.fresh)))
 have e1:(zh5 s.heap o1 o2).get? s.heap.objs.size=some _:=up _ (up _ (up _ (up _ (Heap.get?_push_size _ J1.fresh))))
 show _/\_
 rw [n2,n3,n4] at e5
 rw [n1,n2] at e3
 rw [n3] at e4
 rw [n1] at e2
 rw [n4]
 exact ⟨⟨_,e5,rfl⟩,h _ _ rfl e5 e3 e4 e1 e2 fun c o q=>up _ (up _ (up _ (up _ (up _ q))))⟩
end PySem.ZG
namespace PV
open PySem PySem.Spec PyProof.Rows L2 PySem.ZG
inductive SK where
 | l | t
noncomputable def SK.it:SK->Heap->Addr->Addr->Nat->Prop
 | .l=>fun h i l k=>h.IsListIter i l k
 | .t=>fun h i l k=>h.IsTupleIter i l k
noncomputable def SK.has:SK->Heap->Addr->Array Value->Prop
 | .l=>fun h l xs=>h.IsList l xs
 | .t=>fun h l xs=>h.IsTuple l xs
noncomputable def SK.sq (K:PySem.W.Frag):SK->Hp->Addr->List V->Prop
 | .l=>fun H a xs=>SqL K H a xs
 | .t=>fun H a xs=>SqT K H a xs
noncomputable def SK.tr:SK->List V->HO
 | .l=> .lst
 | .t=> .tup
noncomputable def SK.ob:SK->Addr->Obj
 | .l=>oL
 | .t=>oT
theorem SK.nx (k:SK) {i l:Addr} (h:l ≠ i) (xs:Array Value):Q6 i [i,l] (fun n=>xs[n]?) (fun n hp=>k.it hp i l n/\k.has hp l xs):=by
 cases k with
 | l=>exact gS h xs
 | t=>exact nx_tup h xs
theorem SK.of (k:SK) (l:Addr) (xs:Array Value):gY l (k.ob l) (fun h=>k.has h l xs):=by
 cases k with
 | l=>exact gZ l xs
 | t=>exact z0y l xs
theorem SK.start (k:SK) {h:Heap} {i l:Addr} (e:h.get? i=some (k.ob l)):k.it h i l 0:=by
 cases k with
 | l=>exact ⟨_,e,rfl,rfl⟩
 | t=>exact ⟨_,e,rfl,rfl⟩
theorem SK.obj {k:SK} {h:Heap} {i l:Addr} {n:Nat} (x:k.it h i l n):∃ o,h.get? i=some o/\∀ v,o.data ≠ .cell v:=by
 cases k with
 | l=>obtain ⟨o,e,_,d⟩:=x; exact ⟨o,e,fun v z=>by rw [d] at z; cases z⟩
 | t=>obtain ⟨o,e,_,d⟩:=x; exact ⟨o,e,fun v z=>by rw [d] at z; cases z⟩
theorem SK.at_ {k:SK} {h h' :Heap} {i l:Addr} {n:Nat} (x:k.it h i l n) (q:∀ o,h.get? i=some o->h'.get? i=some o):k.it h' i l n:=by
 cases k with
 | l=>obtain ⟨o,e,r⟩:=x; exact ⟨o,q o e,r⟩
 | t=>obtain ⟨o,e,r⟩:=x; exact ⟨o,q o e,r⟩
theorem SK.sqOf {K:PySem.W.Frag} (k:SK) {H:Hp} {a:Addr} {xs:List V} (e:H a=some (k.tr xs)):k.sq K H a xs:=by
 cases k with
 | l=>exact SqL.of e
 | t=>exact SqT.of e
theorem Inv.seq {X:Cx} {pins:List (Addr×Obj)} {σ:Sg} {H:Hp} {s:Shared} (I:L2.Inv X pins σ H s) (k:SK) {a:Addr} {xs:List V} (h:k.sq X.K H a xs):∃ its:List Value,ZD xs its/\k.has s.heap a its.toArray/\∃ o,s.heap.get? a=some o:=by
 cases k with
 | l=>
  obtain ⟨its,r,p,_⟩:=I.list h
  obtain ⟨o,_,e,_⟩:=id p
  exact ⟨its,r,p.isList,o,e⟩
 | t=>
  obtain ⟨its,r,p,_⟩:=I.tuple h
  obtain ⟨o,e,_⟩:=id p
  exact ⟨its,r,p,o,e⟩
noncomputable def Itz (K:PySem.W.Frag) (k1 k2:SK) (l1 l2:Addr):It:=
 ⟨fun i H=>∃ xs ys x y,k1.sq K H l1 xs/\k2.sq K H l2 ys/\xs[i]? =some x/\ys[i]? =some y,fun i H v H' =>∃ p x y,H p=none/\v= .ref p/\(∀ xs,k1.sq K H l1 xs->xs[i]? =some x)/\(∀ ys,k2.sq K H l2 ys->ys[i]? =some y)/\H' =upd H p (.tup [x,y]),
  fun i H=>∃ xs ys,k1.sq K H l1 xs/\k2.sq K H l2 ys/\(xs.length<=i\/ys.length<=i)⟩
theorem Inv.seq_inj {X:Cx} {pins:List (Addr×Obj)} {σ:Sg} {H:Hp} {s:Shared} (I:L2.Inv X pins σ H s) (k:SK) {a:Addr} {xs ys:List V} (h:k.sq X.K H a xs) (h' :k.sq X.K H a ys):xs=ys:=by
 cases k with
 | l=>exact I.list_inj h h'
 | t=>exact I.tuple_inj h h'
end PV
namespace PV
open PySem PySem.Spec PyProof.Rows L2 PySem.ZG
theorem nN {a b:Nat} (h:a ≠ b): @Ne Addr a b:=h
theorem nM {a b c:Nat} (h:a ≠ b) (h' :a ≠ c):¬ @Membership.mem Addr (List Addr) _ [b,c] a:=fun q=>by
 rcases List.mem_cons.mp q with z | z
 ·exact h z
 ·exact h' (List.mem_singleton.mp z)
theorem ku {P:Program} {w:World} {K:PySem.W.Frag} {elts:List Expr} {kk:Nat} {pt:Pos} (k1 k2:SK) {n l1 l2:Nat} (h1:l1 < n) (h2:l2 < n):
  Vp P w K (.Tuple elts kk pt) (Itz K k1 k2 l1 l2) [n+4,n+2,n+3,n,n+1] (n+4)
   (fun i h=>IsZip h (n+4) (n+2) (n+3) .none/\IsPair h (n+2) (.ref n) (.ref (n+1))/\(∃ a b,IsPair h (n+3) a b)/\k1.it h n l1 i/\k2.it h (n+1) l2 i):=by
 have D:Ap (n+4) (n+2) (n+3) n (n+1) [n,l1] [n+1,l2]:=by
  refine ⟨nN (by omega),nN (by omega),nN (by omega),nN (by omega),nN (by omega),nM (by omega) (by omega),nM (by omega) (by omega),nM (by omega) (by omega),nM (by omega) (by omega),nM (by omega) (by omega),nM (by omega) (by omega)⟩
 refine ⟨by simp,fun i h st b hb=> ?_,fun i h h' st k=> ?_, ?_, ?_, ?_⟩
 ·obtain ⟨hz,hI,⟨a,c,hO⟩,p1,p2⟩:=st
  simp only [List.mem_cons,List.not_mem_nil,or_false] at hb
  rcases hb with rfl | rfl | rfl | rfl | rfl
  ·exact ⟨_,hz,fun v z=>nomatch z⟩
  ·exact ⟨_,hI,fun v z=>nomatch z⟩
  ·exact ⟨_,hO,fun v z=>nomatch z⟩
  ·exact SK.obj p1
  ·exact SK.obj p2
 ·obtain ⟨hz,hI,⟨a,c,hO⟩,p1,p2⟩:=st
  exact ⟨k _ (by simp) _ hz,k _ (by simp) _ hI,⟨a,c,k _ (by simp) _ hO⟩,SK.at_ p1 fun o e=>k n (by simp) o e,SK.at_ p2 fun o e=>k (n+1) (by simp) o e⟩
 ·intro X hP hw hK hc i pins s σ H E I hf st hg
  subst hP hw hK
  obtain ⟨xs,ys,x,y,s1,s2,hx,hy⟩:=hg
  obtain ⟨hz,hI,⟨a,c,hO⟩,p1,p2⟩:=st
  obtain ⟨its1,r1,b1,_⟩:=Inv.seq I k1 s1
  obtain ⟨its2,r2,b2,_⟩:=Inv.seq I k2 s2
  obtain ⟨u,hu,ru⟩:=r1.get hx
  obtain ⟨v,hv,rv⟩:=r2.get hy
  refine gW (k1.nx (Nat.ne_of_lt h1) its1.toArray) (k2.nx (i:=n+1) (nN (by omega)) its2.toArray) D hz hI hO ⟨p1,b1⟩ ⟨p2,b2⟩ (x:=u) (y:=v) (by simpa using hu) (by simpa using hv) fun g a1 a2 a3 a4 a5 kp=>⟨_,rfl, ?_⟩
  refine wpAny_letOwnedTupleGo_zip a1 fun g2 z2 e2=> ?_
  have hlt:n+4 < s.heap.objs.size:=Heap.lt_size hz
  have ne:∀ b:Nat,b<=n+4->s.heap.objs.size ≠ b:=fun b hb=>by
   have hlt:n+4 < s.heap.objs.size:=hlt
   omega
  have kp2:∀ b o,b ∉ [n+4,n+2,n+3,n,n+1]->s.heap.get? b=some o->g2.get? b=some o:=fun b o hb e=>by
   simp only [List.mem_cons,List.not_mem_nil,or_false,not_or] at hb
   exact e2.extBut _ _ hb.1 (kp b o hb.1 hb.2.2.1 hb.2.2.2.1 hb.2.2.2.2 e)
  have g2P:IsPair g2 s.heap.objs.size u v:=e2.extBut _ _ (ne _ (Nat.le_refl _)) a5
  have g2I:IsPair g2 (n+2) (.ref n) (.ref (n+1)):=e2.extBut _ _ D.Iz (kp _ _ D.Iz D.IO D.I1 D.I2 hI)
  have g2O:IsPair g2 (n+3) u v:=e2.extBut _ _ D.Oz a2
  have q1:k1.it g2 n l1 (i+1):=SK.at_ a3.1 fun o e=>e2.extBut _ _ (nN (by omega)) e
  have q2:k2.it g2 (n+1) l2 (i+1):=SK.at_ a4.1 fun o e=>e2.extBut _ _ (nN (by omega)) e
  have hfr:H s.heap.objs.size=none:=I.hok.fresh (Nat.le_refl _)
  refine ⟨.ref s.heap.objs.size,upd H s.heap.objs.size (.tup [x,y]),Inv.laidT (s:=s) (h' :=g2) (ch:=[n+4,n+2,n+3,n,n+1]) (tk:=s.toks) I hf kp2 (fun b o hb _=> ?_) (Nat.le_refl _)
   ⟨by rw [sizeLine_eq]; show 2<=16777216; decide,[u,v], .cons ru (.cons rv .nil),⟨_,g2P,rfl,_,rfl⟩⟩,rfl,⟨_,x,y,hfr,rfl,fun zs hq=>by rw [← Inv.seq_inj I k1 s1 hq]; exact hx,fun zs hq=>by rw [← Inv.seq_inj I k2 s2 hq]; exact hy,rfl⟩,⟨z2,g2I,⟨u,v,g2O⟩,q1,q2⟩,fun b hb=> ?_⟩
  ·simp only [List.mem_cons,List.not_mem_nil,or_false] at hb
   rcases hb with rfl | rfl | rfl | rfl | rfl
   ·exact ⟨_,z2⟩
   ·exact ⟨_,g2I⟩
   ·exact ⟨_,g2O⟩
   ·obtain ⟨o',e',_⟩:=SK.obj q1; exact ⟨o',e'⟩
   ·obtain ⟨o',e',_⟩:=SK.obj q2; exact ⟨o',e'⟩
  ·have hb2:(b:Nat)<=n+4:=by
    have hb:b=n+4\/b=n+2\/b=n+3\/b=n\/b=n+1:=by simpa using hb
    rcases hb with rfl | rfl | rfl | rfl | rfl
    ·exact Nat.le_refl _
    ·exact Nat.add_le_add_left (by decide) n
    ·exact Nat.add_le_add_left (by decide) n
    ·exact Nat.le_add_right _ _
    ·exact Nat.add_le_add_left (by decide) n
   rw [zW fun z=>ne b hb2 z.symm]
   exact (hf b hb).1
 ·intro X hP hw hK hc i pins s σ H E I hf st hg
  subst hP hw hK
  obtain ⟨xs,ys,s1,s2,hend⟩:=hg
  obtain ⟨hz,hI,⟨a,c,hO⟩,p1,p2⟩:=st
  obtain ⟨its1,r1,b1,_⟩:=Inv.seq I k1 s1
  obtain ⟨its2,r2,b2,_⟩:=Inv.seq I k2 s2
  have l1' :=r1.length
  have l2' :=r2.length
  refine gX (I.ok.hd hc) (k1.nx (Nat.ne_of_lt h1) its1.toArray) (k2.nx (i:=n+1) (nN (by omega)) its2.toArray) D hz hI hO ⟨p1,b1⟩ ⟨p2,b2⟩ (k:=i) ?_ fun g kp=>⟨rfl, ?_⟩
  ·rcases hend with q | q
   ·exact .inl (Array.getElem?_eq_none (by rw [List.size_toArray,← l1']; exact q))
   ·exact .inr (Array.getElem?_eq_none (by rw [List.size_toArray,← l2']; exact q))
  ·have kp2:∀ b o,b ∉ [n+4,n+3,n,n+1]->s.heap.get? b=some o->g.get? b=some o:=fun b o hb e=>by
    simp only [List.mem_cons,List.not_mem_nil,or_false,not_or] at hb
    exact kp b o hb.1 hb.2.1 hb.2.2.1 hb.2.2.2 e
   have nch:∀ b u,H b=some u->b ∉ [n+4,n+3,n,n+1]:=fun b u e hb=>by
    have hb' :b∈[n+4,n+2,n+3,n,n+1]:=by
     simp only [List.mem_cons,List.not_mem_nil,or_false] at hb ⊢
     rcases hb with q | q | q | q
     ·exact .inl q
     ·exact .inr (.inr (.inl q))
     ·exact .inr (.inr (.inr (.inl q)))
     ·exact .inr (.inr (.inr (.inr q)))
    rw [(hf b hb').1] at e; cases e
   refine I.call' (s' :={ s with heap:=g }) (ch:=[n+4,n+3,n,n+1]) rfl ⟨fun b o e _ _ hc=>kp2 b o hc e,fun b o e _ _ hc=>⟨o.slots,kp2 b o hc e⟩,fun b o e q _=>q,fun b o e hc=>⟨o,kp2 b o hc e⟩,fun b ys e=>e,fun b o u e=>e,fun b ps e=>⟨#[],by rw [e]; simp⟩⟩ (fun b u e=> ?_) I.bare fun b hb=> ?_
   ·refine (I.hok b u e).stay (fun c v hc q=>kp2 c v ?_ q) (fun _ q=>q) fun _ _ q=>q
    rcases hc with rfl | hc
    ·exact nch c u e
    ·exact nch c _ hc
   ·have hb' :b∈[n+4,n+2,n+3,n,n+1]:=by
     simp only [List.mem_cons,List.not_mem_nil,or_false] at hb ⊢
     rcases hb with q | q | q | q
     ·exact .inl q
     ·exact .inr (.inr (.inl q))
     ·exact .inr (.inr (.inr (.inl q)))
     ·exact .inr (.inr (.inr (.inr q)))
    obtain ⟨f0,f1,f2,f3,f4,f5⟩:=hf b hb'
    exact ⟨f3,f1,f4,f5⟩
 ·intro A i s Q E st h
  exact wpAny_pyIter_zip st.1 h
noncomputable def kv (xs ys:List T):List T:=(xs.zip ys).map fun p=>T.tup [p.1,p.2]
theorem kw {xs ys:List T} {i:Nat} {t:T} (h:(kv xs ys)[i]? =some t):∃ x y,xs[i]? =some x/\ys[i]? =some y/\t= .tup [x,y]:=by
 unfold kv at h
 rw [List.getElem?_map] at h
 cases e:(xs.zip ys)[i]? with
 | none=>rw [e] at h; cases h
 | some p=>
  rw [e] at h
  cases h
  have:=List.getElem?_zip_eq_some.mp e
  exact ⟨p.1,p.2,this.1,this.2,rfl⟩
theorem Q7 (xs ys:List T):(kv xs ys).length=min xs.length ys.length:=by unfold kv; simp
theorem z0A {K:PySem.W.Frag} {B1 H1:Hp} {k1 k2:SK} {a b:Addr} {xs ys:List V} {ts us:List T} (ha:B1 a=some (k1.tr xs)) (hb:B1 b=some (k2.tr ys)) (ra:Z2 B1 xs ts) (rb:Z2 B1 ys us):rI B1 H1 (Itz K k1 k2 a b) (kv ts us):=fun B2 H2 s1 s2=>by
 have a2:=k1.sqOf (K:=K) (s2 _ _ (s1 _ _ ha))
 have b2:=k2.sqOf (K:=K) (s2 _ _ (s1 _ _ hb))
 rw [Q7]
 refine ⟨fun i hi=> ?_,fun i t x H3 e y=> ?_,fun i hi=>⟨xs,ys,a2,b2, ?_⟩⟩
 ·obtain ⟨v,e1,_⟩:=ra.get (List.getElem?_eq_getElem (show i < ts.length by omega))
  obtain ⟨u,e2,_⟩:=rb.get (List.getElem?_eq_getElem (show i < us.length by omega))
  exact ⟨xs,ys,v,u,a2,b2,e1,e2⟩
 ·obtain ⟨p,v,u,hp,rfl,y1,y2,rfl⟩:=y
  obtain ⟨t1,t2,et,eu,rfl⟩:=kw e
  obtain ⟨v',e1,r1⟩:=ra.get et
  obtain ⟨u',e2,r2⟩:=rb.get eu
  have q1:=y1 xs a2
  have q2:=y2 ys b2
  rw [e1] at q1; cases q1
  rw [e2] at q2; cases q2
  have up:=Zi.ge s2 (zT.new hp (.tup [v,u]))
  exact ⟨zT.new hp _, .tup (wL hp _) (.cons ((r1.mono s1).mono up) (.cons ((r2.mono s1).mono up) .nil))⟩
 ·rw [ra.length,rb.length]; omega
section
variable {X:Cx} {Y:Fx} {a b:Expr} {fa fb:En->R T} {pos p pt:Pos} {elts:List Expr} {kk:Nat}
theorem z0B {ta:TA} (hg:Gl X "zip") (hm:X.mg "zip"=none) (ha:PA X [a,b] ta) (hs:starEach [a,b] X.env=[(false,eval a X.env),(false,eval b X.env)]) (hs2:starEach [b] X.env=[(false,eval b X.env)]):
  PI X (.Tuple elts kk pt) (.Call (.Name "zip" p) [a,b] [] pos) (fun σ H R=>ta σ H fun vs H1=>∃ k1 k2 l1 l2 xs ys,vs=[.ref l1, .ref l2]/\H1 l1=some (SK.tr k1 xs)/\H1 l2=some (SK.tr k2 ys)/\R (Itz X.K k1 k2 l1 l2) H1):=by
 intro pins s σ H R I h
 refine Call_ (wH I hg hm PyProof.Rows.Boot.«zip» (PyProof.Rows.callWith_type1 (thn (ha pos pins s σ H _ I h) fun us s1 ⟨vs,H1,I1,r1,q1⟩=> ?_) (by rw [hs,hs2]) (by rw [hs2]; rfl)))
 obtain ⟨k1,k2,l1,l2,xs,ys,e,h1,h2,q⟩:=q1
 subst e
 obtain ⟨u,v,rfl,ru,rv⟩:=VE r1
 obtain rfl:u=Value.ref l1:=ru
 obtain rfl:v=Value.ref l2:=rv
 obtain ⟨its1,_,b1,o1,e1⟩:=Inv.seq I1 k1 (k1.sqOf h1)
 obtain ⟨its2,_,b2,o2,e2⟩:=Inv.seq I1 k2 (k2.sqOf h2)
 refine G1 (k1.of l1 its1.toArray) (k2.of l2 its2.toArray) b1 b2 fun g n hn z1 z2 z3 z4 z5 kp=>wpAny_pyIter_zip z1 ?_
 subst hn
 have f:∀ b∈[s1.heap.objs.size+4,s1.heap.objs.size+2,s1.heap.objs.size+3,s1.heap.objs.size,s1.heap.objs.size+1],Yx X pins H1 b:=fun b hb=>by
  have hb' :s1.heap.objs.size<=b:=by
   simp only [List.mem_cons,List.not_mem_nil,or_false] at hb
   rcases hb with rfl | rfl | rfl | rfl | rfl
   ·exact Nat.le_add_right _ _
   ·exact Nat.le_add_right _ _
   ·exact Nat.le_add_right _ _
   ·exact Nat.le_refl _
   ·exact Nat.le_add_right _ _
  exact I1.fpOk hb' (I1.hok.fresh hb')
 exact ⟨s1.heap.objs.size+4,_,_,_,H1,rfl,I1.kept (t' :=s1.toks) kp,ku k1 k2 (Heap.lt_size e1) (Heap.lt_size e2),⟨z1,z2,⟨_,_,z3⟩,SK.start k1 z4,SK.start k2 z5⟩,f,q⟩
noncomputable def Y0:T->R (List T)
 | .lst xs=> .ok xs
 | .tup xs=> .ok xs
 | _=> .bad
noncomputable def z2b (fa fb:En->R T):En->R (List T):=fun ρ=>(fa ρ).bind fun t=>(fb ρ).bind fun u=>(Y0 t).bind fun xs=>(Y0 u).bind fun ys=> .ok (kv xs ys)
theorem xp {B:Hp} {v:V} {t:T} {xs:List T} (r:Rep B v t) (e:Y0 t= .ok xs):∃ (k:SK) (a:Addr) (vs:List V),v= .ref a/\B a=some (k.tr vs)/\Z2 B vs xs:=by
 cases r with
 | lst h r=>cases e; exact ⟨.l,_,_,rfl,h,r⟩
 | tup h r=>cases e; exact ⟨.t,_,_,rfl,h,r⟩
 | _=>cases e
theorem QT (t:T) (c:Nat):Y0 t ≠ .ex c:=by cases t <;> exact fun z=>nomatch z
theorem z2c (hg:Gl X "zip") (hm:X.mg "zip"=none) (ha:Snd X Y a fa) (hb:Snd X Y b fb) (hs:starEach [a,b] X.env=[(false,eval a X.env),(false,eval b X.env)]:=by exact st2 rfl rfl) (hs2:starEach [b] X.env=[(false,eval b X.env)]:=by exact st1 rfl):
  Vt X Y (.Tuple elts kk pt) (.Call (.Name "zip" p) [a,b] [] pos) (z2b fa fb):= .mk fun ρ=>
 PI.imp (z0B hg hm (zS (ha ρ) (zS (hb ρ) ZW hs2) (by rw [hs,hs2])) hs hs2) fun σ H R ⟨B,I,q⟩=>step I q fun t v H1 _ s1 r1 I1 q1=>step I1 q1 fun u v' H2 _ s2 r2 I2 q2=>by
  cases e1:Y0 t with
  | bad=>rw [e1] at q2; exact q2.elim
  | ex c=>exact absurd e1 (QT _ _)
  | ok xs=>
   rw [e1] at q2
   cases e2:Y0 u with
   | bad=>rw [e2] at q2; exact q2.elim
   | ex c=>exact absurd e2 (QT _ _)
   | ok ys=>
    rw [e2] at q2
    obtain ⟨k1,a1,vs1,rfl,h1,w1⟩:=xp (r1.mono (Zi.ge I1.sB s2)) e1
    obtain ⟨k2,a2,vs2,rfl,h2,w2⟩:=xp r2 e2
    exact ⟨k1,k2,a1,a2,vs1,vs2,rfl,I2.sB _ _ h1,I2.sB _ _ h2,w4 I2 (show Po Y rI _ H2 (.ok (kv xs ys)) R from q2) (z0A h1 h2 w1 w2)⟩
end
end PV
namespace PV
open PySem PySem.Spec PyProof.Rows L2
section
variable {X:Cx} {Y:Fx} {a b:Expr} {fa fb:En->R T} {pos p p' pos' :Pos}
noncomputable def Yt:T->R T
 | .bl b=> .ok (.int (b2 b))
 | .int i=> .ok (.int i)
 | _=> .bad
theorem z2d (v:V) (t:T) (B H:Hp) (Q:VK) (r:Rep B v t) (sB:zT B H) (q:Po Y rC B H (Yt t) Q):
  (∃ i,[v]=[V.int i]/\Q (.int i) H)\/∃ k,[v]=[V.bl k]/\Q (.int (if k then 1 else 0)) H:=by
 cases r with
 | int i=>exact .inl ⟨i,rfl,po0 sB q rfl (.int i)⟩
 | bl k=>exact .inr ⟨k,rfl,po0 sB q rfl (by cases k <;> exact .int _)⟩
 | _=>exact q.elim
theorem QU (gl:Gl X "int") (mg:X.mg "int"=none) (ha:Snd X Y a fa) (hs:St1 X a:=by exact st1 rfl):Snd X Y (.Call (.Name "int" p) [a] [] pos) (ap1 Yt fa):=
 Kf VG z2d gl mg (PyProof.Rows.Boot.«int») ha hs
theorem xr:Jn X (.type "range") (fun xs H Q=>∃ i j,xs=[.int i, .int j]/\∀ r,H r=none->Q (.ref r) (upd H r (.rng i j))):=by
 intro pins s σ H xs us Q I r h
 obtain ⟨i,j,rfl,q⟩:=h
 obtain ⟨u,v,rfl,ru,rv⟩:=VE r
 obtain ⟨t,rfl⟩:=ru
 obtain ⟨t',rfl⟩:=rv
 exact call_range_2 ⟨.ref s.heap.objs.size,_,I.laid (t' :=s.toks+1) (fun b o e=>Heap.get?_push_of_some _ e) (Nat.le_refl _) (show jl X.prog X.w _ _ _ (.rng i j) from ⟨_,_,_,Heap.get?_push_size _ rfl⟩),rfl,q _ (I.hok.fresh (Nat.le_refl _))⟩
noncomputable def XL (lo:Int) (n:Nat):List V:=(List.range n).map fun (i:Nat)=>V.int (lo+(i:Int))
theorem Y1 (hh:X.A.handled=none):Jn X (.type "list") (fun xs H Q=>∃ r lo hi,xs=[.ref r]/\H r=some (.rng lo hi)/\(-1000000 < lo/\lo < 1000000/\ -1000000 < hi/\hi < 1000000)/\∀ l,H l=none->Q (.ref l) (upd H l (.lst (XL lo (hi - lo).toNat)))):=by
 intro pins s σ H xs us Q I rv h
 obtain ⟨r,lo,hi,rfl,e,⟨c1,c2,c3,c4⟩,q⟩:=h
 obtain ⟨u,rfl,ru⟩:=wI rv
 obtain rfl:u=Value.ref r:=ru
 obtain ⟨t,v,v',eo⟩:=(show jl X.prog X.w H s.heap r (.rng lo hi) from I.hok r _ e)
 have hn:Builtin.Range.rangeSize lo hi 1=((hi - lo).toNat:Int):=by rw [rangeSize_one]; split <;> omega
 refine call_list_range (n:=(hi - lo).toNat) hh eo (small_one (by omega) (by omega) (by omega) (by omega)) hn (by omega) fun h' tk acc c kp eo' hacc=> ?_
 have hv:ZD (XL lo (hi - lo).toNat) acc.toList:=by
  have key:∀ (n:Nat) (lo:Int) (vs:List Value),vs.length=n->(∀ (j:Nat) (v:Value),vs[j]? =some v->∃ t,v=Value.int (lo+(j:Int)) t)->ZD (XL lo n) vs:=by
   intro n
   induction n with
   | zero=>
    intro lo vs hl _
    rw [List.eq_nil_of_length_eq_zero hl]
    exact .nil
   | succ n ih=>
    intro lo vs hl hv
    cases vs with
    | nil=>cases hl
    | cons v vs=>
     have e:XL lo (n+1)=V.int (lo+0) :: XL (lo+1) n:=by
      unfold XL
      rw [List.range_succ_eq_map,List.map_cons,List.map_map]
      refine congrArg _ (List.map_congr_left fun j _=> ?_)
      show V.int (lo+((j+1:Nat):Int))=V.int (lo+1+(j:Int))
      congr 1; omega
     rw [e]
     refine .cons (hv 0 v rfl) (ih (lo+1) vs (by simpa using hl) fun j x hx=> ?_)
     obtain ⟨t,z⟩:=hv (j+1) x (by simpa using hx)
     exact ⟨t,by rw [z]; congr 1; omega⟩
  refine key _ lo acc.toList (by simpa using hacc.1) fun j v hj=> ?_
  obtain ⟨t,z⟩:=hacc.2 j v (by simpa using hj)
  exact ⟨t,by rw [z]; congr 1; omega⟩
 have hz:(XL lo (hi - lo).toNat).length<=sizeLine:=by
  rw [sizeLine_eq]; unfold XL; rw [List.length_map,List.length_range]; omega
 exact ⟨.ref s.heap.objs.size,_,I.laid (t' :=tk) kp (Nat.le_refl _) (show jl X.prog X.w _ h' _ (.lst _) from ⟨hz,acc.toList,c,hv,by simpa using eo'⟩),rfl,q _ (I.hok.fresh (Nat.le_refl _))⟩
noncomputable def z1t (fi:En->R (List T)):En->R T:=fun ρ=>(fi ρ).bind fun ts=> .ok (.lst ts)
theorem xt {B:Hp} (lo:Int) (n:Nat):Z2 B (XL lo n) (rng lo n):=by
 unfold XL rng
 induction List.range n with
 | nil=>exact .nil
 | cons i is ih=>exact .cons (.int _) ih
theorem G2 (hh:X.A.handled=none) (gl:Gl X "list") (mg:X.mg "list"=none) (gl' :Gl X "range") (mg' :X.mg "range"=none) (ha:Snd X Y a fa) (hb:Snd X Y b fb)
  (hs:starEach [a,b] X.env=[(false,eval a X.env),(false,eval b X.env)]:=by exact st2 rfl rfl) (hs2:St1 X b:=by exact st1 rfl):Snd X Y (.Call (.Name "list" p) [.Call (.Name "range" p') [a,b] [] pos'] [] pos) (z1t (uZ fa fb)):= .mk fun ρ=>
 PE.imp (WK (Y1 hh) gl mg PyProof.Rows.Boot.«list» (zS (WK xr gl' mg' boot_range (zS (ha ρ) (zS (hb ρ) ZW hs2) (by rw [hs,hs2])) (by decide) (by decide) (by rw [hs,hs2]) (by rw [hs2]; rfl)) ZW (st1 rfl)) (by decide) (by decide) (st1 rfl) rfl) fun σ H Q ⟨B,I,q⟩=>by
  have q:Po Y rC B H ((fa ρ).bind fun t=>(fb ρ).bind fun t' =>(match t,t' with | .int i, .int j=>if -1000000 < i/\i < 1000000/\ -1000000 < j/\j < 1000000 then R.ok (rng i (j - i).toNat) else .bad | _,_=> .bad).bind fun ts=> .ok (.lst ts)) Q:=by
   revert q
   unfold z1t uZ
   cases fa ρ with
   | ok t=>cases fb ρ <;> exact fun q=>q
   | ex c=>exact fun q=>q
   | bad=>exact fun q=>q
  refine step I q fun t v H1 _ s1 r1 I1 q1=>step I1 q1 fun t' v' H2 _ s2 r2 I2 q2=> ?_
  cases r1 with
  | int i=>
   cases r2 with
   | int j=>
    by_cases c: -1000000 < i/\i < 1000000/\ -1000000 < j/\j < 1000000
    ·dsimp only at q2
     rw [if_pos c] at q2
     refine ⟨i,j,rfl,fun r hr=>⟨r,i,j,rfl,Zq,c,fun l hl=> ?_⟩⟩
     have hlr:l ≠ r:=fun z=>by rw [z,Zq] at hl; cases hl
     have hl2:H2 l=none:=by rw [zW hlr] at hl; exact hl
     refine q2 _ _ (zT.new hr _ |>.trans (zT.new hl _)) (.lst ?_ (xt _ _))
     rw [jm hl2,Zq]
    ·dsimp only at q2
     rw [if_neg c] at q2
     exact q2.elim
   | _=>exact q2.elim
  | _=>cases r2 <;> exact q2.elim
noncomputable def mvS (i j:Nat):En->RS:=fun ρ=>match ρ[j]? with
 | some (.ow ts)=> .nx ((ρ.set j (.vl (.lst ts))).set i (.vl (.lst ts)))
 | _=> .bad
theorem SI.give {Y:Fx} {B:Hp} {ρ:En} {σ:Sg} {H:Hp} (I:SI Y B ρ σ H) {j:Nat} {ts:List T} (hj:ρ[j]? =some (.ow ts)):∃ (a:Addr) (B' :Hp),σ[j]? =some (some (V.ref a))/\zT B B' /\Rep B' (.ref a) (.lst ts)/\SI Y B' (ρ.set j (.vl (.lst ts))) σ H:=by
 obtain ⟨a,xs,e,b0,h0,hh,rr,d⟩:=I.ow j ts hj
 have s1:zT B (upd B a (.lst xs)):=zT.new b0 _
 have rp:Rep (upd B a (.lst xs)) (.ref a) (.lst ts):= .lst Zq (rr.mono s1)
 refine ⟨a,_,e,s1,rp,⟨I.s0,I.sH,fun b o q=> ?_,fun b o q=> ?_,by rw [List.length_set]; exact I.len,fun k t q=> ?_,fun k us q=> ?_,fun k c q=> ?_⟩⟩
 ·by_cases hb:b=a
  ·subst hb; rw [Zq] at q; cases q; exact hh
  ·rw [zW hb] at q; exact I.sB b o q
 ·rw [zW fun z=>by rw [z,h0] at q; cases q]; exact I.old b o q
 ·rcases Zr q with ⟨rfl,z⟩ | ⟨_,z⟩
  ·cases z; exact ⟨_,e,rp⟩
  ·obtain ⟨v,e1,r⟩:=I.vl k t z; exact ⟨v,e1,r.mono s1⟩
 ·rcases Zr q with ⟨rfl,z⟩ | ⟨hk,z⟩
  ·cases z
  ·obtain ⟨a',xs',e',b0',h0',hh',rr',d'⟩:=I.ow k us z
   have hne:a' ≠ a:=fun w=>by subst w; exact d k us hk z e'
   refine ⟨a',xs',e',by rw [zW hne]; exact b0',h0',hh',rr'.mono s1,fun m ws hm hw=> ?_⟩
   rcases Zr hw with ⟨rfl,w⟩ | ⟨_,w⟩
   ·cases w
   ·exact d' m ws hm w
 ·rcases Zr q with ⟨rfl,z⟩ | ⟨_,z⟩
  ·cases z
  ·obtain ⟨a',e',r⟩:=I.xc k c z; exact ⟨a',e',s1 _ _ r⟩
theorem s_mv {i j:Nat} {x y:Str} {yp:Pos} (hv:PE X (.Name y yp) (KI j)) (hN:X.N.Nodup) (hi:X.N[i]? =some x) (hx:L2.Loc X.env.scope x) (hs:swapsWith (.Name y yp) (some (.Name x p')) pos.line X.env=pure false:=by rfl)
  (hf:X.fn x=true\/X.env.scope.names.lookup x=some .local:=by first | exact .inl rfl | exact .inr rfl | assumption):yU X Y (.Assign [.Name x p'] (.Name y yp) pos) (mvS i j):= .mk fun ρ=>
 PS.imp (Vy hN hi hx hv hs hf) fun D σ H ⟨B,I,q⟩=>by
  unfold mvS at q
  split at q
  ·rename_i ts e
   obtain ⟨a,B',e1,s1,r,J⟩:=I.give e
   exact ⟨_,e1,q _ _ B' s1 (J.setV i r)⟩
  ·exact q.elim
end
end PV
namespace PV
open PySem PySem.Spec PyProof.Rows L2
section
variable {X:Cx} {Y:Fx} {a b:Expr} {fa fb:En->R T} {pos p p' pos' :Pos}
end
end PV
namespace PV
open PySem PySem.Spec PyProof.Rows L2
noncomputable def JD:List T->Option (List Int)
 | []=>some []
 | .int i :: r=>match JD r with | some l=>some (i :: l) | none=>none
 | _ :: _=>none
noncomputable def G4:T->R T
 | .lst ts=>match JD ts with | some l=> .ok (.int l.sum) | none=> .bad
 | _=> .bad
noncomputable def z1u (fi:En->R (List T)) (g:T->En->R En) (ft:En->R Bool) (fe:En->R T) (k:Nat) (js:List Nat):En->RS:=fun ρ=>(fi (frz ρ)).s fun ts=>(zG g ft fe k js (frz ρ) ts).s fun vs=> .rf vs
theorem Q8:∀ {H:Hp} {xs:List V} {ts:List T} {its:List Value} {is:List Int},Z2 H xs ts->ZD xs its->JD ts=some is->∃ ps:List (Int×Tok),its=ps.map (fun p=>Value.int p.1 p.2)/\ps.map (·.1)=is
 | _,_,_,_,is, .nil, .nil,h=>by
  have h' :some []=some is:=h
  cases h'
  exact ⟨[],rfl,rfl⟩
 | H,_,_,_,is, .cons (v:=x) (t:=t) r rs, .cons (b:=u) rv vs,h=>by
  cases r with
  | int i=>
   unfold JD at h
   split at h
   ·rename_i l e
    cases h
    obtain ⟨ps,h1,h2⟩:=Q8 rs vs e
    obtain ⟨tk,rfl⟩:=rv
    exact ⟨(i,tk) :: ps,by rw [h1]; rfl,by rw [List.map_cons,h2]⟩
   ·cases h
  | _=>cases h
section
variable {X:Cx} {Y:Fx} {a b:Expr} {fa fb:En->R T} {pos p p' pos' :Pos}
theorem xu (hh:X.A.handled=none):Jn X (.builtin "sum") (fun vs H Q=>∃ l xs ts is,vs=[.ref l]/\H l=some (.lst xs)/\Z2 H xs ts/\JD ts=some is/\Q (.int is.sum) H):=by
 intro pins s σ H vs us Q I rv h
 obtain ⟨l,xs,ts,is,rfl,hl,r,hk,q⟩:=h
 obtain ⟨u,rfl,ru⟩:=wI rv
 obtain rfl:u=Value.ref l:=ru
 obtain ⟨its,rv,p,_⟩:=Zg I (.inl hl) r
 obtain ⟨ps,h1,h2⟩:=Q8 r rv hk
 have e:its.toArray=intItems ps.toArray:=by rw [h1]; simp [intItems]
 rw [e] at p
 refine sum_intListG hh p fun h' tk t' kp=> ?_
 have e2:preSum (numAt ps.toArray) ps.toArray.size=is.sum:=by
  rw [preSum_eq,List.take_of_length_le (by simp),← h2]
 rw [e2]
 exact ⟨.int is.sum,H,I.kept (t' :=tk) kp,⟨t',rfl⟩,q⟩
theorem z0C (hh:X.A.handled=none) (gl:Gl X "sum") (mg:X.mg "sum"=none) (ha:ue X Y a fa) (hs:St1 X a:=by exact st1 rfl):Snd X Y (.Call (.Name "sum" p) [a] [] pos) (ap1 G4 fa):=
 YO (xu hh) (fun v t B H Q r sB q=>by
  cases r with
  | @lst l xs ts h r=>
   have q:Po Y rC B H (match JD ts with | some k=> .ok (.int k.sum) | none=> .bad) Q:=q
   split at q
   ·rename_i k e
    exact ⟨l,xs,ts,k,rfl,h,r,e,po0 sB q rfl (.int _)⟩
   ·exact q.elim
  | _=>exact q.elim) gl mg boot_sum ha hs
end
section
variable {X:Cx} {Y:Fx} {a b:Expr} {fa fb:En->R T} {pos p p' pos' :Pos}
end
section
variable {X:Cx} {Y:Fx} {tg iter elt:Expr} {ifs:List Expr} {scope:Scope} {pos pos' :Pos} {N' :List Str} {k:Nat} {js:List Nat} {fi:En->R (List T)} {tG:TG} {g:T->En->R En} {ft:En->R Bool} {fe:En->R T}
theorem z0D (C:QR X Y tg iter elt ifs scope N' k js fi tG g ft fe):yU X Y (.Return (some (.ListComp elt [⟨tg,iter,ifs,0⟩] scope pos)) pos') (z1u fi g ft fe k js):= .mk fun ρ=>by
 have pe:PE X (.ListComp elt [⟨tg,iter,ifs,0⟩] scope pos) (fun σ H Q=>∃ B,SI Y B (frz ρ) σ H/\PoS Y B ((fi (frz ρ)).s fun ts=>(zG g ft fe k js (frz ρ) ts).s fun vs=> .rf vs) { nx:=fun _ _=>False,rt:=Q }):=by
  intro pins s σ H Q I ⟨B,J,q⟩
  rw [eval_ListComp]
  refine yW (use:=none) (Q:=EP X pins σ Q) (F:=fun D H' =>Q (.ref D) H') (te:=fun σ H Q=>∃ Y' ρ',Y'.cl=Y.cl/\tS Y' rC fe ρ' σ H Q) (tt:=fun σ H Q=>∃ Y' ρ',Y'.cl=Y.cl/\tS Y' rE ft ρ' σ H Q) C.sc C.cp C.cm (C.it (frz ρ)) C.gt
   (fun cl Cx' s3 H3 fp pins pins' s σ H Q I ⟨Y',ρ',ey,q⟩=>C.tt Y' ey cl Cx' s3 H3 fp pins ρ' pins' s σ H Q I q) (fun cl Cx' s3 H3 fp pins pins' s σ H Q I ⟨Y',ρ',ey,q⟩=>C.el Y' ey cl Cx' s3 H3 fp pins ρ' pins' s σ H Q I q) I ?_ ?_ C.hs
  ·refine uY J q fun ts it' H1 _ s1 r1 J1 q1=> ?_
   intro D hD
   unfold zG at q1
   split at q1
   ·rename_i hl
    cases ev:Z5 g ft fe ts (qV k js (frz ρ)) with
    | bad=>rw [ev] at q1; exact q1.elim
    | ex c=>rw [ev] at q1; exact q1.elim
    | ok vs=>
     rw [ev] at q1
     refine Ux C.gk C.gn J1 r1 hl ev hD fun H' xs B' s' e' r' l' b' sb' => ?_
     exact (show PoS Y _ (.rf vs) _ from q1) D xs H' B' (J1.sH.trans s') (J1.sH.free hD) e' r' b' (l'.trans (Kh J1.sH J1.old s' J1.sB))
   ·exact q1.elim
  ·intro D Cc H' s' I' q' hC h0 hL hcell hpin hns
   obtain ⟨m,hm⟩:=hns
   refine ⟨m,hm,fun h' hsb=>⟨.ref D,H', ?_,rfl,q'⟩⟩
   exact I'.turned (t' :=s'.toks) (fun b o hb e=>hsb.extBut b o hb e) hC (Ne.symm hL).symm (.inr h0) hcell hpin
 refine PS.imp (K6 pe) fun D σ H ⟨B,I,q⟩=>⟨_,I.frz, ?_⟩
 have q:=PoS.up I.up q
 unfold z1u at q
 revert q
 cases fi (frz ρ) with
 | bad=>exact fun q=>q
 | ex c=>exact fun q=>q
 | ok ts=>
  show PoS Y _ ((zG g ft fe k js (frz ρ) ts).s fun vs=> .rf vs) D->PoS Y _ ((zG g ft fe k js (frz ρ) ts).s fun vs=> .rf vs) _
  cases zG g ft fe k js (frz ρ) ts with
  | bad=>exact fun q=>q
  | ex c=>exact fun q=>q
  | ok vs=>exact fun q=>q
end
section
variable {P:Program} {w:World} {K:PySem.W.Frag} {mg:Str->Option Value} {base:Heap}
end
end PV
namespace PySem.RV
open PySem PySem.Spec PyProof.Rows PySem.Builtin.SmallTypes
theorem QV:Manifest.owners.lookup (String.ofList "desrever".toList.reverse)=some Manifest.sig_reversed:=by kernel_rfl
theorem wQ:Slot "reversed" "__next__" "reversed.__next__":=
 .of (owner:="reversed") (n:="__next__") (by rw [typeLookup_type,builtinLookup_eq_fast]; kernel_rfl) (by decide+kernel) (by decide+kernel) (by decide+kernel)
  (by first | exact .inl (by decide+kernel) | exact .inr (by decide+kernel)) (by rw [isSubtype_type]; kernel_rfl)
theorem yv:entryFor table "reversed.__next__"=some Builtin.«reversed.__next__»:=entryFor_of_tree (by kernel_rfl)
theorem YW (a:Value):argsOk "reversed.__next__" ⟨[a],[]⟩:=by
 unfold argsOk; rw [signature?_of (id:="reversed.__next__") (n:="__txen__".toList) (o:="desrever".toList) (by kernel_rfl) QV]; kernel_rfl
theorem YX:Slot "reversed" "__iter__" "reversed.__iter__":=
 .of (owner:="reversed") (n:="__iter__") (by rw [typeLookup_type,builtinLookup_eq_fast]; kernel_rfl) (by decide+kernel) (by decide+kernel) (by decide+kernel)
  (by first | exact .inl (by decide+kernel) | exact .inr (by decide+kernel)) (by rw [isSubtype_type]; kernel_rfl)
theorem xv (a:Value):argsOk "reversed.__iter__" ⟨[a],[]⟩:=by
 unfold argsOk; rw [signature?_of (id:="reversed.__iter__") (n:="__reti__".toList) (o:="desrever".toList) (by kernel_rfl) QV]; kernel_rfl
theorem vK:entryFor table "reversed.__iter__"=some Builtin.«dict_keyiterator.__iter__»:=
 entryFor_alias (id' :="dict_keyiterator.__iter__") (by kernel_rfl) (by first | rfl | decide+kernel | (unfold String.splitOn; simp+decide [String.splitOnAux])) (by decide+kernel) (by kernel_rfl)
theorem z0E:typeLookup (.type "tuple") "__reversed__"=pure none:=by rw [typeLookup_type,builtinLookup_eq_fast]; kernel_rfl
theorem z0F:isSubtype (.type "tuple") (.type "dict")=pure false:=by rw [isSubtype_type]; kernel_rfl
noncomputable abbrev IsRv (h:Heap) (it:Addr) (v:Value) (i:Int):Prop:=h.get? it=some { cls:= .type "reversed",data:= .fields #[v,rawInt i] }
section
variable {prog:Program} {w:World} {A:Around} {E:Value->Shared->Prop} {s:Shared} {it l:Addr} {xs:Array Value}
theorem Q9 {v:Value} {i:Int} (x:IsRv s.heap it v i):s.TypeIs (.ref it) "reversed":=⟨_,x,rfl⟩
theorem next_item {i:Nat} {x:Value} {Q:Option Value->Shared->Prop} (hit:IsRv s.heap it (.ref l) (i:Int)) (ht:IsTup s.heap l xs) (hf:(xs.size:Int) < 2 ^ 63) (hx:xs[i]? =some x)
  (hQ:∀ h' tk,IsRv h' it (.ref l) ((i:Int) - 1)->Heap.SameBut it s.heap h' ->Q (some x) { s with heap:=h',toks:=tk }):wpAny (model prog w) A (pyNext (.ref it)) Q E s:=by
 unfold pyNext
 refine wpAny_bind (wpAny_attempt (wpAny_callSpecial?_slot (name:=Str.ofString "__next__") (Q9 hit) wQ (wpAny_call_entry wQ (Q9 hit) yv ?_ (YW _))))
 unfold Builtin.«reversed.__next__»
 refine wpAny_bind (wpAny_of_eq (a:=(Value.ref it,[])) rfl ?_)
 dsimp only
 refine wpAny_bind (wpAny_field hit rfl (x:= .ref l) rfl ?_)
 refine wpAny_bind (wpAny_field hit rfl (x:=rawInt (i:Int)) rfl ?_)
 show wpAny _ _ (if (i:Int) < 0 then _ else _) _ _ s
 rw [if_neg (by omega)]
 have hi:i < xs.size:=(Array.getElem?_eq_some_iff.mp hx).1
 have hT:=ht.typeIs (s:=s)
 refine wpAny_bind (wpAny_specialOf hT slot_tuple_getitem.lookup ?_)
 show wpAny _ _ (if (some _:Option Value).isNone=true then _ else _) _ _ s
 rw [if_neg (by simp)]
 refine wpAny_bind (wpAny_mkInt ?_)
 refine wpAny_bind (wpAny_attempt (getItem_tuple (s:={ s with toks:=s.toks+1 }) ht (by omega) (by omega) (seqIndex_of (by omega) (by omega)) (by simpa using hx) ?_))
 dsimp only
 refine wpAny_bind (wpAny_field (s:={ s with toks:=s.toks+1 }) hit rfl (x:=rawInt (i:Int)) rfl ?_)
 show wpAny _ _ (setField (.ref it) 1 (rawInt ((i:Int) - 1)) >>= _) _ _ _
 refine wpAny_bind (wpAny_setField_rec (s:={ s with toks:=s.toks+1 }) hit (by simp) fun g1 z1 e1=> ?_)
 exact wpAny_pure ⟨x,rfl,wpAny_pure (hQ g1 _ z1 e1)⟩
theorem next_end {Q:Option Value->Shared->Prop} (hh:A.handled=none) (hit:IsRv s.heap it (.ref l) (-1))
  (hQ:∀ h',Heap.ExtBut it s.heap h' ->Q none { s with heap:=h' }):wpAny (model prog w) A (pyNext (.ref it)) Q E s:=by
 unfold pyNext
 refine wpAny_bind (wpAny_attempt (wpAny_callSpecial?_slot (name:=Str.ofString "__next__") (Q9 hit) wQ (wpAny_call_entry wQ (Q9 hit) yv ?_ (YW _))))
 unfold Builtin.«reversed.__next__»
 refine wpAny_bind (wpAny_of_eq (a:=(Value.ref it,[])) rfl ?_)
 dsimp only
 refine wpAny_bind (wpAny_field hit rfl (x:= .ref l) rfl ?_)
 refine wpAny_bind (wpAny_field hit rfl (x:=rawInt (-1)) rfl ?_)
 show wpAny _ _ (if (-1:Int) < 0 then _ else _) _ _ s
 rw [if_pos (by decide)]
 refine wpAny_bind (wpAny_rule ?_)
 refine wpAny_bind (show wpAny _ _ (do setField (.ref it) 1 (rawInt (-1)); setField (.ref it) 0 .none) _ _ _ from ?_)
 refine wpAny_bind (wpAny_setField_rec hit (by simp) fun g1 z1 e1=> ?_)
 refine wpAny_setField_rec (s:={ s with heap:=g1 }) z1 (by simp) fun g2 z2 e2=> ?_
 refine wpAny_bind (show wpAny _ _ (newExc (.type "StopIteration") [] >>= fun e=>raiseNew e) _ _ _ from ?_)
 refine wpAny_bind ?_
 simp only [newExc,newTuple]
 refine wpAny_bind (wpAny_newObj_type (wpAny_bind (m:=firstArgMember _ _) (wpAny_of_eq (a:=Value.none) (by first | rfl | (simp only [firstArgMember]; rfl)) (wpAny_newObj_type ?_ (by size_fits)))) (by size_fits))
 simp only [raiseNew]
 refine wpAny_bind (wpAny_handled ?_)
 rw [show A.in1.handled=none from hh]
 refine wpAny_bind (wpAny_pure (wpAny_throw ?_))
 refine wpAny_bind (wpAny_isInstance (T:="StopIteration") (b:=true) ⟨_,Heap.get?_push_size _ rfl,rfl⟩ isSubtype_stop ?_)
 exact wpAny_pure (hQ _ (((e1.extBut.trans e2.extBut).push _).push _))
theorem iter_rv {v:Value} {i:Int} {Q:Value->Shared->Prop} (hit:IsRv s.heap it v i) (h:Q (.ref it) s):wpAny (model prog w) A (pyIter (.ref it)) Q E s:=by
 refine wpAny_pyIter_slot (Q9 hit) YX (wpAny_call_entry YX (Q9 hit) vK ?_ (xv _))
 show wpAny _ _ (ret (.ref it)) _ _ s
 exact wpAny_pure ⟨_,rfl,"reversed",_,Q9 hit,wQ.lookup,h⟩
theorem Ko:mroOf (.type "reversed")=pure [.type "reversed", .type "object"]:=by rw [mroOf_type]; kernel_rfl
theorem z0G:typeLookup (.type "reversed") "__new__"=pure (some (.builtin "reversed.__new__")):=by rw [typeLookup_type,builtinLookup_eq_fast]; kernel_rfl
theorem G5:Bind.madeBy (.type "reversed")=pure (some "reversed.__new__"):=madeBy_type Ko z0G (by decide+kernel)
theorem z0H:isSubtype (.type "reversed") (.type "reversed")=pure true:=by rw [isSubtype_type]; kernel_rfl
theorem z0I (a:Value):newClass "reversed" ⟨[.type "reversed",a],[]⟩=pure (.type "reversed",[a]):=by
 unfold newClass
 simp only [isType,z0H,pure_bind,Bool.not_true,Bool.false_eq_true,if_false]
theorem xw:entryFor table "reversed.__new__"=some Builtin.«reversed.__new__»:=entryFor_of_tree (by kernel_rfl)
theorem kx {Q:Fin->Shared->Prop} (ht:IsTup s.heap l xs) (hf:(xs.size:Int) < 2 ^ 63)
  (h:∀ tk,Q (.done (.ret (.ref s.heap.objs.size))) { s with heap:=s.heap.push { cls:= .type "reversed",data:= .fields #[.ref l,rawInt ((xs.size:Int) - 1)] },toks:=tk }):
  wpAny (model prog w) A (Builtin.«reversed.__new__» ⟨[.type "reversed", .ref l],[]⟩) Q E s:=by
 have hT:=ht.typeIs (s:=s)
 unfold Builtin.«reversed.__new__»
 refine wpAny_bind (wpAny_of_eq (z0I _) ?_)
 try dsimp only
 refine wpAny_bind (wpAny_of_eq (a:=()) (by first | rfl | kernel_rfl) ?_)
 refine wpAny_bind (wpAny_of_eq (a:=()) (by first | rfl | kernel_rfl) ?_)
 try dsimp only
 refine wpAny_bind (wpAny_specialOf hT z0E ?_)
 try dsimp only
 refine wpAny_bind (m:=(do
   if ← isInstance (.ref l) (.type "dict") then return false
   match ← specialOf (.ref l) "__getitem__" with
   | none=>return false
   | some (.builtin id)=>
    if ["tuple.__getitem__","str.__getitem__","bytes.__getitem__","bytearray.__getitem__","memoryview.__getitem__","numpy.ndarray.__getitem__","sqlite3.Row.__getitem__"].contains id then return true
    if id == "sqlite3.Blob.__getitem__" then return false
    unsupported "reversed.__new__:is-it-a-sequence"
   | some _=>return true)) ?_
 refine wpAny_bind (wpAny_isInstance hT z0F ?_); rw [if_neg (by simp)]
 refine wpAny_bind (wpAny_specialOf hT slot_tuple_getitem.lookup ?_)
 dsimp only
 rw [if_pos (by decide)]
 refine wpAny_pure ?_
 rw [if_neg (by simp)]
 refine wpAny_bind (len_tuple ht hf ?_)
 refine wpAny_bind (wpAny_of_eq (a:=some (xs.size:Int)) rfl ?_)
 dsimp only
 refine wpAny_bind (show wpAny _ _ (newObj (.type "reversed") (.fields #[.ref l,rawInt ((xs.size:Int) - 1)])) _ _ _ from ?_)
 exact wpAny_newObj_type (wpAny_pure (h _)) (by size_fits)
theorem xx:Slot "reversed" "__init__" "object.__init__":=
 .of (owner:="object") (n:="__init__") (by rw [typeLookup_type,builtinLookup_eq_fast]; kernel_rfl) (by decide+kernel) (by decide+kernel) (by decide+kernel)
  (by first | exact .inl (by decide+kernel) | exact .inr (by decide+kernel)) (by rw [isSubtype_type]; kernel_rfl)
theorem xy:TypeCalled "reversed" "reversed.__new__" "object.__init__":=
 ⟨by decide+kernel,by decide+kernel,⟨_,_,Ko⟩,G5,by decide+kernel,by rw [isSubtype_type]; kernel_rfl,xx⟩
theorem ky (a:Value):checkTypeCall "reversed" ⟨[a],[]⟩=pure ():=by kernel_rfl
theorem kz (a:Value):checkBuiltinCall "reversed.__new__" ⟨[.type "reversed",a],[]⟩=pure ():=by kernel_rfl
theorem call_rvT {Q:Value->Shared->Prop} (ht:IsTup s.heap l xs) (hf:(xs.size:Int) < 2 ^ 63)
  (h:∀ tk,Q (.ref s.heap.objs.size) { s with heap:=s.heap.push { cls:= .type "reversed",data:= .fields #[.ref l,rawInt ((xs.size:Int) - 1)] },toks:=tk }):wpAny (model prog w) A (call (.type "reversed") [.ref l]) Q E s:=by
 refine callType_new (S:=fun _ R s=>(∃ xs,IsTup s.heap l xs/\(xs.size:Int) < 2 ^ 63/\∀ tk,R (.ok (.ret (.ref s.heap.objs.size))) { s with heap:=s.heap.push { cls:= .type "reversed",data:= .fields #[.ref l,rawInt ((xs.size:Int) - 1)] },toks:=tk })) xy (by decide) (ky _) (kz _) (fun obj=>PySem.F.args_object_init_2 obj _) xw (.of_wp fun prog w A R s h=> ?_) ⟨xs,ht,hf,fun tk=> ?_⟩
 ·obtain ⟨xs,h1,h2,h3⟩:=h
  exact kx h1 h2 fun tk=>⟨_,rfl,h3 tk⟩
 ·exact ⟨⟨_,Heap.get?_push_size _ rfl,rfl⟩,h tk⟩
end
end PySem.RV
namespace PySem.RV
open PySem PySem.Spec PyProof.Rows
theorem kA:typeLookup (.type "list_reverseiterator") "__len__"=pure none:=by rw [typeLookup_type,builtinLookup_eq_fast]; kernel_rfl
theorem G6:typeLookup (.type "list_reverseiterator") "__length_hint__"=pure (some (.builtin "list_reverseiterator.__length_hint__")):=by rw [typeLookup_type,builtinLookup_eq_fast]; kernel_rfl
section
variable {prog:Program} {w:World} {A:Around} {E:Value->Shared->Prop} {s:Shared} {I:Addr} {fp wr:List Addr} {G:Array GenState->Array GenState->Prop} {n:Nat} {P:Nat->Value->Prop} {St:Nat->Shared->Prop}
theorem vL {Q:List Value->Shared->Prop} (W:WalksS prog w A.in1 I fp wr G n P St) (hT:∀ i s,St i s->s.TypeIs (.ref I) "list_reverseiterator") (hst:St 0 s) (hfp:∀ b∈fp,b < s.heap.objs.size) (hI:I∈fp)
  (hQ:∀ s' acc,Moved wr G s s' ->ItemsOf P acc n->Q acc.toList s') (hn:n<=sizeLine):wpAny (model prog w) A (collect (.ref I)) Q E s:=by
 have nf:s.heap.objs.size ∉ fp:=fun z=>Nat.lt_irrefl _ (hfp _ z)
 have nI:s.heap.objs.size ≠ I:=fun z=>nf (z ▸ hI)
 unfold collect
 refine wpAny_bind (wpAny_runValue (codeAny_builtin F.entry_proto_collect ?_))
 rw [Around.under_plainId F.plain_proto_collect _]
 refine (show wpAny _ A.in1 (newList [] >>= fun l=>again (.builtin "list.__iadd__" ⟨[l, .ref I],[]⟩)) _ _ s from ?_)
 refine wpAny_bind (wpAny_newObj_type (wpAny_pure ⟨plainId_quiet F.plain_list_iadd _,codeAny_builtin F.entry_list_iadd ?_⟩))
 rw [Around.under_plainId F.plain_list_iadd _]
 have g0:=W.frame 0 s (s.heap.push { cls:= .type "list",data:= .seq ([]:List Value).toArray }) s.toks hst (Nat.le_refl _) fun b _ o e=>Heap.get?_push_of_some _ e
 have g1:(s.heap.push { cls:= .type "list",data:= .seq ([]:List Value).toArray }).get? s.heap.objs.size=some { cls:= .type "list",data:= .seq ([]:List Value).toArray }:=Heap.get?_push_size _ rfl
 have g2:Builtin.List.listSameRef (.ref s.heap.objs.size) (.ref I)=false:=by simp [Builtin.List.listSameRef,nI]
 refine (show wpAny _ A.in1 (Builtin.List.listExtendWith (.ref s.heap.objs.size) (.ref I) (.ref s.heap.objs.size)) _ _ _ from ?_)
 unfold Builtin.List.listExtendWith
 refine wpAny_bind (wpAny_typeOf (hT 0 _ g0) ?_)
 rw [if_neg (by rw [g2]; decide)]
 refine wpAny_bind (W.self 0 _ _ _ g0 (wpAny_bind (wpAny_holding ?_)))
 unfold Builtin.List.listLengthHint
 refine wpAny_bind (wpAny_specialOf (hT 0 _ g0) kA ?_)
 refine (show wpAny _ A.in1 (specialOf (Value.ref I) (Str.ofString "__length_hint__") >>= _) _ _ _ from ?_)
 refine wpAny_bind (wpAny_specialOf (hT 0 _ g0) G6 ?_)
 generalize hid:("list_reverseiterator.__length_hint__":String)=id0
 wp_delta
 rw [show splitId id0=some ("list_reverseiterator","__length_hint__") from by subst hid; decide+kernel]
 subst hid
 refine wpAny_bind (wpAny_isInstance (b:=true) (hT 0 _ g0) (by rw [isSubtype_type]; kernel_rfl) ?_)
 refine wpAny_pure ?_
 rw [if_neg (by decide)]
 refine wpAny_pure ⟨plainId_quiet F.plain_extend_loop _,codeAny_extend_loopS W hn _ nf _ n 0 _ _ _ rfl (Nat.zero_le _) g0 g1 (ItemsOf.nil P) fun s' acc' c' hm hS' hacc=> ?_⟩
 refine (show wpAny _ A (load s.heap.objs.size >>= _) _ _ s' from ?_)
 exact wpAny_bind (wpAny_load hS' (wpAny_pure (hQ s' acc' (Moved.drop_new (o:={ cls:= .type "list",data:= .seq ([]:List Value).toArray }) (tk:=s.toks) hm (Nat.le_refl _)) hacc)))
theorem z0J {Q₁:Value->Shared->Prop} (W:WalksS prog w A.in1.in1 I fp wr G n P St) (hT:∀ i s,St i s->s.TypeIs (.ref I) "list_reverseiterator") (hst:St 0 s) (hfp:∀ b∈fp,b < s.heap.objs.size) (hI:I∈fp)
  (h:∀ s' acc,Moved wr G s s' ->ItemsOf P acc n->Q₁ (.ref s'.heap.objs.size) { s' with heap:=s'.heap.push { cls:= .type "tuple",data:= .seq acc } }) (hsz:n<=sizeLine):
  codeAny (model prog w) A (.call (.builtin "tuple.__new__") ⟨[.type "tuple", .ref I],[]⟩) (wants Q₁ E) s:=by
 refine codeAny_of_tree ?_
 refine (show wpAny _ A.in1 (do checkBuiltinCall "tuple.__new__" ⟨[.type "tuple", .ref I],[]⟩; again (.builtin "tuple.__new__" ⟨[.type "tuple", .ref I],[]⟩)) _ _ s from ?_)
 refine wpAny_bind (wpAny_of_eq (F.newCall_tuple_1 _) (wpAny_pure ⟨plainId_quiet F.plain_tuple_new _,codeAny_builtin F.entry_tuple_new ?_⟩))
 rw [Around.under_plainId F.plain_tuple_new _]
 have hsub:=sub_tuple_self
 have hinit:=init_tuple_lookup
 have hmh:=madeHere_tuple
 have ty:=hT 0 s hst
 wp_walk using wpAny_typeOf ty,vL (hn:=hsz) W hT hst hfp hI
 intro s' acc hm hacc
 have e:acc.toList.toArray=acc:=by simp
 refine (show wpAny _ _ (Builtin.Tuple.tupleExact acc.toList.toArray >>= fun v=>ret v) _ _ _ from ?_)
 unfold Builtin.Tuple.tupleExact
 refine wpAny_bind (wpAny_newObj_type (wpAny_pure ?_) (by rw [e]; show acc.size<=sizeLine; rw [hacc.1]; exact hsz))
 rw [e]
 exact h s' acc hm hacc
theorem tuple_lr {Q:Value->Shared->Prop} (W:WalksS prog w A.in1.in1.in1 I fp wr G n P St) (hT:∀ i s,St i s->s.TypeIs (.ref I) "list_reverseiterator") (hst:St 0 s) (hfp:∀ b∈fp,b < s.heap.objs.size) (hI:I∈fp)
  (hQ:∀ s' acc,Moved wr G s s' ->ItemsOf P acc n->Q (.ref s'.heap.objs.size) { s' with heap:=s'.heap.push { cls:= .type "tuple",data:= .seq acc } }) (hsz:n<=sizeLine):
  wpAny (model prog w) A (call (.type "tuple") [.ref I]) Q E s:=
 callType_codes (Q₁:=fun obj s₁=>s₁.TypeIs obj "tuple"/\Q obj s₁) F.called_tuple (F.typeCall_tuple_1 _) F.entry_object_init
  (z0J (hsz:=hsz) W hT hst hfp hI fun s' acc hm hacc=>⟨⟨_,Heap.get?_push_size _ rfl,rfl⟩,hQ s' acc hm hacc⟩) fun obj s₁ h₁=>
   ⟨h₁.1,F.args_object_init_2 obj _,object_init_meets F.called_tuple.init.lookup F.called_tuple.made (by decide) prog w A.in1 _ s₁ ⟨h₁.1,rfl,h₁.2⟩⟩
end
end PySem.RV
namespace PV
open PySem PySem.Spec PyProof.Rows L2
noncomputable def z2e (K:PySem.W.Frag) (a:Addr) (n:Nat):It:=
 ⟨fun i H=>∃ xs x,SqT K H a xs/\xs.length=n/\xs.reverse[i]? =some x,fun i H x H' =>H' =H/\∀ xs,SqT K H a xs->xs.reverse[i]? =some x,fun i H=>∃ xs,SqT K H a xs/\xs.length=n/\n<=i⟩
noncomputable def z2f (K:PySem.W.Frag) (a:Addr) (n:Nat):It:=
 ⟨fun i H=>∃ xs x,SqL K H a xs/\xs.length=n/\xs.reverse[i]? =some x,fun i H x H' =>H' =H/\∀ xs,SqL K H a xs->xs.reverse[i]? =some x,fun i H=>∃ xs,SqL K H a xs/\xs.length=n/\n<=i⟩
theorem Kp {α:Type} {xs:List α} {i:Nat} {x:α} (h:xs.reverse[i]? =some x):i < xs.length/\xs[xs.length - 1 - i]? =some x:=by
 have hi:=(List.getElem?_eq_some_iff.mp h).1
 rw [List.length_reverse] at hi
 rw [List.getElem?_reverse hi] at h
 exact ⟨hi,h⟩
theorem kB {P:Program} {w:World} {K:PySem.W.Frag} {tg:Expr} (a it:Addr) (n:Nat):Vp P w K tg (z2e K a n) [it] it (fun i h=>i<=n/\RV.IsRv h it (.ref a) ((n:Int) - 1 - (i:Int))) where
 mem:=by simp
 obj:=fun i h st b hb=>by
  have e:b=it:=by simpa using hb
  subst e
  exact ⟨_,st.2,fun v z=>nomatch z⟩
 keep:=fun i h h' st k=>⟨st.1,k it (by simp) _ st.2⟩
 item:=by
  intro X hP hw hK hc i pins s σ H E I hf st hg
  subst hP hw hK
  obtain ⟨xs,x,hq,hn,hx⟩:=hg
  obtain ⟨its,rv,p,hz⟩:=I.tuple hq
  obtain ⟨hi,hx'⟩:=Kp hx
  obtain ⟨u,hu,ru⟩:=rv.get hx'
  obtain ⟨f0,f1,f2,f3,f4,f5⟩:=hf it (by simp)
  have hl:=rv.length
  have e:(n:Int) - 1 - (i:Int)=((xs.length - 1 - i:Nat):Int):=by omega
  have hit:=st.2
  rw [e] at hit
  have hb:(its.toArray.size:Int) < 2 ^ 63:=by
   rw [sizeLine_eq] at hz
   simp; omega
  refine RV.next_item hit p hb (x:=u) (by simpa using hu) fun h' tk st' sb=> ?_
  have I1:Inv X pins σ H { s with heap:=h',toks:=tk }:=I.turned (t' :=tk) (fun b o hb e=>(sb.2 b hb).trans e) f0 f1 f3 f4 f5
  have e2:((xs.length - 1 - i:Nat):Int) - 1=(n:Int) - 1 - ((i+1:Nat):Int):=by omega
  rw [e2] at st'
  exact ⟨u,rfl,vw (s:={ s with heap:=h',toks:=tk }) st' rfl rfl (by decide) ⟨x,H,I1,ru,⟨rfl,fun ys hy=>by rw [I.tuple_inj hy hq]; exact hx⟩,⟨by omega,st'⟩,fun b hb=>(hf b hb).1⟩⟩
 done:=by
  intro X hP hw hK hc i pins s σ H E I hf st hg
  subst hP hw hK
  obtain ⟨xs,hq,hn,hx⟩:=hg
  obtain ⟨f0,f1,f2,f3,f4,f5⟩:=hf it (by simp)
  have hit:=st.2
  have h1:=st.1
  rw [show (n:Int) - 1 - (i:Int)= -1 by omega] at hit
  exact RV.next_end (I.ok.hd hc) hit fun h' eb=>⟨rfl,I.turned (t' :=s.toks) (fun b o hb e=>eb b o hb e) f0 f1 f3 f4 f5⟩
 self:=fun _ _ _ _ _ st h=>RV.iter_rv st.2 h
theorem kC {P:Program} {w:World} {K:PySem.W.Frag} {tg:Expr} (a it:Addr) (n:Nat):Vp P w K tg (z2f K a n) [it] it (fun i h=>i<=n/\h.IsRevIter it a ((n:Int) - 1 - (i:Int))) where
 mem:=by simp
 obj:=fun i h st b hb=>by
  have e:b=it:=by simpa using hb
  subst e
  obtain ⟨o,e,c,d⟩:=st.2
  exact ⟨o,e,fun v z=>by rw [d] at z; cases z⟩
 keep:=fun i h h' st k=>⟨st.1,st.2.at fun o e=>k it (by simp) o e⟩
 item:=by
  intro X hP hw hK hc i pins s σ H E I hf st hg
  subst hP hw hK
  obtain ⟨xs,x,hq,hn,hx⟩:=hg
  obtain ⟨its,rv,p,hz⟩:=I.list hq
  obtain ⟨hi,hx'⟩:=Kp hx
  obtain ⟨u,hu,ru⟩:=rv.get hx'
  obtain ⟨f0,f1,f2,f3,f4,f5⟩:=hf it (by simp)
  have e:(n:Int) - 1 - (i:Int)=((xs.length - 1 - i:Nat):Int):=by omega
  have hit:=st.2
  rw [e] at hit
  refine wpAny_pyNext_rev_item hit p.isList (x:=u) (by simpa using hu) fun h' st' sb=> ?_
  have I1:Inv X pins σ H { s with heap:=h' }:=I.turned (t' :=s.toks) (fun b o hb e=>(sb.2 b hb).trans e) f0 f1 f3 f4 f5
  have e2:((xs.length - 1 - i:Nat):Int) - 1=(n:Int) - 1 - ((i+1:Nat):Int):=by omega
  rw [e2] at st'
  obtain ⟨o,e,c,d⟩:=id st'
  exact ⟨u,rfl,vw (s:={ s with heap:=h' }) e c d (by decide) ⟨x,H,I1,ru,⟨rfl,fun ys hy=>by rw [I.list_inj hy hq]; exact hx⟩,⟨by omega,st'⟩,fun b hb=>(hf b hb).1⟩⟩
 done:=by
  intro X hP hw hK hc i pins s σ H E I hf st hg
  subst hP hw hK
  obtain ⟨xs,hq,hn,hx⟩:=hg
  obtain ⟨f0,f1,f2,f3,f4,f5⟩:=hf it (by simp)
  have hit:=st.2
  have h1:=st.1
  rw [show (n:Int) - 1 - (i:Int)= -1 by omega] at hit
  exact wpAny_pyNext_rev_end (I.ok.hd hc) hit fun h' eb=>⟨rfl,I.turned (t' :=s.toks) (fun b o hb e=>eb b o hb e) f0 f1 f3 f4 f5⟩
 self:=fun _ _ _ _ _ st h=>wpAny_pyIter_revIter st.2 h
theorem Z2.rev {H:Hp}:∀ {vs:List V} {ts:List T},Z2 H vs ts->Z2 H vs.reverse ts.reverse
 | _,_, .nil=> .nil
 | _,_, .cons r t=>by rw [List.reverse_cons,List.reverse_cons]; exact (Z2.rev t).append (.cons r .nil)
theorem z0K {K:PySem.W.Frag} {B1 H1:Hp} {a:Addr} {xs:List V} {ts:List T} (h:B1 a=some (.tup xs)) (r:Z2 B1 xs ts):rI B1 H1 (z2e K a xs.length) ts.reverse:=fun B2 H2 s1 s2=>by
 have h2:=s2 _ _ (s1 _ _ h)
 have hr:=r.rev
 refine ⟨fun i hi=> ?_,fun i t x H3 e y=> ?_,fun i hi=>⟨xs,SqT.of h2,rfl,by rw [List.length_reverse] at hi; rw [r.length]; exact hi⟩⟩
 ·obtain ⟨v,e,_⟩:=hr.get (List.getElem?_eq_getElem hi)
  exact ⟨xs,v,SqT.of h2,rfl,e⟩
 ·obtain ⟨rfl,y⟩:=y
  obtain ⟨v,e1,r1⟩:=hr.get e
  have:=y xs (SqT.of h2)
  rw [e1] at this; cases this
  refine ⟨zT.refl _, ?_⟩
  rw [Zi.self B2 _ s2]
  exact r1.mono s1
theorem z0L {K:PySem.W.Frag} {B1 H1:Hp} {a:Addr} {xs:List V} {ts:List T} (h:B1 a=some (.lst xs)) (r:Z2 B1 xs ts):rI B1 H1 (z2f K a xs.length) ts.reverse:=fun B2 H2 s1 s2=>by
 have h2:=s2 _ _ (s1 _ _ h)
 have hr:=r.rev
 refine ⟨fun i hi=> ?_,fun i t x H3 e y=> ?_,fun i hi=>⟨xs,SqL.of h2,rfl,by rw [List.length_reverse] at hi; rw [r.length]; exact hi⟩⟩
 ·obtain ⟨v,e,_⟩:=hr.get (List.getElem?_eq_getElem hi)
  exact ⟨xs,v,SqL.of h2,rfl,e⟩
 ·obtain ⟨rfl,y⟩:=y
  obtain ⟨v,e1,r1⟩:=hr.get e
  have:=y xs (SqL.of h2)
  rw [e1] at this; cases this
  refine ⟨zT.refl _, ?_⟩
  rw [Zi.self B2 _ s2]
  exact r1.mono s1
noncomputable def z2g (fa:En->R T):En->R (List T):=fun ρ=>(fa ρ).bind fun t=>(Y0 t).bind fun xs=> .ok xs.reverse
noncomputable def kD:T->R T
 | .lst xs=>if xs.length<=bnd then .ok (.tup xs.reverse) else .bad
 | _=> .bad
section
variable {X:Cx} {Y:Fx} {a b tg:Expr} {fa fb:En->R T} {pos p p' pos' :Pos}
theorem z0M {ta:TA} (hg:Gl X "reversed") (hm:X.mg "reversed"=none) (ha:PA X [a] ta) (hs:St1 X a:=by exact st1 rfl):
  PI X tg (.Call (.Name "reversed" p) [a] [] pos) (fun σ H R=>ta σ H fun vs H1=>∃ l xs,vs=[.ref l]/\((H1 l=some (.lst xs)/\R (z2f X.K l xs.length) H1)\/(H1 l=some (.tup xs)/\R (z2e X.K l xs.length) H1))):=by
 intro pins s σ H R I h
 refine Call_ (wH I hg hm boot_reversed (PyProof.Rows.callWith_type1 (thn (ha pos pins s σ H _ I h) fun us s1 ⟨vs,H1,I1,r1,q1⟩=> ?_) hs rfl))
 obtain ⟨l,xs,e,q⟩:=q1
 subst e
 obtain ⟨u,rfl,ru⟩:=wI r1
 obtain rfl:u=Value.ref l:=ru
 have ok:∀ b∈[s1.heap.objs.size],Yx X pins H1 b:=fun b hb=>by
  have e:b=s1.heap.objs.size:=by simpa using hb
  subst e
  exact I1.fpOk (Nat.le_refl _) (I1.hok.fresh (Nat.le_refl _))
 rcases q with ⟨hl,q⟩ | ⟨hl,q⟩
 ·obtain ⟨its,rv,p,hz⟩:=I1.list (SqL.of hl)
  have e:((its.toArray.size:Nat):Int) - 1=(xs.length:Int) - 1 - ((0:Nat):Int):=by have:=rv.length; simp; omega
  refine call_reversed_list p.isList ?_
  rw [e]
  have st:(s1.heap.push (revObj l ((xs.length:Int) - 1 - ((0:Nat):Int)))).IsRevIter s1.heap.objs.size l ((xs.length:Int) - 1 - ((0:Nat):Int)):=⟨_,Heap.get?_push_size _ rfl,rfl,rfl⟩
  refine wpAny_pyIter_revIter (s:={ s1 with heap:=s1.heap.push (revObj l ((xs.length:Int) - 1 - ((0:Nat):Int))) }) st ?_
  exact ⟨s1.heap.objs.size,[s1.heap.objs.size],_,_,H1,rfl,I1.kept (t' :=s1.toks) (fun b o e=>Heap.get?_push_of_some _ e),kC l _ xs.length,⟨Nat.zero_le _,st⟩,ok,q⟩
 ·obtain ⟨its,rv,p,hz⟩:=I1.tuple (SqT.of hl)
  have hlen:=rv.length
  have e:((its.toArray.size:Nat):Int) - 1=(xs.length:Int) - 1 - ((0:Nat):Int):=by simp; omega
  refine RV.call_rvT p (by rw [sizeLine_eq] at hz; simp; omega) fun tk=> ?_
  rw [e]
  refine RV.iter_rv (s:={ s1 with heap:=_,toks:=tk }) (Heap.get?_push_size _ rfl) ?_
  exact ⟨s1.heap.objs.size,[s1.heap.objs.size],_,_,H1,rfl,I1.kept (t' :=tk) (fun b o e=>Heap.get?_push_of_some _ e),kB l _ xs.length,⟨Nat.zero_le _,Heap.get?_push_size _ rfl⟩,ok,q⟩
theorem z2h (hg:Gl X "reversed") (hm:X.mg "reversed"=none) (ha:Snd X Y a fa) (hs:St1 X a:=by exact st1 rfl):Vt X Y tg (.Call (.Name "reversed" p) [a] [] pos) (z2g fa):= .mk fun ρ=>
 PI.imp (z0M hg hm (zS (ha ρ) ZW hs) hs) fun σ H R ⟨B,I,q⟩=>step I q fun t v H1 _ s1 r1 I1 q1=>by
  cases r1 with
  | @tup l xs ts h r=>exact ⟨l,xs,rfl, .inr ⟨I1.sB _ _ h,w4 I1 (show Po Y rI _ H1 (.ok ts.reverse) R from q1) (z0K h r)⟩⟩
  | @lst l xs ts h r=>exact ⟨l,xs,rfl, .inl ⟨I1.sB _ _ h,w4 I1 (show Po Y rI _ H1 (.ok ts.reverse) R from q1) (z0L h r)⟩⟩
  | _=>exact q1.elim
theorem QW:∀ {xs ys:List V} {us ws:List Value},ZD xs us->ZD ys ws->ZD (xs++ys) (us++ws)
 | _,_,_,_, .nil,q=>q
 | _,_,_,_, .cons r t,q=> .cons r (QW t q)
theorem QX:∀ {xs:List V} {us:List Value},ZD xs us->ZD xs.reverse us.reverse
 | _,_, .nil=> .nil
 | _,_, .cons r t=>by rw [List.reverse_cons,List.reverse_cons]; exact QW (QX t) (.cons r .nil)
theorem G7 {its:List Value} {acc:Array Value} (h:ItemsOf (fun i v=>its.toArray[its.toArray.size - 1 - i]? =some v) acc its.toArray.size):acc.toList=its.reverse:=by
 have h1:acc.size=its.length:=by
  have:=h.1
  simpa using this
 have h2:=h.2
 refine List.ext_getElem? fun i=> ?_
 by_cases hi:i < its.length
 ·have hlt:i < acc.toList.length:=by simp; omega
  have e:=List.getElem?_eq_getElem hlt
  have:=h2 i _ (by rw [← Array.getElem?_toList]; exact e)
  rw [List.getElem?_reverse hi,e,← this]
  simp
 ·rw [List.getElem?_eq_none (by simp; omega),List.getElem?_eq_none (by simp; omega)]
theorem z0N (hh:X.A.handled=none) (gl:Gl X "tuple") (mg:X.mg "tuple"=none) (gl' :Gl X "reversed") (mg' :X.mg "reversed"=none) (ha:Snd X Y a fa) (hs:St1 X a:=by exact st1 rfl) (hs' :St1 X (.Call (.Name "reversed" p') [a] [] pos'):=by exact st1 rfl):
  Snd X Y (.Call (.Name "tuple" p) [.Call (.Name "reversed" p') [a] [] pos'] [] pos) (ap1 kD fa):= .mk fun ρ=>by
 intro pins s σ H Q I ⟨B,J,q⟩
 have hq:tS Y rC fa ρ σ H (fun v H1=>∃ l xs,v= .ref l/\H1 l=some (.lst xs)/\xs.length<=sizeLine/\∀ t,H1 t=none->Q (.ref t) (upd H1 t (.tup xs.reverse))):=by
  refine step J q fun t v H1 _ s1 r1 I1 q1=> ?_
  cases r1 with
  | @lst l xs ts h r=>
   have q1:Po Y rC _ H1 (if ts.length<=bnd then .ok (.tup ts.reverse) else .bad) Q:=q1
   split at q1
   ·rename_i hb
    exact ⟨l,xs,rfl,I1.sB _ _ h,by rw [r.length]; exact Jp hb,fun t ht=>z0i I1.sB q1 rfl r.rev ht⟩
   ·exact q1.elim
  | _=>exact q1.elim
 refine wpAny_Call_Name_kw (wH I gl mg PyProof.Rows.Boot.«tuple» (PyProof.Rows.callWith_type1 (e:= .Call (.Name "reversed" p') [a] [] pos') (rest:=[]) ?_ hs' rfl))
 rw [hs']
 show wpAny _ _ (spliced [(false,eval (.Call (.Name "reversed" p') [a] [] pos') X.env)]) _ _ s
 refine Calls.spliced_cons (wpAny_Call_Name_kw (wH I gl' mg' boot_reversed (PyProof.Rows.callWith_type1 (e:=a) (rest:=[]) ?_ hs rfl)))
 refine thn ((zS (ha ρ) ZW hs) pos' pins s σ H (fun vs H1=>∃ l xs,vs=[.ref l]/\H1 l=some (.lst xs)/\xs.length<=sizeLine/\∀ t,H1 t=none->Q (.ref t) (upd H1 t (.tup xs.reverse))) I ?_) fun us s1 ⟨vs,H1,I1,r1,l,xs,e,hl,hz,q1⟩=> ?_
 ·obtain ⟨B',J',q'⟩:=hq
  refine ⟨B',J', ?_⟩
  revert q'
  cases fa ρ with
  | bad=>exact fun q' =>q'
  | ex c=>exact fun q' =>q'
  | ok t=>
   intro q' v H1 s1 r1
   obtain ⟨l,xs,rfl,h⟩:=q' v H1 s1 r1
   exact ⟨l,xs,rfl,h⟩
 subst e
 obtain ⟨u,rfl,ru⟩:=wI r1
 obtain rfl:u=Value.ref l:=ru
 obtain ⟨its,rv,pl,_⟩:=I1.list (SqL.of hl)
 have hlt:l < s1.heap.objs.size:=I1.hok.lt hl
 refine call_reversed_list pl.isList (Calls.spliced_nil ?_)
 have e0:((its.toArray.size:Nat):Int) - 1 - ((0:Nat):Int)=((its.toArray.size:Nat):Int) - 1:=by omega
 refine RV.tuple_lr (s:={ s1 with heap:=s1.heap.push (revObj l ((its.toArray.size:Int) - 1)) }) (Walks.listRev (A:=X.A.in1.in1.in1) hh s1.heap.objs.size l (Nat.ne_of_lt hlt) its.toArray).toS (fun i s st=>st.2.1.typeIs) ⟨Nat.zero_le _,⟨_,Heap.get?_push_size _ rfl,rfl,by rw [e0]; rfl⟩,pl.isList.push _⟩ (fun b hb=> ?_) (by simp) (fun s' acc hm hacc=> ?_) (by rw [List.size_toArray,← rv.length]; exact hz)
 ·have hb:b=s1.heap.objs.size\/b=l:=by simpa using hb
  rcases hb with rfl | rfl
  ·rw [Heap.size_push]; exact Nat.lt_succ_self _
  ·rw [Heap.size_push]; exact Nat.lt_succ_of_lt hlt
 obtain ⟨h',g',d',tk',os'⟩:=s'
 have e1:g' =s1.gens:=hm.gens
 have e2:d' =s1.drawn:=hm.drawn
 have e3:os' =s1.os:=hm.os
 subst e1 e2 e3
 have kp:∀ b o,s1.heap.get? b=some o->h'.get? b=some o:=fun b o e=>hm.heap b o (fun z=>by
  have z:b=s1.heap.objs.size:=by simpa using z
  have:=Heap.lt_size e
  rw [z] at this
  exact Nat.lt_irrefl _ this) (Heap.get?_push_of_some _ e)
 have I2:Inv X pins σ H1 { s1 with heap:=h',toks:=tk' }:=I1.kept (t' :=tk') kp
 have ea:acc=its.reverse.toArray:=by rw [← G7 hacc]
 rw [ea]
 refine ⟨.ref h'.objs.size,upd H1 h'.objs.size (.tup xs.reverse),I2.laid (t' :=tk') (fun b u e=>Heap.get?_push_of_some _ e) (Nat.le_refl _) ⟨by rw [List.length_reverse]; exact hz,its.reverse,QX rv,⟨_,Heap.get?_push_size _ rfl,rfl,_,rfl⟩⟩,rfl,q1 _ (I2.hok.fresh (Nat.le_refl _))⟩
end
end PV
namespace PV
open PySem PySem.Spec PyProof.Rows L2
noncomputable def yf:List T->Option Bool
 | []=>some false
 | .bl k :: r=>match yf r with | some j=>some (k || j) | none=>none
 | _ :: _=>none
noncomputable def z2i:T->R T
 | .lst ts=>match yf ts with | some k=> .ok (.bl k) | none=> .bad
 | _=> .bad
theorem xz:∀ {H:Hp} {xs:List V} {ts:List T} {its:List Value} {k:Bool},Z2 H xs ts->ZD xs its->yf ts=some k->∃ tr:Nat->Bool,(∀ i v,its[i]? =some v->v=Value.bool (tr i))/\(List.range its.length).any tr=k
 | _,_,_,_,k, .nil, .nil,h=>by
  have h' :some false=some k:=h
  cases h'
  exact ⟨fun _=>true,fun i v e=>by simp at e,rfl⟩
 | H,_,_,_,k, .cons (v:=x) (t:=t) r rs, .cons (b:=u) rv vs,h=>by
  cases r with
  | bl b=>
   unfold yf at h
   split at h
   ·rename_i j e
    cases h
    obtain ⟨tr,h1,h2⟩:=xz rs vs e
    obtain rfl:u=Value.bool b:=rv
    refine ⟨fun i=>match i with | 0=>b | i+1=>tr i,fun i v e=> ?_, ?_⟩
    ·cases i with
     | zero=>simp at e; exact e.symm
     | succ i=>exact h1 i v (by simpa using e)
    ·rw [List.length_cons,List.range_succ_eq_map,List.any_cons,List.any_map,← h2]
     rfl
   ·cases h
  | _=>cases h
section
variable {X:Cx} {Y:Fx} {a b:Expr} {fa fb:En->R T} {pos p p' pos' pt:Pos} {elts:List Expr} {kk:Nat}
theorem xA (hh:X.A.handled=none):Jn X (.builtin "any") (fun vs H Q=>∃ l xs ts k,vs=[.ref l]/\H l=some (.lst xs)/\Z2 H xs ts/\yf ts=some k/\Q (.bl k) H):=by
 intro pins s σ H vs us Q I rv h
 obtain ⟨l,xs,ts,k,rfl,hl,r,hk,q⟩:=h
 obtain ⟨u,rfl,ru⟩:=wI rv
 obtain rfl:u=Value.ref l:=ru
 obtain ⟨its,rv,p,_⟩:=Zg I (.inl hl) r
 obtain ⟨tr,h1,h2⟩:=xz r rv hk
 refine call_any_walk (wpAny_pyIter_list p ?_)
 have hlt:l < s.heap.objs.size:=I.hok.lt hl
 have old:∀ b o,s.heap.get? b=some o->(s.heap.push { cls:= .type "list_iterator",data:= .fields #[.ref l, .int 0 0] }).get? b=some o:=fun b o e=>Heap.get?_push_of_some _ e
 refine ⟨s.heap.objs.size,_,_,_,_,_,tr,rfl,Walks.list (A:=X.A.in1) hh s.heap.objs.size l (Nat.ne_of_lt hlt) its.toArray, ?_, ?_,fun h' tk hk' => ?_⟩
 ·refine ⟨?_,p.at fun o e=>old _ o e⟩
  exact ⟨_,Heap.get?_push_size _ rfl,rfl,rfl⟩
 ·intro i v s' Q' E' hi hq
  rw [h1 i v (by simpa using hi)]
  exact wpAny_truthy_bool hq
 ·rw [List.size_toArray,h2]
  refine ⟨.bl k,H,I.kept (t' :=tk) (fun b o e=>hk' b o ?_ (old b o e)),rfl,q⟩
  simp
  exact Nat.ne_of_lt (Heap.lt_size e)
theorem z2j (hh:X.A.handled=none) (gl:Gl X "any") (mg:X.mg "any"=none) (ha:ue X Y a fa) (hs:St1 X a:=by exact st1 rfl):Snd X Y (.Call (.Name "any" p) [a] [] pos) (ap1 z2i fa):=
 YO (xA hh) (fun v t B H Q r sB q=>by
  cases r with
  | @lst l xs ts h r=>
   have q:Po Y rC B H (match yf ts with | some k=> .ok (.bl k) | none=> .bad) Q:=q
   split at q
   ·rename_i k e
    exact ⟨l,xs,ts,k,rfl,h,r,e,po0 sB q rfl (.bl k)⟩
   ·exact q.elim
  | _=>exact q.elim) gl mg PyProof.Rows.Boot.«any» ha hs
end
noncomputable def Qa (x:Int):List Int->List Int
 | []=>[x]
 | y :: ys=>if x<=y then x :: y :: ys else y :: Qa x ys
noncomputable def qW:List Int->List Int
 | []=>[]
 | x :: xs=>Qa x (qW xs)
noncomputable def kE:T->R T
 | .lst ts=>match JD ts with | some l=>if ts.length < 64 then .ok (.lst ((qW l).map T.int)) else .bad | none=> .bad
 | _=> .bad
theorem Uz (x:Int):∀ ys:List Int,(Qa x ys).Perm (x :: ys)
 | []=> .refl _
 | y :: ys=>by
  unfold Qa
  split
  ·exact .refl _
  ·exact ((Uz x ys).cons y).trans (.swap x y ys)
theorem YY:∀ xs:List Int,(qW xs).Perm xs
 | []=> .refl _
 | x :: xs=>(Uz x (qW xs)).trans ((YY xs).cons x)
theorem UA (x:Int):∀ ys:List Int,ys.Pairwise (·<=·)->(Qa x ys).Pairwise (·<=·)
 | [],_=>by unfold Qa; simp
 | y :: ys,h=>by
  unfold Qa
  rw [List.pairwise_cons] at h
  split
  ·rename_i hx
   refine List.pairwise_cons.mpr ⟨fun z hz=> ?_,List.pairwise_cons.mpr h⟩
   rcases List.mem_cons.mp hz with rfl | hz
   ·exact hx
   ·exact Int.le_trans hx (h.1 z hz)
  ·rename_i hx
   refine List.pairwise_cons.mpr ⟨fun z hz=> ?_,UA x ys h.2⟩
   rcases List.mem_cons.mp ((Uz x ys).mem_iff.mp hz) with rfl | hz
   ·omega
   ·exact h.1 z hz
theorem UB:∀ xs:List Int,(qW xs).Pairwise (·<=·)
 | []=> .nil
 | x :: xs=>UA x _ (UB xs)
theorem YZ:∀ (xs ys:List Int),xs.Perm ys->xs.Pairwise (·<=·)->ys.Pairwise (·<=·)->xs=ys
 | [],ys,p,_,_=>(List.nil_perm.mp p).symm
 | x :: xs,[],p,_,_=>by cases List.perm_nil.mp p
 | x :: xs,y :: ys,p,h1,h2=>by
  rw [List.pairwise_cons] at h1 h2
  have e:x=y:=by
   have a1:x<=y:=by
    rcases List.mem_cons.mp (p.mem_iff.mpr (List.mem_cons_self (a:=y) (l:=ys))) with z | z
    ·omega
    ·exact h1.1 y z
   have a2:y<=x:=by
    rcases List.mem_cons.mp (p.mem_iff.mp (List.mem_cons_self (a:=x) (l:=xs))) with z | z
    ·omega
    ·exact h2.1 x z
   omega
  subst e
  rw [YZ xs ys (List.Perm.cons_inv p) h1.2 h2.2]
theorem WM:∀ {its:List Value} {ns:List Int},IntsAre its ns->ZD (ns.map V.int) its:=by
 intro its ns h
 induction h with
 | nil=>exact .nil
 | cons n t _ ih=>exact .cons ⟨_,rfl⟩ ih
theorem QY:∀ (ps:List (Int×Tok)),IntsAre (ps.map fun p=>Value.int p.1 p.2) (ps.map (·.1))
 | []=> .nil
 | p :: ps=> .cons _ _ (QY ps)
theorem qa {H:Hp}:∀ ns:List Int,Z2 H (ns.map V.int) (ns.map T.int)
 | []=> .nil
 | n :: ns=> .cons (.int n) (qa ns)
section
variable {X:Cx} {Y:Fx} {a b:Expr} {fa fb:En->R T} {pos p p' pos' pt:Pos} {elts:List Expr} {kk:Nat}
theorem vM:Jn X (.builtin "sorted") (fun vs H Q=>∃ l xs ts is,vs=[.ref l]/\H l=some (.lst xs)/\Z2 H xs ts/\JD ts=some is/\ts.length < 64/\∀ r,H r=none->Q (.ref r) (upd H r (.lst ((qW is).map V.int)))):=by
 intro pins s σ H vs us Q I rv h
 obtain ⟨l,xs,ts,is,rfl,hl,r,hk,h64,q⟩:=h
 obtain ⟨u,rfl,ru⟩:=wI rv
 obtain rfl:u=Value.ref l:=ru
 obtain ⟨its,rv,p,hlen,_⟩:=Zg I (.inl hl) r
 obtain ⟨ps,h1,h2⟩:=Q8 r rv hk
 refine sorted_ints p (h1 ▸ QY ps) (by omega) fun out ns' a1 a2 a3=> ?_
 have e:ns' =qW is:=YZ _ _ (a2.trans (by rw [h2]; exact (YY is).symm)) a3 (UB is)
 obtain ⟨n,he⟩:=sortedAll_at s.heap its out
 have hle:s.heap.objs.size<=s.heap.objs.size+1:=Nat.le_succ _
 refine ⟨.ref (s.heap.objs.size+1),upd H (s.heap.objs.size+1) (.lst (ns'.map V.int)),I.laid (t' :=s.toks) (fun b u e=>sortedAll_old e) hle ?_,rfl,by have:=q _ (I.hok.fresh hle); rw [← e] at this; exact this⟩
 have hl2:ns'.length=ts.length:=by
  have h3:=a2.length_eq
  rw [List.length_map] at h3
  have h4:its.length=ps.length:=by rw [h1,List.length_map]
  omega
 exact ⟨by rw [List.length_map,sizeLine_eq]; show ns'.length<=16777216; omega,out.toList,n,WM a1,he⟩
theorem z0O (gl:Gl X "sorted") (mg:X.mg "sorted"=none) (ha:ue X Y a fa) (hs:St1 X a:=by exact st1 rfl):Snd X Y (.Call (.Name "sorted" p) [a] [] pos) (ap1 kE fa):=
 YO vM (fun v t B H Q r sB q=>by
  cases r with
  | @lst l xs ts h r=>
   have q:Po Y rC B H (match JD ts with | some l=>if ts.length < 64 then .ok (.lst ((qW l).map T.int)) else .bad | none=> .bad) Q:=q
   split at q
   ·rename_i is e
    split at q
    ·rename_i h64
     refine ⟨l,xs,ts,is,rfl,h,r,e,h64,fun z hz=> ?_⟩
     exact q _ _ (zT.new hz _) (.lst (wL hz _) (qa _))
    ·exact q.elim
   ·exact q.elim
  | _=>exact q.elim) gl mg PyProof.Rows.Boot.«sorted» ha hs
end
end PV
namespace PySem.RV
open PySem PySem.Spec PyProof.Rows PySem.Builtin.SmallTypes
theorem draws_tup {prog:Program} {w:World} {A:Around} (hh:A.handled=none) (it l:Addr) (hne:l ≠ it) (items:Array Value):Draws prog w A it [it,l] items.size (fun i v=>items[i]? =some v) (fun i h=>h.IsTupleIter it l i/\h.IsTuple l items) where
 live:=fun i h st=>(ZG.nx_tup hne items).there st it (.head _)
 frame:=fun i h h' st hk=>(ZG.nx_tup hne items).keep st hk
 item:=fun i s Q E hi st hQ=>ZG.tup_item st.1 st.2 (x:=items[i]) (by simp [hi]) fun h' a b=>hQ _ h' s.toks (by simp [hi]) ⟨a,st.2.extBut b.extBut hne⟩ b
 done:=fun s Q E st hE=>ZG.tup_stop hh st.1 st.2 (by simp) hE
noncomputable abbrev eOb (i:Addr):Obj:={ cls:= .type "enumerate",data:= .fields #[.none, .bool false, .ref i,rawInt 0, .none, .none] }
theorem xB (l:Addr) (items:Array Value) (n:Nat) (dct:Option Addr) (sl:Array (Option Value)):
  Meets (Builtin.«enumerate.__new__» ⟨[.type "enumerate", .ref l],[]⟩) (fun _ R s=>s.heap.get? l=some { cls:= .type "tuple",dict:=dct,data:= .seq items n,slots:=sl }/\
   R (.ok (.ret (.ref (s.heap.push (ZG.oT l)).objs.size))) { s with heap:=(s.heap.push (ZG.oT l)).push (eOb s.heap.objs.size) }):=
 .of_wp fun prog w A R s h=>by
  obtain ⟨hp,g,d,tk,os⟩:=s
  obtain ⟨hl,h⟩:=h
  have hsub:=sub_enumerate
  have hL:Heap.IsTuple (Shared.heap ⟨hp,g,d,tk,os⟩) l items:=⟨_,hl,rfl,n,rfl⟩
  wp_walk using PySem.AutoSeq1.wpAny_loadPart' hl
  refine wpAny_stack_any fun st=>wpAny_pure ?_
  split
  ·rename_i c _ _ _ _ _
   cases (c == Value.type "enumerate") <;> (wp_walk using PySem.AutoSeq1.wpAny_loadPart' hl,wpAny_pyIter_tuple hL; exact ⟨_,rfl,h⟩)
  ·wp_walk using PySem.AutoSeq1.wpAny_loadPart' hl,wpAny_pyIter_tuple hL
   exact ⟨_,rfl,h⟩
theorem enum_callT {prog:Program} {w:World} {A:Around} {E:Value->Shared->Prop} {s:Shared} {l:Addr} {items:Array Value} {Q:Value->Shared->Prop} (hL:s.heap.IsTuple l items)
  (h:∀ h',IsEnum h' (s.heap.objs.size+1) s.heap.objs.size 0 .none->h'.IsTupleIter s.heap.objs.size l 0->(∀ b o,s.heap.get? b=some o->h'.get? b=some o)->Q (.ref (s.heap.objs.size+1)) { s with heap:=h' }):
  wpAny (model prog w) A (call (.type "enumerate") [.ref l]) Q E s:=by
 obtain ⟨⟨c,dct,dt,sl⟩,hl,hc,n,hd⟩:=hL
 obtain rfl:c= .type "tuple":=hc
 obtain rfl:dt= .seq items n:=hd
 refine callType_new F.called_enumerate (by decide) (F.typeCall_enumerate_1 _) (F.newCall_enumerate_1 _) (fun obj=>F.args_object_init_2 obj _) F.entry_enumerate_new (xB l items n dct sl) ⟨hl, ?_⟩
 have hz:(s.heap.push (ZG.oT l)).objs.size=s.heap.objs.size+1:=Heap.size_push ..
 have e1:((s.heap.push (ZG.oT l)).push (eOb s.heap.objs.size)).get? (s.heap.push (ZG.oT l)).objs.size=some _:=Heap.get?_push_size _ rfl
 rw [hz] at e1
 refine (show _/\_ from ?_)
 rw [hz]
 exact ⟨⟨_,e1,rfl⟩,h _ e1 ⟨_,Heap.get?_push_of_some _ (Heap.get?_push_size _ rfl),rfl,rfl⟩ fun b o x=>Heap.get?_push_of_some _ (Heap.get?_push_of_some _ x)⟩
end PySem.RV
namespace PV
open PySem PySem.Spec PyProof.Rows L2
noncomputable def z2k (K:PySem.W.Frag) (l:Addr) (n:Nat):It:=
 ⟨fun i H=>∃ xs x,SqT K H l xs/\xs.length=n/\xs[i]? =some x,fun i H v H' =>∃ p x,H p=none/\v= .ref p/\(∀ xs,SqT K H l xs->xs[i]? =some x)/\H' =upd H p (.tup [.int i,x]),fun i H=>∃ xs,SqT K H l xs/\xs.length=n/\n<=i⟩
theorem vN {P:Program} {w:World} {K:PySem.W.Frag} {elts:List Expr} {kk:Nat} {pt:Pos} (e it l:Addr) (n:Nat) (hei:e ≠ it) (hle:l ≠ e) (hli:l ≠ it):
  Vp P w K (.Tuple elts kk pt) (z2k K l n) [e,it] e (fun i h=>i<=n/\(∃ old,IsEnum h e it i old)/\h.IsTupleIter it l i) where
 mem:=by simp
 obj:=fun i h st b hb=>by
  obtain ⟨_,⟨old,he⟩,o,e1,c,d⟩:=st
  rcases List.mem_cons.mp hb with rfl | hb
  ·exact ⟨_,he,fun v z=>nomatch z⟩
  ·have z:b=it:=by simpa using hb
   subst z
   exact ⟨o,e1,fun v z=>by rw [d] at z; cases z⟩
 keep:=fun i h h' st k=>by
  obtain ⟨hn,⟨old,he⟩,o,e1,r⟩:=st
  exact ⟨hn,⟨old,k e (by simp) _ he⟩,o,k it (by simp) o e1,r⟩
 item:=by
  intro X hP hw hK hc i pins s σ H E I hf st hg
  subst hP hw hK
  obtain ⟨xs,x,hq,hxn,hx⟩:=hg
  obtain ⟨its,rv,p,hz⟩:=I.tuple hq
  obtain ⟨u,hu,ru⟩:=rv.get hx
  obtain ⟨hin,⟨old,he⟩,hit⟩:=st
  have hi:i < its.toArray.size:=by
   have:=(List.getElem?_eq_some_iff.mp hu).1
   simpa using this
  have D:=RV.draws_tup (prog:=X.prog) (w:=X.w) (A:=X.A.in1) (I.ok.hd hc) it l hli its.toArray
  have hef:e ∉ [it,l]:=fun z=>by
   rcases List.mem_cons.mp z with z | z
   ·exact hei z
   ·exact hle (List.mem_singleton.mp z).symm
  have WE:=WalksT.enumerateD D e hei hef (.head _)
  refine WE.item i s _ _ hi ⟨⟨old,he⟩,hit,p⟩ fun T vals h' tk hP hT hTup hM hk=> ?_
  obtain ⟨t,y,hy,rfl⟩:=hP
  have hyu:y=u:=by
   have:its[i]? =some y:=by simpa using hy
   rw [hu] at this; exact (Option.some.inj this).symm
  subst hyu
  refine ⟨.ref T,rfl, ?_⟩
  refine WE.go elts kk pt i T _ _ _ hM fun h2 hst2 hk2=> ?_
  have hTn:H T=none:=I.hok.fresh hT
  have hTne:∀ b∈[e,it],b ≠ T:=fun b hb z=>by
   obtain ⟨_,_,h3,h4⟩:=hM
   rcases List.mem_cons.mp hb with rfl | hb
   ·exact h3 z.symm
   ·have:b=it:=by simpa using hb
    subst this; exact h4 z.symm
  have Vv:IsTup h2 T #[.int i t,y]:=by
   obtain ⟨o,eo,r⟩:=hTup
   exact ⟨o,hk2 T o (fun hb=>hTne T hb rfl) eo,r⟩
  refine ⟨.ref T,upd H T (.tup [.int i,x]),Inv.laidT (s:=s) (h' :=h2) (ch:=[e,it]) (tk:=tk) I hf (fun b o hb e=>hk2 b o hb (hk b o hb e)) (fun b o hb _=> ?_) hT ⟨by rw [sizeLine_eq]; show 2<=16777216; decide,[.int i t,y], .cons ⟨t,rfl⟩ (.cons ru .nil),Vv⟩,rfl,⟨T,x,hTn,rfl,fun ys hy=>by rw [I.tuple_inj hy hq]; exact hx,rfl⟩,⟨by have:=(List.getElem?_eq_some_iff.mp hx).1; omega,hst2.1,hst2.2.1⟩,fun b hb=> ?_⟩
  ·obtain ⟨⟨old2,he2⟩,⟨o2,eo2,_⟩,_⟩:=hst2
   rcases List.mem_cons.mp hb with rfl | hb
   ·exact ⟨_,he2⟩
   ·have:b=it:=by simpa using hb
    subst this; exact ⟨o2,eo2⟩
  ·rw [zW (hTne b hb)]; exact (hf b hb).1
 done:=by
  intro X hP hw hK hc i pins s σ H E I hf st hg
  subst hP hw hK
  obtain ⟨xs,hq,hxn,hx⟩:=hg
  obtain ⟨its,rv,p,hz⟩:=I.tuple hq
  obtain ⟨hin,⟨old,he⟩,hit⟩:=st
  have hl:=rv.length
  have D:=RV.draws_tup (prog:=X.prog) (w:=X.w) (A:=X.A.in1) (I.ok.hd hc) it l hli its.toArray
  have hn:its.toArray.size=i:=by simp; omega
  refine wpAny_pyNext_enum_endD D he (by rw [hn]; exact ⟨hit,p⟩) fun h' hk=>⟨rfl, ?_⟩
  obtain ⟨f0,f1,f2,f3,f4,f5⟩:=hf it (by simp)
  exact I.turned (t' :=s.toks) (fun b o hb e=>hk b o hb e) f0 f1 f3 f4 f5
 self:=fun _ _ _ _ _ st h=>let ⟨_,⟨_,he⟩,_⟩:=st; wpAny_pyIter_enum he h
theorem kF {K:PySem.W.Frag} {B1 H1:Hp} {a:Addr} {xs:List V} {ts:List T} (h:B1 a=some (.tup xs)) (r:Z2 B1 xs ts):rI B1 H1 (z2k K a xs.length) (wP ts):=fun B2 H2 s1 s2=>by
 have h2:=s2 _ _ (s1 _ _ h)
 rw [uH]
 refine ⟨fun i hi=> ?_,fun i t x H3 e y=> ?_,fun i hi=>⟨xs,SqT.of h2,rfl,by rw [r.length]; exact hi⟩⟩
 ·obtain ⟨v,e,_⟩:=r.get (List.getElem?_eq_getElem hi)
  exact ⟨xs,v,SqT.of h2,rfl,e⟩
 ·obtain ⟨p,v,hp,rfl,y,rfl⟩:=y
  obtain ⟨t',et,rfl⟩:=YU e
  obtain ⟨v',e1,r1⟩:=r.get et
  have:=y xs (SqT.of h2)
  rw [e1] at this; cases this
  refine ⟨zT.new hp _, .tup (wL hp _) (.cons (.int _) (.cons ?_ .nil))⟩
  exact (r1.mono s1).mono (Zi.ge s2 (zT.new hp _))
noncomputable def QZ (fa:En->R T):En->R (List T):=fun ρ=>(fa ρ).bind fun t=>match t with
 | .tup xs=> .ok (wP xs)
 | _=> .bad
section
variable {X:Cx} {Y:Fx} {a:Expr} {fa:En->R T} {pos p pt:Pos} {elts:List Expr} {kk:Nat}
theorem kG {ta:TA} (hg:Gl X "enumerate") (hm:X.mg "enumerate"=none) (ha:PA X [a] ta) (hs:St1 X a:=by exact st1 rfl):
  PI X (.Tuple elts kk pt) (.Call (.Name "enumerate" p) [a] [] pos) (fun σ H R=>ta σ H fun vs H1=>∃ l xs,vs=[.ref l]/\H1 l=some (.tup xs)/\R (z2k X.K l xs.length) H1):=by
 intro pins s σ H R I h
 refine Call_ (wH I hg hm PyProof.Rows.Boot.«enumerate» (PyProof.Rows.callWith_type1 (thn (ha pos pins s σ H _ I h) fun us s1 ⟨vs,H1,I1,r1,q1⟩=> ?_) hs rfl))
 obtain ⟨l,xs,e,hl,q⟩:=q1
 subst e
 obtain ⟨u,rfl,ru⟩:=wI r1
 obtain rfl:u=Value.ref l:=ru
 obtain ⟨its,rv,pl,hz⟩:=I1.tuple (SqT.of hl)
 have hlt:l < s1.heap.objs.size:=I1.hok.lt hl
 refine RV.enum_callT (show s1.heap.IsTuple l its.toArray from pl) fun h' he hit hk=>wpAny_pyIter_enum he ?_
 have f:∀ b∈[s1.heap.objs.size+1,s1.heap.objs.size],Yx X pins H1 b:=fun b hb=>by
  rcases List.mem_cons.mp hb with rfl | hb
  ·exact I1.fpOk (Nat.le_succ _) (I1.hok.fresh (Nat.le_succ _))
  ·have z:b=s1.heap.objs.size:=by simpa using hb
   subst z
   exact I1.fpOk (Nat.le_refl _) (I1.hok.fresh (Nat.le_refl _))
 exact ⟨s1.heap.objs.size+1,[s1.heap.objs.size+1,s1.heap.objs.size],_,_,H1,rfl,I1.kept (t' :=s1.toks) hk,vN _ _ l xs.length (Nat.succ_ne_self _) (Nat.ne_of_lt (Nat.lt_succ_of_lt hlt)) (Nat.ne_of_lt hlt),⟨Nat.zero_le _,⟨_,he⟩,hit⟩,f,q⟩
theorem G8 (hg:Gl X "enumerate") (hm:X.mg "enumerate"=none) (ha:Snd X Y a fa) (hs:St1 X a:=by exact st1 rfl):Vt X Y (.Tuple elts kk pt) (.Call (.Name "enumerate" p) [a] [] pos) (QZ fa):= .mk fun ρ=>
 PI.imp (kG hg hm (zS (ha ρ) ZW hs) hs) fun σ H R ⟨B,I,q⟩=>step I q fun t v H1 _ s1 r1 I1 q1=>by
  cases r1 with
  | @tup l xs ts h r=>exact ⟨l,xs,rfl,I1.sB _ _ h,w4 I1 (show Po Y rI _ H1 (.ok (wP ts)) R from q1) (kF h r)⟩
  | _=>exact q1.elim
end
end PV
namespace PySem.RW37
open PySem PySem.Spec PyProof.Rows L2
section
variable {X:Cx} {pos:Pos}
noncomputable def z2l (i j k:Nat) (ta:TA):TS:=fun D σ H=>ta σ H fun vs H1=>∃ v w z,vs=[v,w,z]/\D.nx (((σ.set i (some v)).set j (some w)).set k (some z)) H1
theorem G9 {i j k:Nat} {x y z:Str} {a b c:Expr} {ta:TA} {px py pz pt:Pos} {kt k2 pt2} (hc:X.calm=true) (hN:X.N.Nodup) (hi:X.N[i]? =some x) (hj:X.N[j]? =some y) (hk:X.N[k]? =some z) (hij:i ≠ j) (hik:i ≠ k) (hjk:j ≠ k)
  (hx:X.env.scope.names.lookup x=some .local) (hy:X.env.scope.names.lookup y=some .local) (hz:X.env.scope.names.lookup z=some .local) (ha:PA X [a,b,c] ta)
  (hw:swappedStores [.Tuple [.Name x px, .Name y py, .Name z pz] kt pt] (.Tuple [a,b,c] k2 pt2) X.env=pure (some [x,y,z]))
  (hs:swapsWithSole [.Tuple [.Name x px, .Name y py, .Name z pz] kt pt] (.Tuple [a,b,c] k2 pt2) pos.line X.env=pure false:=by rfl):
  PS X (.Assign [.Tuple [.Name x px, .Name y py, .Name z pz] kt pt] (.Tuple [a,b,c] k2 pt2) pos) (z2l i j k ta):=by
 intro pins s σ H D I h
 rw [exec_Assign_arm]
 refine wpAny_bind (wpAny_standAt ?_)
 rw [hs]
 refine wpAny_bind (wpAny_pure ?_)
 rw [if_neg (by decide)]
 refine wpAny_bind (Tuple_ (thn (ha _ pins s σ H _ I h) fun us s1 ⟨vs,H1,I1,r1,q1⟩=> ?_))
 obtain ⟨v,w,q,e1,q1⟩:=q1
 subst e1
 obtain ⟨u1,u2,u3,rfl,rv,rw',rz⟩:∃ u1 u2 u3,us=[u1,u2,u3]/\jk v u1/\jk w u2/\jk q u3:=by
  cases r1 with
  | cons p q=>
   cases q with
   | cons p' q' =>
    cases q' with
    | cons p'' q'' =>
     cases q''
     exact ⟨_,_,_,rfl,p,p',p''⟩
 refine wpAny_newObj_type ?_ (by show 3<=sizeLine; decide)
 have I2:Inv X pins σ H1 { s1 with heap:=s1.heap.push { cls:= .type "tuple",data:= .seq [u1,u2,u3].toArray } }:=I1.kept (t' :=s1.toks) fun b o e=>Heap.get?_push_of_some _ e
 rw [hw]
 refine wpAny_bind (wpAny_pure ?_)
 show wpAny (model X.prog X.w) X.A (do rule "assign.swapped-stores"; let items ← unpackItems (.ref s1.heap.objs.size) 3 none; assignInOrder [fun v=>bindName X.env z v,fun v=>bindName X.env y v,fun v=>bindName X.env x v] items.reverse; pure Flow.next) _ _ _
 refine wpAny_bind (wpAny_rule (wpAny_bind (unpackItems_tuple (items:= #[u1,u2,u3]) (I.ok.hd hc) (IsTup.new s1.heap _) fun h' hx' => ?_)))
 have I3:=I2.kept (h' :=h') (t' :=s1.toks) fun b o e=>hx' b o (Nat.ne_of_lt (Heap.lt_size e)) e
 show wpAny _ _ (assignInOrder [fun v=>bindName X.env z v,fun v=>bindName X.env y v,fun v=>bindName X.env x v] [u3,u2,u1] >>= fun _=>pure Flow.next) _ _ _
 refine wpAny_bind (assignInOrder_cons (wpAny_bindName (WI I3 hN hk (.inl hz) rz (fun s2 I4=> ?_) (.inr hz))))
 refine assignInOrder_cons (wpAny_bindName (WI I4 hN hj (.inl hy) rw' (fun s3 I5=> ?_) (.inr hy)))
 refine assignInOrder_cons (wpAny_bindName (WI I5 hN hi (.inl hx) rv (fun s4 I6=>assignInOrder_nil (wpAny_pure ?_)) (.inr hx)))
 rw [List.set_comm _ _ (Ne.symm hij),List.set_comm _ _ (Ne.symm hik),List.set_comm _ _ (Ne.symm hjk)] at I6
 exact ⟨_,H1,I6,q1⟩
end
end PySem.RW37
namespace PV
open PySem PySem.Spec PyProof.Rows L2 PySem.RW37
section
variable {X:Cx} {Y:Fx} {pos:Pos} {a b c:Expr}
noncomputable def Ga (i j k:Nat) (ga:En->R (List T)):En->RS:=fun ρ=>(ga ρ).s fun ts=>match ts with
 | [x,y,z]=> .nx (((ρ.set i (.vl x)).set j (.vl y)).set k (.vl z))
 | _=> .bad
theorem z0P {i j k:Nat} {x y z:Str} {ga:En->R (List T)} {px py pz pt pt2:Pos} {kt k2:Nat} (hc:X.calm=true) (hN:X.N.Nodup) (hi:X.N[i]? =some x) (hj:X.N[j]? =some y) (hk:X.N[k]? =some z) (hij:i ≠ j) (hik:i ≠ k) (hjk:j ≠ k) (hx:X.env.scope.names.lookup x=some .local) (hy:X.env.scope.names.lookup y=some .local) (hz:X.env.scope.names.lookup z=some .local)
  (ha:Q5 X Y [a,b,c] ga) (hs:swappedStores [.Tuple [.Name x px, .Name y py, .Name z pz] kt pt] (.Tuple [a,b,c] k2 pt2) X.env=pure (some [x,y,z])) (hw:swapsWithSole [.Tuple [.Name x px, .Name y py, .Name z pz] kt pt] (.Tuple [a,b,c] k2 pt2) pos.line X.env=pure false:=by rfl):
  yU X Y (.Assign [.Tuple [.Name x px, .Name y py, .Name z pz] kt pt] (.Tuple [a,b,c] k2 pt2) pos) (Ga i j k ga):= .mk fun ρ=>
 PS.imp (G9 hc hN hi hj hk hij hik hjk hx hy hz (ha ρ) hs hw) fun D σ H ⟨B,I,q⟩=>uY I q fun ts vs H1 _ s1 r1 I1 q1=>by
  cases r1 with
  | nil=>exact q1.elim
  | cons r rr=>
   cases rr with
   | nil=>exact q1.elim
   | cons r' rr=>
    cases rr with
    | nil=>exact q1.elim
    | cons r'' rr=>
     cases rr with
     | cons _ _=>exact q1.elim
     | nil=>exact ⟨_,_,_,rfl,q1 _ _ _ (zT.refl _) (((I1.setV i r).setV j r').setV k r'')⟩
theorem vO {pins:List (Addr×Obj)} {σ:L2.St} {H:Hp} {s:Shared} {A:Around} {E:Value->Shared->Prop} {Q:Value->Shared->Prop} {b:Bool} {v:V} {u:Value} {t:T} {tp:Addr} {xs:List V} {its:List Value} (I:Inv X pins σ H s) (rx:jk v u) (r:Rep H v t) (hp:H tp=some (.tup xs)) (hv:ZD xs its)
  (hu:∀ its',ZD xs its' ->its' =its) (e:PySem.W.kitAny X.K (.type (tyN t)) its=some b) (h:∀ tk,Q (.bool b) { s with toks:=tk }):
  wpAny (model X.prog X.w) A (call (.builtin "isinstance") [u, .ref tp]) Q E s:=by
 obtain ⟨_,its',hv',o,ho,hc,n,hd⟩:=(show jl X.prog X.w H s.heap tp (.tup xs) from I.hok tp _ hp)
 obtain rfl:=hu _ hv'
 obtain ⟨c,dd,da,sl⟩:=o
 dsimp only at hc hd
 subst hc hd
 cases r with
 | non=>cases (show u=Value.none from rx); exact PySem.W.kia_tup PySem.W.kitx_none I.kIn True.intro ho e (fun z=>nomatch z) h
 | bl y=>cases (show u=Value.bool y from rx); exact PySem.W.kia_tup PySem.W.kitx_bool I.kIn True.intro ho e (fun z=>nomatch z) h
 | int i=>obtain ⟨t,q⟩:=(show ∃ t,u=Value.int i t from rx); cases q; exact PySem.W.kia_tup PySem.W.kitx_int I.kIn True.intro ho e (fun z=>nomatch z) h
 | str y=>obtain ⟨t,q⟩:=(show ∃ t,u=Value.str y t from rx); cases q; exact PySem.W.kia_tup PySem.W.kitx_str I.kIn True.intro ho e (fun z=>nomatch z) h
 | @tup a xs _ ea=>
  cases (show u=Value.ref a from rx)
  obtain ⟨_,_,_,p⟩:=(show jl X.prog X.w H s.heap a (.tup xs) from I.hok a _ ea)
  obtain ⟨o,h1,h2,_⟩:=p
  exact PySem.W.kia_tup PySem.W.kitx_tuple I.kIn ⟨o,h1,h2⟩ ho e (fun z=>nomatch z) h
 | @lst a xs _ ea=>
  cases (show u=Value.ref a from rx)
  obtain ⟨_,_,n,_,h1⟩:=(show jl X.prog X.w H s.heap a (.lst xs) from I.hok a _ ea)
  exact PySem.W.kia_tup PySem.W.kitx_list I.kIn ⟨_,h1,rfl⟩ ho e (fun z=>nomatch z) h
 | @fz a ob xs _ ea=>
  cases (show u=Value.ref a from rx)
  obtain ⟨_,_,_,n,_,h1⟩:=(show jl X.prog X.w H s.heap a (.frz ob (.lst xs)) from I.hok a _ ea)
  exact PySem.W.kia_tup PySem.W.kitx_list I.kIn ⟨_,h1,rfl⟩ ho e (fun z=>nomatch z) h
theorem kH {n m:String}:∀ its',ZD [.ty n, .ty m] its' ->its' =[.type n, .type m]:=fun its' h=>by
 cases h with
 | cons p q=>
  cases q with
  | cons p' q' =>
   cases q'
   rw [show _=Value.type n from p,show _=Value.type m from p']
theorem xC:Jn X (.builtin "isinstance") (fun xs H Q=>∃ v tp n m t b,xs=[v, .ref tp]/\H tp=some (.tup [.ty n, .ty m])/\Rep H v t/\PySem.W.kitAny X.K (.type (tyN t)) [.type n, .type m]=some b/\Q (.bl b) H):=by
 intro pins s σ H xs us Q I rv h
 obtain ⟨v,tp,n,m,t,b,rfl,hp,r,hk,q⟩:=h
 obtain ⟨u,w,rfl,ru,rw'⟩:=VE rv
 obtain rfl:w=Value.ref tp:=rw'
 exact vO I ru r hp (.cons rfl (.cons rfl .nil)) kH hk fun tk=>⟨.bl _,H,I.tok tk,rfl,q⟩
noncomputable def Gb (n m:String) (t:T):R T:= .ok (.bl (isT n t || isT m t))
theorem Gc {K:PySem.W.Frag} {t:T} {n m:String} (h1:PySem.W.kitOne K (.type (tyN t)) (.type n)=some (isT n t)) (h2:PySem.W.kitOne K (.type (tyN t)) (.type m)=some (isT m t)):
  PySem.W.kitAny K (.type (tyN t)) [.type n, .type m]=some (isT n t || isT m t):=by
 unfold PySem.W.kitAny
 rw [h1]
 cases isT n t with
 | true=>rfl
 | false=>
  show PySem.W.kitAny K (.type (tyN t)) [.type m]=_
  unfold PySem.W.kitAny
  rw [h2]
  cases isT m t <;> rfl
theorem z0Q {fa:En->R T} {p p1 p2 pt:Pos} {n m:String} {kt:Nat} (hk:∀ t,PySem.W.kitOne X.K (.type (tyN t)) (.type n)=some (isT n t)) (hk' :∀ t,PySem.W.kitOne X.K (.type (tyN t)) (.type m)=some (isT m t))
  (gl:Gl X "isinstance") (mg:X.mg "isinstance"=none) (gl1:Gl X (Str.ofString n)) (mg1:X.mg (Str.ofString n)=none) (bt1:bootBuiltins (Str.ofString n)=some (.type n)) (gl2:Gl X (Str.ofString m)) (mg2:X.mg (Str.ofString m)=none) (bt2:bootBuiltins (Str.ofString m)=some (.type m)) (ha:Snd X Y a fa)
  (hs:starEach [a, .Tuple [.Name (Str.ofString n) p1, .Name (Str.ofString m) p2] kt pt] X.env=[(false,eval a X.env),(false,eval (.Tuple [.Name (Str.ofString n) p1, .Name (Str.ofString m) p2] kt pt) X.env)]:=by exact st2 rfl rfl)
  (hs2:starEach [.Tuple [.Name (Str.ofString n) p1, .Name (Str.ofString m) p2] kt pt] X.env=[(false,eval (.Tuple [.Name (Str.ofString n) p1, .Name (Str.ofString m) p2] kt pt) X.env)]:=by exact st1 rfl)
  (hs3:starEach [.Name (Str.ofString n) p1, .Name (Str.ofString m) p2] X.env=[(false,eval (.Name (Str.ofString n) p1) X.env),(false,eval (.Name (Str.ofString m) p2) X.env)]:=by exact st2 rfl rfl)
  (hs4:starEach [.Name (Str.ofString m) p2] X.env=[(false,eval (.Name (Str.ofString m) p2) X.env)]:=by exact st1 rfl)
  (hn1:Str.ofString n ≠ "__name__":=by decide) (hd1:(Str.ofString n == ("__debug__":Str))=false:=by decide) (hn2:Str.ofString m ≠ "__name__":=by decide) (hd2:(Str.ofString m == ("__debug__":Str))=false:=by decide)
  (hz:((backTo pos (starEach [.Tuple [.Name (Str.ofString n) p1, .Name (Str.ofString m) p2] kt pt] X.env)).any fun x=>x.fst)=false:=by exact JC rfl):
  Snd X Y (.Call (.Name "isinstance" p) [a, .Tuple [.Name (Str.ofString n) p1, .Name (Str.ofString m) p2] kt pt] [] pos) (ap1 (Gb n m) fa):= .mk fun ρ=>
 PE.imp (WJ xC gl mg PyProof.Rows.Boot.«isinstance» (zS (ha ρ) (zS (K8 (zS (Q1 (v:= .ty n) gl1 mg1 bt1 rfl hn1 hd1) (zS (Q1 (v:= .ty m) gl2 mg2 bt2 rfl hn2 hd2) ZW hs4) (by rw [hs3,hs4]))) ZW hs2) (by rw [hs,hs2])) (by decide) (by decide) (by rw [hs,hs2]) hz) fun σ H Q ⟨B,I,q⟩=>
  step I q fun t v H1 _ s1 r1 I1 q1=>⟨Jp (by show 2<=bnd; decide),fun p hp=>⟨v,p,n,m,t,_,rfl,Zq,(r1.mono I1.sB).mono (zT.new hp _),Gc (hk t) (hk' t),q1 _ _ (zT.new hp _) (.bl _)⟩⟩
noncomputable def z1v (fa:En->R T) (g:T->En->R En):En->RS:=fun ρ=>(fa ρ).s fun t=>match g t ρ with
 | .ok ρ' => .nx ρ'
 | _=> .bad
theorem z0R {tg:Expr} {fa:En->R T} {g:T->En->R En} (ha:Snd X Y a fa) (hg:z1s X Y tg g) (hs:swapsWithSole [tg] a pos.line X.env=pure false:=by rfl) (hw:swappedStores [tg] a X.env=pure none:=by rfl)
  (h1:(assignEach [tg] X.env).map (·.2)=[assign tg X.env]:=by rfl):yU X Y (.Assign [tg] a pos) (z1v fa g):= .mk fun ρ=>by
 obtain ⟨tt,hp,hr⟩:=hg
 refine PS.imp (GX (ha ρ) hp hs hw h1) fun D σ H ⟨B,I,q⟩=>uY I q fun t v H1 _ s1 r1 I1 q1=>hr _ _ _ _ _ _ _ I1 r1 ?_
 cases h:g t ρ with
 | ok ρ' =>
  rw [h] at q1
  exact fun σ' I' =>q1 _ _ _ (zT.refl _) I'
 | ex c=>rw [h] at q1; exact q1.elim
 | bad=>rw [h] at q1; exact q1.elim
end
end PV
namespace G
open PySem PySem.Spec PyProof.Rows L2 PV
noncomputable def UC:En->RS:=
  zI (ifS (zK ltC (vB 1) (ap1 wO (vB 0))) (zX (zg ixT (vE 0) (vE 1))) (nxS))
  (zI (ifS (zK eqC (vB 0) (w8 (zj))) (zX (cE (.int 0))) (nxS))
  (zX (zg zL (zg ZE (zg ixT (vE 0) (zg Wo (vE 1) (ap1 wO (vB 0)))) (cE (.int 31))) (vE 1))))
noncomputable def Jr:List T->R T:=fun ts=>zu (UC  (en0 2 ts))
noncomputable def UD (c__law_cell:List T->R T):En->RS:=
  zI (Zf 3 (zg Wo (zg ZE (zg zL (zc 2 c__law_cell (z9 (vE 0) (z9 (vE 1) (zj)))) (zg ZE (cE (.int 6151)) (zg zL (vE 1) (cE (.int 1))))) (cE (.int 40692))) (cE (.int 2147483399))))
  (zX (zg Wo (zg Wo (zg zL (zg ZE (vE 3) (vE 3)) (zg Us (vE 3) (cE (.int 31)))) (cE (.int 2147483629))) (vE 2)))
noncomputable def zo:List T->R T:=fun ts=>zu (UD (Jr) (en0 4 ts))
noncomputable def jK (c__law_pick:List T->R T):En->RS:=
  zI (Zf 2 (cE (.str "abcdefghijklmnopqrstuvwxyz")))
  (zI (ifS (zK gtC (zc 3 c__law_pick (z9 (vE 0) (z9 (vE 1) (z9 (cE (.int 6)) (zj))))) (cE (.int 0))) (zX (zg ixT (w8 (z9 (cE (.str "a")) (z9 (cE (.str "b")) (z9 (cE (.str "ab")) (z9 (cE (.str "cab")) (zj)))))) (zc 3 c__law_pick (z9 (vE 0) (z9 (zg zL (vE 1) (cE (.int 1))) (z9 (cE (.int 4)) (zj))))))) (nxS))
  (zX (ap1 (z0u "") (Z9 (Jz (zg zL (cE (.int 1)) (zc 3 c__law_pick (z9 (vE 0) (z9 (zg zL (vE 1) (cE (.int 1))) (z9 (cE (.int 3)) (zj))))))) (zD 0) (ZI) (zg ixT (vE 3) (zc 3 c__law_pick (z9 (vE 1) (z9 (zg zL (zg zL (vE 2) (cE (.int 2))) (vE 0)) (z9 (cE (.int 26)) (zj)))))) 1 [0,1,2]))))
noncomputable def ZF:List T->R T:=fun ts=>zu (jK (zo) (en0 3 ts))
noncomputable def ZY (c__law_pick:List T->R T) (c__law_word_of:List T->R T):En->RS:=
  zI (ifS (zK gtC (zc 3 c__law_pick (z9 (vE 0) (z9 (vE 1) (z9 (cE (.int 3)) (zj))))) (cE (.int 0))) (zI (Zf 2 (zg Ub (zc 3 c__law_pick (z9 (vE 0) (z9 (zg zL (vE 1) (cE (.int 1))) (z9 (cE (.int 7)) (zj))))) (cE (.int 3))))
  (zI (ifS (zK eqC (zc 3 c__law_pick (z9 (vE 0) (z9 (zg zL (vE 1) (cE (.int 3))) (z9 (cE (.int 8)) (zj))))) (cE (.int 0))) (Zf 2 (zg ixT (w8 (z9 (ka (cE (.int 20))) (z9 (cE (.int 17)) (z9 (cE (.int 20)) (zj))))) (zc 3 c__law_pick (z9 (vE 0) (z9 (zg zL (vE 1) (cE (.int 4))) (z9 (cE (.int 3)) (zj))))))) (nxS))
  (zX (jo (z9 (cE (.str "whole")) (z9 (vE 2) (z9 (zg xa (cE (.int 20)) (zg zL (vE 2) (zc 3 c__law_pick (z9 (vE 0) (z9 (zg zL (vE 1) (cE (.int 2))) (z9 (cE (.int 4)) (zj))))))) (zj)))))))) (nxS))
  (zI (Vs 3 (zj))
  (zI (Wc (Jz (zg zL (cE (.int 1)) (zc 3 c__law_pick (z9 (vE 0) (z9 (zg zL (vE 1) (cE (.int 1))) (z9 (cE (.int 4)) (zj))))))) (zD 4) (zI (Zf 5 (zc 2 c__law_word_of (z9 (vE 0) (z9 (zg zL (zg zL (vE 1) (cE (.int 5))) (zg ZE (cE (.int 5)) (vE 4))) (zj)))))
  (ifS (zK QN (vB 5) (vB 3)) (kj 3 (vE 5)) (nxS))))
  (zX (jo (z9 (cE (.str "pick")) (z9 (ap1 z1r (Z9 (gN (vE 3)) (jq 0 1) (ZI) (jo (z9 (vE 1) (z9 (zg zL (cE (.int 1)) (zc 3 c__law_pick (z9 (vE 2) (z9 (zg zL (zg zL (vE 3) (cE (.int 30))) (vE 0)) (z9 (cE (.int 20)) (zj)))))) (zj)))) 2 [0,1])) (zj)))))))
noncomputable def Zy:List T->R T:=fun ts=>zu (ZY (zo) (ZF) (en0 6 ts))
noncomputable def wl (c__law_pick:List T->R T) (c__law_leaf_kind:List T->R T) (c__law_kind:List T->R T):En->RS:=
  zI (Zf 3 (zc 3 c__law_pick (z9 (vE 0) (z9 (vE 1) (z9 (cE (.int 5)) (zj))))))
  (zI (ifS (orT (zK eqC (vB 2) (cE (.int 1))) (zK ltC (vB 3) (cE (.int 2)))) (zX (zc 2 c__law_leaf_kind (z9 (vE 0) (z9 (zg zL (vE 1) (cE (.int 1))) (zj))))) (nxS))
  (zI (ifS (zK ltC (vB 3) (cE (.int 4))) (zI (Zf 4 (Z9 (Jz (zg zL (cE (.int 1)) (zc 3 c__law_pick (z9 (vE 0) (z9 (zg zL (vE 1) (cE (.int 1))) (z9 (cE (.int 3)) (zj))))))) (zD 0) (ZI) (zc 3 c__law_kind (z9 (vE 1) (z9 (zg zL (zg zL (zg ZE (cE (.int 3)) (vE 2)) (cE (.int 40))) (zg ZE (cE (.int 50)) (vE 0))) (z9 (zg Ub (vE 3) (cE (.int 1))) (zj))))) 1 [0,1,2]))
  (zX (jo (z9 (cE (.str "row")) (z9 (ap1 z1r (vE 4)) (zj)))))) (nxS))
  (zI (Zf 5 (zc 3 c__law_pick (z9 (vE 0) (z9 (zg zL (vE 1) (cE (.int 1))) (z9 (cE (.int 3)) (zj))))))
  (zX (jo (z9 (cE (.str "many")) (z9 (zc 3 c__law_kind (z9 (vE 0) (z9 (zg zL (zg ZE (cE (.int 3)) (vE 1)) (cE (.int 40))) (z9 (zg Ub (vE 2) (cE (.int 1))) (zj))))) (z9 (vE 5) (z9 (zg xa (cE (.int 3)) (zg zL (vE 5) (zc 3 c__law_pick (z9 (vE 0) (z9 (zg zL (vE 1) (cE (.int 2))) (z9 (cE (.int 3)) (zj))))))) (zj))))))))))
noncomputable def Zs:Nat->Nat->List T->R T
 | 0,_=>fun _=> .bad
 | n+1,_=>fun ts=>zu (wl (zo) (Zy) (Zs n 0) (en0 6 ts))
noncomputable abbrev Zt (n:Nat):List T->R T:=Zs n 0
noncomputable def jL:En->RS:=
  zI (Zf 1 (w8 (z9 (jo (zj)) (zj))))
  (zI (Wc (Jh (vE 0)) (zD 2) (zI (Vs 3 (zj))
  (zI (Wc (Jh (vE 1)) (zD 4) (XJ 3 (Z9 (Jh (vE 2)) (zD 0) (ZI) (zg zL (vE 1) (jo (z9 (vE 0) (zj)))) 1 [4])))
  (mvS 1 3))))
  (zX (vE 1)))
noncomputable def zh:List T->R T:=fun ts=>zu (jL  (en0 5 ts))
noncomputable def zC (c__law_all:List T->R T) (c__law_rows_of:List T->R T):En->RS:=
  zI (ifS (zK eqC (zg ixT (vE 0) (cE (.int 0))) (cE (.str "whole"))) (zX (z1t (uZ (zg ixT (vE 0) (cE (.int 1))) (zg zL (zg ixT (vE 0) (cE (.int 2))) (cE (.int 1)))))) (nxS))
  (zI (ifS (zK eqC (zg ixT (vE 0) (cE (.int 0))) (cE (.str "pick"))) (zX (Z9 (Jh (zg ixT (vE 0) (cE (.int 1)))) (jq 0 1) (ZI) (vE 0) 2 [])) (nxS))
  (zI (ifS (zK eqC (zg ixT (vE 0) (cE (.int 0))) (cE (.str "row"))) (zX (zc 1 c__law_rows_of (z9 (Z9 (Jh (zg ixT (vE 0) (cE (.int 1)))) (zD 0) (ZI) (zc 1 c__law_all (z9 (vE 0) (zj))) 1 []) (zj)))) (nxS))
  (zI (Vs 1 (zj))
  (zI (Wc (uZ (zg ixT (vE 0) (cE (.int 2))) (zg zL (zg ixT (vE 0) (cE (.int 3))) (cE (.int 1)))) (zD 2) (XJ 1 (zc 1 c__law_rows_of (z9 (zg ZE (w8 (z9 (zc 1 c__law_all (z9 (zg ixT (vE 0) (cE (.int 1))) (zj))) (zj))) (vE 2)) (zj)))))
  (zX (vE 1))))))
noncomputable def Ji:Nat->Nat->List T->R T
 | 0,_=>fun _=> .bad
 | n+1,_=>fun ts=>zu (zC (Ji n 0) (zh) (en0 3 ts))
noncomputable abbrev zJ (n:Nat):List T->R T:=Ji n 0
noncomputable def zO (c__law_all:List T->R T) (c__law_size:List T->R T):En->RS:=
  zI (ifS (zK inC (zg ixT (vE 0) (cE (.int 0))) (jo (z9 (cE (.str "whole")) (z9 (cE (.str "pick")) (zj))))) (zX (ap1 wO (zc 1 c__law_all (z9 (vE 0) (zj))))) (nxS))
  (zI (Zf 1 (ifE (zK eqC (zg ixT (vE 0) (cE (.int 0))) (cE (.str "row"))) (Z9 (Jh (zg ixT (vE 0) (cE (.int 1)))) (zD 0) (ZI) (zc 1 c__law_size (z9 (vE 0) (zj))) 1 []) (w8 (zj))))
  (zI (Zf 2 (cE (.int 1)))
  (zI (Wc (Jh (vE 1)) (zD 3) (Zf 2 (zg ZE (vE 2) (vE 3))))
  (zI (ifS (zK eqC (zg ixT (vE 0) (cE (.int 0))) (cE (.str "many"))) (zI (Zf 4 (zc 1 c__law_size (z9 (zg ixT (vE 0) (cE (.int 1))) (zj))))
  (zI (Zf 2 (zg zL (ap1 Yt (jZ eqC (zg ixT (vE 0) (cE (.int 2))) (cE (.int 0)))) (zg ZE (vE 4) (ap1 Yt (chE leC leC (zg ixT (vE 0) (cE (.int 2))) (cE (.int 1)) (zg ixT (vE 0) (cE (.int 3))))))))
  (zI (Zf 2 (zg zL (vE 2) (zg ZE (zg ZE (vE 4) (vE 4)) (ap1 Yt (chE leC leC (zg ixT (vE 0) (cE (.int 2))) (cE (.int 2)) (zg ixT (vE 0) (cE (.int 3))))))))
  (Zf 2 (zg zL (vE 2) (zg ZE (zg ZE (zg ZE (vE 4) (vE 4)) (vE 4)) (ap1 Yt (jZ eqC (zg ixT (vE 0) (cE (.int 3))) (cE (.int 3)))))))))) (nxS))
  (zX (vE 2))))))
noncomputable def j3:Nat->Nat->List T->R T
 | 0,_=>fun _=> .bad
 | n+1,_=>fun ts=>zu (zO (zJ 8) (j3 n 0) (en0 5 ts))
noncomputable abbrev j4 (n:Nat):List T->R T:=j3 n 0
noncomputable def JE (c__law_kind:List T->R T) (c__law_size:List T->R T):En->RS:=
  zI (Zf 3 (zc 3 c__law_kind (z9 (vE 0) (z9 (vE 1) (z9 (cE (.int 3)) (zj))))))
  (zI (Wc (Jz (cE (.int 3))) (zD 4) (zI (ifS (zK leC (zc 1 c__law_size (z9 (vE 3) (zj))) (vB 2)) (zX (vE 3)) (nxS))
  (Zf 3 (zc 3 c__law_kind (z9 (vE 0) (z9 (zg zL (zg zL (vE 1) (cE (.int 500))) (zg ZE (cE (.int 700)) (vE 4))) (z9 (cE (.int 2)) (zj))))))))
  (zX (ifE (zK leC (zc 1 c__law_size (z9 (vE 3) (zj))) (vB 2)) (vE 3) (jo (z9 (cE (.str "whole")) (z9 (ka (cE (.int 1))) (z9 (cE (.int 2)) (zj))))))))
noncomputable def jd:List T->R T:=fun ts=>zu (JE (Zt 8) (j4 8) (en0 5 ts))
noncomputable def wm (c__law_pick:List T->R T) (c__law_rule:List T->R T):En->RS:=
  zI (Zf 3 (zc 3 c__law_pick (z9 (vE 0) (z9 (vE 1) (z9 (cE (.int 9)) (zj))))))
  (zI (ifS (gB (zK gtC (vB 2) (cE (.int 1))) (zK gtC (vB 3) (cE (.int 5)))) (zI (Zf 4 (zc 3 c__law_rule (z9 (vE 0) (z9 (zg zL (zg ZE (cE (.int 2)) (vE 1)) (cE (.int 11))) (z9 (zg Ub (vE 2) (cE (.int 1))) (zj))))))
  (zI (ifS (zK eqC (vB 3) (cE (.int 6))) (zX (jo (z9 (cE (.str "no")) (z9 (vE 4) (zj))))) (nxS))
  (zX (jo (z9 (zg ixT (w8 (z9 (cE (.str "all")) (z9 (cE (.str "some")) (zj)))) (zg Ub (vE 3) (cE (.int 7)))) (z9 (vE 4) (z9 (zc 3 c__law_rule (z9 (vE 0) (z9 (zg zL (zg ZE (cE (.int 2)) (vE 1)) (cE (.int 24))) (z9 (zg Ub (vE 2) (cE (.int 1))) (zj))))) (zj)))))))) (nxS))
  (zI (Zf 5 (zg Ub (zc 3 c__law_pick (z9 (vE 0) (z9 (zg zL (vE 1) (cE (.int 1))) (z9 (cE (.int 9)) (zj))))) (cE (.int 4))))
  (zI (ifS (zK ltC (zg Wo (vE 3) (cE (.int 6))) (cE (.int 2))) (zX (jo (z9 (cE (.str "sum")) (z9 (vE 5) (z9 (zg Ub (zg zL (vE 5) (zc 3 c__law_pick (z9 (vE 0) (z9 (zg zL (vE 1) (cE (.int 2))) (z9 (cE (.int 5)) (zj)))))) (cE (.int 1))) (zj)))))) (nxS))
  (zI (ifS (zK eqC (zg Wo (vE 3) (cE (.int 6))) (cE (.int 2))) (zX (jo (z9 (cE (.str "size")) (z9 (zc 3 c__law_pick (z9 (vE 0) (z9 (zg zL (vE 1) (cE (.int 1))) (z9 (cE (.int 3)) (zj))))) (z9 (zc 3 c__law_pick (z9 (vE 0) (z9 (zg zL (vE 1) (cE (.int 2))) (z9 (cE (.int 4)) (zj))))) (zj)))))) (nxS))
  (zI (ifS (zK eqC (zg Wo (vE 3) (cE (.int 6))) (cE (.int 3))) (zX (jo (z9 (cE (.str "word")) (z9 (zg ixT (w8 (z9 (cE (.str "a")) (z9 (cE (.str "b")) (z9 (cE (.str "ab")) (z9 (cE (.str "zz")) (zj)))))) (zc 3 c__law_pick (z9 (vE 0) (z9 (zg zL (vE 1) (cE (.int 1))) (z9 (cE (.int 4)) (zj)))))) (zj))))) (nxS))
  (zX (ifE (zK eqC (zg Wo (vE 3) (cE (.int 6))) (cE (.int 4))) (jo (z9 (cE (.str "rising")) (zj))) (jo (z9 (cE (.str "unlike")) (zj))))))))))
noncomputable def ZO:Nat->Nat->List T->R T
 | 0,_=>fun _=> .bad
 | n+1,_=>fun ts=>zu (wm (zo) (ZO n 0) (en0 6 ts))
noncomputable abbrev j5 (n:Nat):List T->R T:=ZO n 0
noncomputable def yw:En->RS:=
  zX (Wv (ap1 (yS "int") (vB 0)) (XI (ap1 (yS "bool") (vB 0))))
noncomputable def Zj:List T->R T:=fun ts=>zu (yw  (en0 1 ts))
noncomputable def We (c_is_whole:List T->R T):En->RS:=
  zX (Wv (zc 1 c_is_whole (z9 (vE 0) (zj))) (chE leC leC (ka (cE (.int 50))) (vB 0) (cE (.int 50))))
noncomputable def Wf:List T->R T:=fun ts=>zu (We (Zj) (en0 1 ts))
noncomputable def qb:En->RS:=
  zI (ifS (orT (YN (wG (ap1 (yS "str") (vB 0)))) (YN (chT leC leC (cE (.int 1)) (ap1 wO (vB 0)) (cE (.int 3))))) (zX (cE (.bl false))) (nxS))
  (zX (ap1 xb (Z9 (Jh (vE 0)) (zD 0) (ZI) (chE leC leC (cE (.str "a")) (vB 0) (cE (.str "z"))) 1 [])))
noncomputable def jQ:List T->R T:=fun ts=>zu (qb  (en0 1 ts))
noncomputable def ZZ (c_is_word:List T->R T) (c_is_rule_within:List T->R T) (c_is_bound:List T->R T):En->RS:=
  zI (ifS (orT (zK eqC (vB 1) (cE (.int 0))) (orT (YN (wG (ap1 (yS "tuple") (vB 0)))) (zK eqC (ap1 wO (vB 0)) (cE (.int 0))))) (zX (cE (.bl false))) (nxS))
  (zI (ifS (orT (zK eqC (zg ixT (vE 0) (cE (.int 0))) (cE (.str "sum"))) (zK eqC (zg ixT (vE 0) (cE (.int 0))) (cE (.str "size")))) (zX (Wv (jZ eqC (ap1 wO (vB 0)) (cE (.int 3))) (Wv (zc 1 c_is_bound (z9 (zg ixT (vE 0) (cE (.int 1))) (zj))) (zc 1 c_is_bound (z9 (zg ixT (vE 0) (cE (.int 2))) (zj)))))) (nxS))
  (zI (ifS (zK eqC (zg ixT (vE 0) (cE (.int 0))) (cE (.str "word"))) (zX (Wv (jZ eqC (ap1 wO (vB 0)) (cE (.int 2))) (zc 1 c_is_word (z9 (zg ixT (vE 0) (cE (.int 1))) (zj))))) (nxS))
  (zI (ifS (orT (zK eqC (zg ixT (vE 0) (cE (.int 0))) (cE (.str "rising"))) (zK eqC (zg ixT (vE 0) (cE (.int 0))) (cE (.str "unlike")))) (zX (jZ eqC (ap1 wO (vB 0)) (cE (.int 1)))) (nxS))
  (zI (ifS (zK eqC (zg ixT (vE 0) (cE (.int 0))) (cE (.str "no"))) (zX (Wv (jZ eqC (ap1 wO (vB 0)) (cE (.int 2))) (zc 2 c_is_rule_within (z9 (zg ixT (vE 0) (cE (.int 1))) (z9 (zg Ub (vE 1) (cE (.int 1))) (zj)))))) (nxS))
  (zI (ifS (orT (zK eqC (zg ixT (vE 0) (cE (.int 0))) (cE (.str "all"))) (zK eqC (zg ixT (vE 0) (cE (.int 0))) (cE (.str "some")))) (zX (Wv (jZ eqC (ap1 wO (vB 0)) (cE (.int 3))) (Wv (zc 2 c_is_rule_within (z9 (zg ixT (vE 0) (cE (.int 1))) (z9 (zg Ub (vE 1) (cE (.int 1))) (zj)))) (zc 2 c_is_rule_within (z9 (zg ixT (vE 0) (cE (.int 2))) (z9 (zg Ub (vE 1) (cE (.int 1))) (zj))))))) (nxS))
  (zX (cE (.bl false))))))))
noncomputable def Zz:Nat->Nat->List T->R T
 | 0,_=>fun _=> .bad
 | n+1,_=>fun ts=>zu (ZZ (jQ) (Zz n 0) (Wf) (en0 2 ts))
noncomputable abbrev J0 (n:Nat):List T->R T:=Zz n 0
noncomputable def WO (c_is_rule_within:List T->R T):En->RS:=
  zX (zc 2 c_is_rule_within (z9 (vE 0) (z9 (cE (.int 3)) (zj))))
noncomputable def WP:List T->R T:=fun ts=>zu (WO (J0 8) (en0 1 ts))
noncomputable def wn (c_is_rule:List T->R T):En->RS:=
  ifS (YN (wG (zc 1 c_is_rule (z9 (vE 0) (zj))))) (YV 2) (nxS)
noncomputable def j6:List T->R T:=fun ts=>zu (wn (WP) (en0 1 ts))
noncomputable def JF (c_need_rule:List T->R T):En->RS:=
  zI (ifS (YN (wG (ap1 (Gb "list" "tuple") (vE 0)))) (YV 2) (nxS))
  (Wc (Jh (vE 0)) (zD 1) (Uv (zc 1 c_need_rule (z9 (vE 1) (zj)))))
noncomputable def Zn:List T->R T:=fun ts=>zu (JF (j6) (en0 2 ts))
noncomputable def JG:En->RS:=
  zX (XI (ap1 z2i (Z9 (QZ (vE 0)) (jq 0 1) (ZI) (jZ inC (vB 1) (slE (vE 2) (noO) (ug (vE 0)))) 2 [0])))
noncomputable def JH:List T->R T:=fun ts=>zu (JG  (en0 1 ts))
noncomputable def JI:En->RS:=
  zX (ap1 xb (Z9 (z2b (vE 0) (slE (vE 0) (ug (cE (.int 1))) (noO))) (jq 0 1) (ZI) (jZ leC (vB 0) (vB 1)) 2 []))
noncomputable def JJ:List T->R T:=fun ts=>zu (JI  (en0 1 ts))
noncomputable def yx:En->RS:=
  zX (ifE (wG (ap1 (yS "tuple") (vB 0))) (vE 0) (jo (z9 (vE 0) (zj))))
noncomputable def Wg:List T->R T:=fun ts=>zu (yx  (en0 1 ts))
noncomputable def wo (c_leaves_of:List T->R T):En->RS:=
  zI (ifS (YN (wG (ap1 (yS "tuple") (vB 0)))) (zX (w8 (z9 (vE 0) (zj)))) (nxS))
  (zI (Vs 1 (zj))
  (zI (Wc (Jh (vE 0)) (zD 2) (XJ 1 (zc 1 c_leaves_of (z9 (vE 2) (zj)))))
  (zX (vE 1))))
noncomputable def j7:Nat->Nat->List T->R T
 | 0,_=>fun _=> .bad
 | n+1,_=>fun ts=>zu (wo (j7 n 0) (en0 3 ts))
noncomputable abbrev j8 (n:Nat):List T->R T:=j7 n 0
noncomputable def JK (c_is_whole:List T->R T) (c_leaves_of:List T->R T):En->RS:=
  zX (Z9 (Jh (zc 1 c_leaves_of (z9 (vE 0) (zj)))) (zD 0) (wG (zc 1 c_is_whole (z9 (vE 0) (zj)))) (vE 0) 1 [])
noncomputable def JL:List T->R T:=fun ts=>zu (JK (Zj) (j8 8) (en0 1 ts))
noncomputable def j0 (c_parts_of:List T->R T) (c_leaves_of:List T->R T) (c_numbers_in:List T->R T) (c_are_rising:List T->R T) (c_are_unlike:List T->R T):En->RS:=
  zI (ifS (zK eqC (zg ixT (vE 0) (cE (.int 0))) (cE (.str "sum"))) (zX (chE leC leC (zg ixT (vE 0) (cE (.int 1))) (ap1 G4 (zc 1 c_numbers_in (z9 (vE 1) (zj)))) (zg ixT (vE 0) (cE (.int 2))))) (nxS))
  (zI (ifS (zK eqC (zg ixT (vE 0) (cE (.int 0))) (cE (.str "size"))) (zX (chE leC leC (zg ixT (vE 0) (cE (.int 1))) (ap1 wO (zc 1 c_parts_of (z9 (vE 1) (zj)))) (zg ixT (vE 0) (cE (.int 2))))) (nxS))
  (zI (ifS (zK eqC (zg ixT (vE 0) (cE (.int 0))) (cE (.str "word"))) (zX (jZ inC (zg ixT (vE 0) (cE (.int 1))) (zc 1 c_leaves_of (z9 (vE 1) (zj))))) (nxS))
  (zI (ifS (zK eqC (zg ixT (vE 0) (cE (.int 0))) (cE (.str "rising"))) (zX (zc 1 c_are_rising (z9 (zc 1 c_numbers_in (z9 (vE 1) (zj))) (zj)))) (nxS))
  (zX (zc 1 c_are_unlike (z9 (zc 1 c_parts_of (z9 (vE 1) (zj))) (zj)))))))
noncomputable def ZA:List T->R T:=fun ts=>zu (j0 (Wg) (j8 8) (JL) (JJ) (JH) (en0 2 ts))
noncomputable def WQ (c_is_kept:List T->R T) (c_is_single_kept:List T->R T):En->RS:=
  zI (ifS (zK eqC (zg ixT (vE 0) (cE (.int 0))) (cE (.str "no"))) (zX (XI (zc 2 c_is_kept (z9 (zg ixT (vE 0) (cE (.int 1))) (z9 (vE 1) (zj)))))) (nxS))
  (zI (ifS (zK eqC (zg ixT (vE 0) (cE (.int 0))) (cE (.str "all"))) (zX (Wv (zc 2 c_is_kept (z9 (zg ixT (vE 0) (cE (.int 1))) (z9 (vE 1) (zj)))) (zc 2 c_is_kept (z9 (zg ixT (vE 0) (cE (.int 2))) (z9 (vE 1) (zj)))))) (nxS))
  (zI (ifS (zK eqC (zg ixT (vE 0) (cE (.int 0))) (cE (.str "some"))) (zX (orE (zc 2 c_is_kept (z9 (zg ixT (vE 0) (cE (.int 1))) (z9 (vE 1) (zj)))) (zc 2 c_is_kept (z9 (zg ixT (vE 0) (cE (.int 2))) (z9 (vE 1) (zj)))))) (nxS))
  (zX (zc 2 c_is_single_kept (z9 (vE 0) (z9 (vE 1) (zj)))))))
noncomputable def ZX:Nat->Nat->List T->R T
 | 0,_=>fun _=> .bad
 | n+1,_=>fun ts=>zu (WQ (ZX n 0) (ZA) (en0 2 ts))
noncomputable abbrev jR (n:Nat):List T->R T:=ZX n 0
noncomputable def qc (c_is_whole:List T->R T):En->RS:=
  zX (Wv (zc 1 c_is_whole (z9 (vE 0) (zj))) (Wv (zc 1 c_is_whole (z9 (vE 1) (zj))) (ch3E leC leC leC (vB 2) (vB 0) (vB 1) (vB 3))))
noncomputable def WR:List T->R T:=fun ts=>zu (qc (Zj) (en0 4 ts))
noncomputable def WS:En->RS:=
  zX (Wv (ap1 (yS "tuple") (vB 0)) (chE leC leC (vB 1) (ap1 wO (vB 0)) (vB 2)))
noncomputable def zQ:List T->R T:=fun ts=>zu (WS  (en0 3 ts))
noncomputable def wp (c_is_whole:List T->R T) (c_is_tuple_of:List T->R T) (c_is_word:List T->R T):En->RS:=
  zX (Wv (zc 3 c_is_tuple_of (z9 (vE 0) (z9 (cE (.int 2)) (z9 (cE (.int 2)) (zj))))) (Wv (zc 1 c_is_word (z9 (zg ixT (vE 0) (cE (.int 0))) (zj))) (Wv (zc 1 c_is_whole (z9 (zg ixT (vE 0) (cE (.int 1))) (zj))) (chE leC leC (cE (.int 1)) (zg ixT (vE 0) (cE (.int 1))) (cE (.int 20))))))
noncomputable def j9:List T->R T:=fun ts=>zu (wp (Zj) (zQ) (jQ) (en0 1 ts))
noncomputable def Jc (c_is_tuple_of:List T->R T) (c_is_choice:List T->R T):En->RS:=
  zI (ifS (orT (YN (wG (zc 3 c_is_tuple_of (z9 (vE 0) (z9 (cE (.int 1)) (z9 (cE (.int 4)) (zj))))))) (YN (wG (ap1 xb (Z9 (Jh (vE 0)) (zD 0) (ZI) (zc 1 c_is_choice (z9 (vE 0) (zj))) 1 []))))) (zX (cE (.bl false))) (nxS))
  (zI (Zf 1 (Z9 (Jh (vE 0)) (zD 0) (ZI) (zg ixT (vE 0) (cE (.int 0))) 1 []))
  (zX (jZ eqC (ap1 kr (vB 1)) (ap1 wO (vB 1)))))
noncomputable def jr:List T->R T:=fun ts=>zu (Jc (zQ) (j9) (en0 2 ts))
noncomputable def j1 (c_is_span:List T->R T) (c_is_kind_within:List T->R T) (c_are_choices:List T->R T) (c_are_kinds_within:List T->R T):En->RS:=
  zI (ifS (orT (zK eqC (vB 1) (cE (.int 0))) (orT (YN (wG (ap1 (yS "tuple") (vB 0)))) (zK eqC (ap1 wO (vB 0)) (cE (.int 0))))) (zX (cE (.bl false))) (nxS))
  (zI (ifS (zK eqC (zg ixT (vE 0) (cE (.int 0))) (cE (.str "whole"))) (zX (Wv (jZ eqC (ap1 wO (vB 0)) (cE (.int 3))) (zc 4 c_is_span (z9 (zg ixT (vE 0) (cE (.int 1))) (z9 (zg ixT (vE 0) (cE (.int 2))) (z9 (ka (cE (.int 20))) (z9 (cE (.int 20)) (zj)))))))) (nxS))
  (zI (ifS (zK eqC (zg ixT (vE 0) (cE (.int 0))) (cE (.str "pick"))) (zX (Wv (jZ eqC (ap1 wO (vB 0)) (cE (.int 2))) (zc 1 c_are_choices (z9 (zg ixT (vE 0) (cE (.int 1))) (zj))))) (nxS))
  (zI (ifS (zK eqC (zg ixT (vE 0) (cE (.int 0))) (cE (.str "row"))) (zX (Wv (jZ eqC (ap1 wO (vB 0)) (cE (.int 2))) (zc 2 c_are_kinds_within (z9 (zg ixT (vE 0) (cE (.int 1))) (z9 (zg Ub (vE 1) (cE (.int 1))) (zj)))))) (nxS))
  (zI (ifS (zK eqC (zg ixT (vE 0) (cE (.int 0))) (cE (.str "many"))) (zX (Wv (jZ eqC (ap1 wO (vB 0)) (cE (.int 4))) (Wv (zc 4 c_is_span (z9 (zg ixT (vE 0) (cE (.int 2))) (z9 (zg ixT (vE 0) (cE (.int 3))) (z9 (cE (.int 0)) (z9 (cE (.int 3)) (zj)))))) (zc 2 c_is_kind_within (z9 (zg ixT (vE 0) (cE (.int 1))) (z9 (zg Ub (vE 1) (cE (.int 1))) (zj))))))) (nxS))
  (zX (cE (.bl false)))))))
noncomputable def ZK (c_is_tuple_of:List T->R T) (c_is_kind_within:List T->R T):En->RS:=
  zX (Wv (zc 3 c_is_tuple_of (z9 (vE 0) (z9 (cE (.int 1)) (z9 (cE (.int 3)) (zj))))) (ap1 xb (Z9 (Jh (vE 0)) (zD 0) (ZI) (zc 2 c_is_kind_within (z9 (vE 0) (z9 (vE 1) (zj)))) 1 [1])))
noncomputable def zm:Nat->Nat->List T->R T
 | 0,_=>fun _=> .bad
 | n+1,0=>fun ts=>zu (j1 (WR) (zm n 0) (jr) (zm n 1) (en0 2 ts))
 | n+1,_=>fun ts=>zu (ZK (zQ) (zm n 0) (en0 2 ts))
noncomputable abbrev J4 (n:Nat):List T->R T:=zm n 0
noncomputable abbrev WT (n:Nat):List T->R T:=zm n 1
noncomputable def WU (c_is_kind_within:List T->R T):En->RS:=
  zX (zc 2 c_is_kind_within (z9 (vE 0) (z9 (cE (.int 3)) (zj))))
noncomputable def wc:List T->R T:=fun ts=>zu (WU (J4 20) (en0 1 ts))
noncomputable def wq (c_is_kind:List T->R T):En->RS:=
  ifS (YN (wG (zc 1 c_is_kind (z9 (vE 0) (zj))))) (YV 0) (nxS)
noncomputable def jE:List T->R T:=fun ts=>zu (wq (wc) (en0 1 ts))
noncomputable def Wh (c_count_of_parts:List T->R T) (c_count_shorter:List T->R T):En->RS:=
  zI (ifS (zK eqC (zg ixT (vE 0) (cE (.int 0))) (cE (.str "whole"))) (zX (zg zL (zg Ub (zg ixT (vE 0) (cE (.int 2))) (zg ixT (vE 0) (cE (.int 1)))) (cE (.int 1)))) (nxS))
  (zI (ifS (zK eqC (zg ixT (vE 0) (cE (.int 0))) (cE (.str "pick"))) (zX (ap1 wO (zg ixT (vE 0) (cE (.int 1))))) (nxS))
  (zI (ifS (zK eqC (zg ixT (vE 0) (cE (.int 0))) (cE (.str "row"))) (zX (zc 1 c_count_of_parts (z9 (zg ixT (vE 0) (cE (.int 1))) (zj)))) (nxS))
  (zX (zc 2 c_count_shorter (z9 (vE 0) (z9 (zg zL (zg ixT (vE 0) (cE (.int 3))) (cE (.int 1))) (zj)))))))
noncomputable def zR (c_count_of:List T->R T):En->RS:=
  zI (Zf 1 (cE (.int 1)))
  (zI (Wc (Jh (vE 0)) (zD 2) (Zf 1 (zg ZE (vE 1) (zc 1 c_count_of (z9 (vE 2) (zj))))))
  (zX (vE 1)))
noncomputable def Z7 (c_count_of_parts:List T->R T):En->RS:=
  zX (ap1 G4 (Z9 (uZ (zg ixT (vE 0) (cE (.int 2))) (vE 1)) (zD 0) (ZI) (zc 1 c_count_of_parts (z9 (zg ZE (w8 (z9 (zg ixT (vE 1) (cE (.int 1))) (zj))) (vE 0)) (zj))) 1 [0]))
noncomputable def zz:Nat->Nat->List T->R T
 | 0,_=>fun _=> .bad
 | n+1,0=>fun ts=>zu (Wh (zz n 1) (zz n 2) (en0 1 ts))
 | n+1,1=>fun ts=>zu (zR (zz n 0) (en0 3 ts))
 | n+1,_=>fun ts=>zu (Z7 (zz n 1) (en0 2 ts))
noncomputable abbrev je (n:Nat):List T->R T:=zz n 0
noncomputable abbrev U1 (n:Nat):List T->R T:=zz n 1
noncomputable abbrev Z0 (n:Nat):List T->R T:=zz n 2
noncomputable def jt:En->RS:=
  zX (Z9 (Jh (zg ixT (vE 0) (cE (.int 1)))) (zD 0) (ZI) (zg ixT (vE 0) (cE (.int 0))) 1 [])
noncomputable def ZP:List T->R T:=fun ts=>zu (jt  (en0 1 ts))
noncomputable def Wi (c_words_of_pick:List T->R T) (c_many_at:List T->R T) (c_parts_at:List T->R T):En->RS:=
  zI (ifS (zK eqC (zg ixT (vE 0) (cE (.int 0))) (cE (.str "whole"))) (zX (zg zL (zg ixT (vE 0) (cE (.int 1))) (vE 1))) (nxS))
  (zI (ifS (zK eqC (zg ixT (vE 0) (cE (.int 0))) (cE (.str "pick"))) (zX (zg ixT (zc 1 c_words_of_pick (z9 (vE 0) (zj))) (vE 1))) (nxS))
  (zI (ifS (zK eqC (zg ixT (vE 0) (cE (.int 0))) (cE (.str "row"))) (zX (zc 2 c_parts_at (z9 (zg ixT (vE 0) (cE (.int 1))) (z9 (vE 1) (zj))))) (nxS))
  (zX (zc 2 c_many_at (z9 (vE 0) (z9 (vE 1) (zj)))))))
noncomputable def wd (c_count_shorter:List T->R T) (c_parts_at:List T->R T):En->RS:=
  zI (Zf 2 (zg ixT (vE 0) (cE (.int 2))))
  (zI (wb (zK leC (zc 2 c_count_shorter (z9 (vE 0) (z9 (zg zL (vE 2) (cE (.int 1))) (zj)))) (vB 1)) (Zf 2 (zg zL (vE 2) (cE (.int 1)))) 8)
  (zX (zc 2 c_parts_at (z9 (zg ZE (w8 (z9 (zg ixT (vE 0) (cE (.int 1))) (zj))) (vE 2)) (z9 (zg Ub (vE 1) (zc 2 c_count_shorter (z9 (vE 0) (z9 (vE 2) (zj))))) (zj))))))
noncomputable def jF (c_count_of:List T->R T) (c_worth_at:List T->R T):En->RS:=
  zI (Vs 2 (zj))
  (zI (Zf 3 (vE 1))
  (zI (Wc (z2g (vE 0)) (zD 4) (zI (Zf 5 (zc 1 c_count_of (z9 (vE 4) (zj))))
  (zI (kj 2 (zc 2 c_worth_at (z9 (vE 4) (z9 (zg Wo (vE 3) (vE 5)) (zj)))))
  (Zf 3 (zg Us (vE 3) (vE 5))))))
  (zX (ap1 kD (vE 2)))))
noncomputable def zA:Nat->Nat->List T->R T
 | 0,_=>fun _=> .bad
 | n+1,0=>fun ts=>zu (Wi (ZP) (zA n 1) (zA n 2) (en0 2 ts))
 | n+1,1=>fun ts=>zu (wd (Z0 20) (zA n 2) (en0 3 ts))
 | n+1,_=>fun ts=>zu (jF (je 20) (zA n 0) (en0 6 ts))
noncomputable abbrev Jj (n:Nat):List T->R T:=zA n 0
noncomputable abbrev xD (n:Nat):List T->R T:=zA n 1
noncomputable abbrev vP (n:Nat):List T->R T:=zA n 2
noncomputable def JM (c_need_kind:List T->R T) (c_count_of:List T->R T) (c_worth_at:List T->R T):En->RS:=
  zI (Uv (zc 1 c_need_kind (z9 (vE 0) (zj))))
  (zI (Zf 1 (zc 1 c_count_of (z9 (vE 0) (zj))))
  (zI (ifS (zK gtC (vB 1) (cE (.int 500))) (YV 3) (nxS))
  (z1u (Jz (vE 1)) (zD 0) (ZI) (zc 2 c_worth_at (z9 (vE 1) (z9 (vE 0) (zj)))) 1 [0])))
noncomputable def JN:List T->R T:=fun ts=>zu (JM (jE) (je 20) (Jj 20) (en0 2 ts))
noncomputable def WV (c_all_worths:List T->R T) (c_need_rule:List T->R T) (c_is_kept:List T->R T):En->RS:=
  zI (Uv (zc 1 c_need_rule (z9 (vE 1) (zj))))
  (zX (Z9 (Jh (zc 1 c_all_worths (z9 (vE 0) (zj)))) (zD 0) (wG (zc 2 c_is_kept (z9 (vE 1) (z9 (vE 0) (zj))))) (vE 0) 1 [1]))
noncomputable def we:List T->R T:=fun ts=>zu (WV (JN) (j6) (jR 8) (en0 2 ts))
noncomputable def WW (c_is_kept:List T->R T) (c_keepers:List T->R T) (c_need_rules:List T->R T):En->RS:=
  zI (Uv (zc 1 c_need_rules (z9 (jo (z9 (vE 1) (z9 (vE 2) (zj)))) (zj))))
  (zX (ap1 xb (Z9 (Jh (zc 2 c_keepers (z9 (vE 0) (z9 (vE 1) (zj))))) (zD 0) (ZI) (zc 2 c_is_kept (z9 (vE 1) (z9 (vE 0) (zj)))) 1 [2])))
noncomputable def Zd:List T->R T:=fun ts=>zu (WW (jR 8) (we) (Zn) (en0 3 ts))
noncomputable def Wj (c_keepers:List T->R T) (c_need_rules:List T->R T):En->RS:=
  zI (Uv (zc 1 c_need_rules (z9 (jo (z9 (vE 1) (z9 (vE 2) (zj)))) (zj))))
  (zX (jZ eqC (zc 2 c_keepers (z9 (vE 0) (z9 (vE 1) (zj)))) (zc 2 c_keepers (z9 (vE 0) (z9 (vE 2) (zj))))))
noncomputable def jf:List T->R T:=fun ts=>zu (Wj (we) (Zn) (en0 3 ts))
noncomputable def Jd (c__law_leaves:List T->R T):En->RS:=
  zI (ifS (YN (wG (ap1 (yS "tuple") (vB 0)))) (zX (w8 (z9 (vE 0) (zj)))) (nxS))
  (zI (Zf 1 (w8 (zj)))
  (zI (Wc (Jh (vE 0)) (zD 2) (Zf 1 (zg zL (vE 1) (zc 1 c__law_leaves (z9 (vE 2) (zj))))))
  (zX (vE 1))))
noncomputable def Zu:Nat->Nat->List T->R T
 | 0,_=>fun _=> .bad
 | n+1,_=>fun ts=>zu (Jd (Zu n 0) (en0 3 ts))
noncomputable abbrev ju (n:Nat):List T->R T:=Zu n 0
noncomputable def JO (c__law_leaves:List T->R T) (c__law_keeps:List T->R T):En->RS:=
  zI (Zf 2 (Z9 (Jh (zc 1 c__law_leaves (z9 (vE 1) (zj)))) (zD 0) (wG (ap1 (yS "int") (vB 0))) (vE 0) 1 []))
  (zI (Zf 3 (ifE (wG (ap1 (yS "tuple") (vB 1))) (vE 1) (jo (z9 (vE 1) (zj)))))
  (zI (ifS (zK eqC (zg ixT (vE 0) (cE (.int 0))) (cE (.str "sum"))) (zI (Zf 4 (cE (.int 0)))
  (zI (Wc (Jh (vE 2)) (zD 5) (Zf 4 (zg zL (vE 4) (vE 5))))
  (zX (Wv (jZ leC (zg ixT (vE 0) (cE (.int 1))) (vB 4)) (jZ leC (vB 4) (zg ixT (vE 0) (cE (.int 2)))))))) (nxS))
  (zI (ifS (zK eqC (zg ixT (vE 0) (cE (.int 0))) (cE (.str "size"))) (zX (Wv (jZ geC (ap1 wO (vB 3)) (zg ixT (vE 0) (cE (.int 1)))) (jZ leC (ap1 wO (vB 3)) (zg ixT (vE 0) (cE (.int 2)))))) (nxS))
  (zI (ifS (zK eqC (zg ixT (vE 0) (cE (.int 0))) (cE (.str "word"))) (zX (jZ neC (Z9 (Jh (zc 1 c__law_leaves (z9 (vE 1) (zj)))) (zD 0) (zK eqC (vB 0) (zg ixT (vE 1) (cE (.int 1)))) (vE 0) 1 [0]) (w8 (zj)))) (nxS))
  (zI (ifS (zK eqC (zg ixT (vE 0) (cE (.int 0))) (cE (.str "rising"))) (zX (jZ eqC (vB 2) (ap1 kE (vB 2)))) (nxS))
  (zI (ifS (zK eqC (zg ixT (vE 0) (cE (.int 0))) (cE (.str "unlike"))) (zX (jZ eqC (Z9 (Jz (ap1 wO (vB 3))) (zD 0) (zK inC (zg ixT (vE 1) (vE 0)) (slE (vE 1) (noO) (ug (vE 0)))) (vE 0) 1 [3]) (w8 (zj)))) (nxS))
  (zI (ifS (zK eqC (zg ixT (vE 0) (cE (.int 0))) (cE (.str "no"))) (zX (XI (zc 2 c__law_keeps (z9 (zg ixT (vE 0) (cE (.int 1))) (z9 (vE 1) (zj)))))) (nxS))
  (zI (Zf 6 (Z9 (Jh (slE (vE 0) (ug (cE (.int 1))) (noO))) (zD 0) (ZI) (zc 2 c__law_keeps (z9 (vE 0) (z9 (vE 1) (zj)))) 1 [1]))
  (zX (ifE (zK eqC (zg ixT (vE 0) (cE (.int 0))) (cE (.str "all"))) (Wv (zg ixT (vE 6) (cE (.int 0))) (zg ixT (vE 6) (cE (.int 1)))) (orE (zg ixT (vE 6) (cE (.int 0))) (zg ixT (vE 6) (cE (.int 1))))))))))))))
noncomputable def zx:Nat->Nat->List T->R T
 | 0,_=>fun _=> .bad
 | n+1,_=>fun ts=>zu (JO (ju 8) (zx n 0) (en0 7 ts))
noncomputable abbrev Zo (n:Nat):List T->R T:=zx n 0
noncomputable def kI (c__law_pick:List T->R T) (c__law_all:List T->R T) (c__law_small:List T->R T) (c__law_rule:List T->R T) (c__law_keeps:List T->R T) (c_implies:List T->R T) (c_alike_on:List T->R T):En->RS:=
  zI (Zf 1 (zc 3 c__law_small (z9 (vE 0) (z9 (cE (.int 0)) (z9 (cE (.int 60)) (zj))))))
  (zI (Zf 2 (zg zL (cE (.int 1)) (zc 3 c__law_pick (z9 (vE 0) (z9 (cE (.int 2999)) (z9 (cE (.int 2)) (zj)))))))
  (zI (z1v (jo (z9 (zc 3 c__law_rule (z9 (vE 0) (z9 (cE (.int 3000)) (z9 (vE 2) (zj))))) (z9 (zc 3 c__law_rule (z9 (vE 0) (z9 (cE (.int 3200)) (z9 (vE 2) (zj))))) (zj)))) (jq 3 4))
  (zI (Zf 5 (zc 1 c__law_all (z9 (vE 1) (zj))))
  (zI (Zf 6 (Z9 (Jh (vE 5)) (zD 0) (wG (zc 2 c__law_keeps (z9 (vE 1) (z9 (vE 0) (zj))))) (vE 0) 1 [3]))
  (zI (Zf 7 (Z9 (Jh (vE 5)) (zD 0) (wG (zc 2 c__law_keeps (z9 (vE 1) (z9 (vE 0) (zj))))) (vE 0) 1 [4]))
  (zI (ifS (zK neC (zc 3 c_implies (z9 (vE 1) (z9 (vE 3) (z9 (vE 4) (zj))))) (jZ eqC (Z9 (Jh (vE 6)) (zD 0) (zK QN (vB 0) (vB 1)) (vE 0) 1 [7]) (w8 (zj)))) (zX (cE (.bl false))) (nxS))
  (zI (ifS (orT (zK neC (zc 3 c_alike_on (z9 (vE 1) (z9 (vE 3) (z9 (vE 4) (zj))))) (jZ eqC (vB 6) (vB 7))) (zK neC (zc 3 c_alike_on (z9 (vE 1) (z9 (vE 4) (z9 (vE 3) (zj))))) (jZ eqC (vB 6) (vB 7)))) (zX (cE (.bl false))) (nxS))
  (zI (Ga 8 9 10 (z9 (jo (z9 (cE (.str "some")) (z9 (vE 3) (z9 (vE 4) (zj))))) (z9 (jo (z9 (cE (.str "all")) (z9 (vE 3) (z9 (vE 4) (zj))))) (z9 (jo (z9 (cE (.str "no")) (z9 (vE 3) (zj)))) (zj)))))
  (zI (ifS (zK neC (w8 (z9 (zc 3 c_implies (z9 (vE 1) (z9 (vE 3) (z9 (vE 8) (zj))))) (z9 (zc 3 c_implies (z9 (vE 1) (z9 (vE 9) (z9 (vE 4) (zj))))) (z9 (zc 3 c_implies (z9 (vE 1) (z9 (vE 3) (z9 (vE 3) (zj))))) (zj))))) (zg ZE (w8 (z9 (cE (.bl true)) (zj))) (cE (.int 3)))) (zX (cE (.bl false))) (nxS))
  (zI (ifS (orT (gB (zK eqC (vB 2) (cE (.int 1))) (zK YM (zc 3 c_alike_on (z9 (vE 1) (z9 (jo (z9 (cE (.str "no")) (z9 (vE 10) (zj)))) (z9 (vE 3) (zj))))) (cE (.bl true)))) (zK neC (zc 3 c_implies (z9 (vE 1) (z9 (vE 3) (z9 (vE 10) (zj))))) (jZ eqC (vB 6) (w8 (zj))))) (zX (cE (.bl false))) (nxS))
  (zI (ifS (zK neC (zc 3 c_implies (z9 (vE 1) (z9 (jo (z9 (cE (.str "no")) (z9 (vE 4) (zj)))) (z9 (vE 10) (zj))))) (zc 3 c_implies (z9 (vE 1) (z9 (vE 3) (z9 (vE 4) (zj)))))) (zX (cE (.bl false))) (nxS))
  (zI (ifS (zK neC (zc 3 c_implies (z9 (vE 1) (z9 (vE 8) (z9 (vE 3) (zj))))) (zc 3 c_implies (z9 (vE 1) (z9 (vE 4) (z9 (vE 3) (zj)))))) (zX (cE (.bl false))) (nxS))
  (zX (jZ eqC (zc 3 c_alike_on (z9 (vE 1) (z9 (vE 9) (z9 (vE 3) (zj))))) (zc 3 c_implies (z9 (vE 1) (z9 (vE 3) (z9 (vE 4) (zj)))))))))))))))))))
noncomputable def Y2:List T->R T:=fun ts=>zu (kI (zo) (zJ 8) (jd) (j5 8) (Zo 8) (Zd) (jf) (en0 11 ts))
end G
namespace G
open PySem L2 PV
noncomputable abbrev scr (ns:List Int):T:= .fz (ns.map T.int)
theorem Gd (ns:List Int) (k:Int) (h0:0<=k):∃ c,Jr [scr ns, .int k]= .ok (.int c):=by
 have e1:Jr [scr ns, .int k]=zu (if decide (k < ((ns.map T.int).length:Int))=true then (atT (ns.map T.int) k).s (fun t=> .rt t) else
   match (eqC (scr ns) (.lst [])).s (fun b=>if b=true then RS.rt (.int 0) else .nx [.vl (scr ns), .vl (.int k)]) with
   | .nx ρ' =>zX (zg zL (zg ZE (zg ixT (vE 0) (zg Wo (vE 1) (ap1 wO (vB 0)))) (cE (.int 31))) (vE 1)) ρ'
   | r=>r):=by
  show zu (match (if decide (k < ((ns.map T.int).length:Int))=true then (atT (ns.map T.int) k).s (fun t=>RS.rt t) else .nx [.vl (scr ns), .vl (.int k)]) with
   | .nx ρ' =>_
   | r=>r)=_
  cases decide (k < ((ns.map T.int).length:Int)) with
  | true=>
   rw [if_pos rfl,if_pos rfl]
   unfold atT
   cases atI (ns.map T.int) k <;> rfl
  | false=>rfl
 rw [e1,List.length_map]
 by_cases hk:k < (ns.length:Int)
 ·obtain ⟨v,hv⟩:∃ v,ns[k.toNat]? =some v:=⟨ns[k.toNat]'(by omega),List.getElem?_eq_getElem (by omega)⟩
  have ea:atI (ns.map T.int) k=some (.int v):=by
   have:k=((k.toNat:Nat):Int):=by omega
   rw [this]
   exact wJ (by rw [List.getElem?_map,hv]; rfl)
  rw [decide_eq_true hk,if_pos rfl]
  exact ⟨v,by unfold atT; rw [ea]; rfl⟩
 ·rw [decide_eq_false hk,if_neg Bool.false_ne_true]
  cases ns with
  | nil=>exact ⟨0,rfl⟩
  | cons x xs=>
   have hm0:=Int.emod_nonneg k (show (((x :: xs).length:Nat):Int) ≠ 0 by simp only [List.length_cons]; omega)
   have hm1:=Int.emod_lt_of_pos k (show (0:Int) < (((x :: xs).length:Nat):Int) by simp only [List.length_cons]; omega)
   obtain ⟨v,hv⟩:∃ v,(x :: xs)[(k % (((x :: xs).length:Nat):Int)).toNat]? =some v:=⟨_,List.getElem?_eq_getElem (by omega)⟩
   have ea:atI ((x :: xs).map T.int) (k % (((x :: xs).length:Nat):Int))=some (.int v):=by
    have e:k % (((x :: xs).length:Nat):Int)=(((k % (((x :: xs).length:Nat):Int)).toNat:Nat):Int):=by omega
    rw [e]
    exact wJ (by rw [List.getElem?_map,hv]; rfl)
   have cm:Ys v 31:= .inr ⟨by decide,by decide⟩
   have hp:(0:Int) < (((x :: xs).map T.int).length:Int):=by simp only [List.length_map,List.length_cons]; omega
   refine ⟨v*31+k, ?_⟩
   show zu (((((if 0 < (((x :: xs).map T.int).length:Int) then R.ok (T.int (k % (((x :: xs).map T.int).length:Int))) else .bad).bind fun y=>ixT (scr (x :: xs)) y).bind fun a=>ZE a (.int 31)).bind fun a=>zL a (.int k)).s fun t=> .rt t)=_
   rw [if_pos hp]
   show zu ((((atT ((x :: xs).map T.int) (k % (((x :: xs).map T.int).length:Int))).bind fun a=>ZE a (.int 31)).bind fun a=>zL a (.int k)).s fun t=> .rt t)=_
   rw [List.length_map]
   unfold atT
   rw [ea]
   show zu ((((if Ys v 31 then R.ok (T.int (v*31)) else .bad)).bind fun a=>zL a (.int k)).s fun t=> .rt t)=_
   rw [if_pos cm]
   rfl
theorem Za (ns:List Int) (k m:Int) (h0:0<=k) (hm:0 < m):∃ p,zo [scr ns, .int k, .int m]= .ok (.int p)/\0<=p/\p < m:=by
 obtain ⟨c,hc⟩:=Gd ns k h0
 have cm1:Ys 6151 (k+1):= .inl ⟨by decide,by decide⟩
 have cm2:Ys (c+6151*(k+1)) 40692:= .inr ⟨by decide,by decide⟩
 generalize hd:(c+6151*(k+1))*40692 % 2147483399=d
 have hd0:0<=d:=by rw [← hd]; exact Int.emod_nonneg _ (by decide)
 have hd1:d < 2147483399:=by rw [← hd]; exact Int.emod_lt_of_pos _ (by decide)
 have cm3:Ys d d:= .inl ⟨by omega,by omega⟩
 refine ⟨(d*d+d / 31) % 2147483629 % m, ?_,Int.emod_nonneg _ (by omega),Int.emod_lt_of_pos _ hm⟩
 have e1:zo [scr ns, .int k, .int m]=zu (match ((((((Jr [scr ns, .int k]).bind fun x=>(ZE (.int 6151) (.int (k+1))).bind fun y=>zL x y).bind fun x=>ZE x (.int 40692)).bind fun x=>Wo x (.int 2147483399))).s fun t=>RS.nx [.vl (scr ns), .vl (.int k), .vl (.int m), .vl t]) with
   | .nx ρ' =>zX (zg Wo (zg Wo (zg zL (zg ZE (vE 3) (vE 3)) (zg Us (vE 3) (cE (.int 31)))) (cE (.int 2147483629))) (vE 2)) ρ'
   | r=>r):=rfl
 rw [e1,hc]
 show zu (match (((((if Ys 6151 (k+1) then R.ok (T.int (6151*(k+1))) else .bad).bind fun y=>zL (.int c) y).bind fun x=>ZE x (.int 40692)).bind fun x=>Wo x (.int 2147483399)).s fun t=>RS.nx [.vl (scr ns), .vl (.int k), .vl (.int m), .vl t]) with
   | .nx ρ' =>_
   | r=>r)=_
 rw [if_pos cm1]
 show zu (match ((((if Ys (c+6151*(k+1)) 40692 then R.ok (T.int ((c+6151*(k+1))*40692)) else .bad)).bind fun x=>Wo x (.int 2147483399)).s fun t=>RS.nx [.vl (scr ns), .vl (.int k), .vl (.int m), .vl t]) with
   | .nx ρ' =>_
   | r=>r)=_
 rw [if_pos cm2]
 show zu (zX (zg Wo (zg Wo (zg zL (zg ZE (vE 3) (vE 3)) (zg Us (vE 3) (cE (.int 31)))) (cE (.int 2147483629))) (vE 2)) [.vl (scr ns), .vl (.int k), .vl (.int m), .vl (.int ((c+6151*(k+1))*40692 % 2147483399))])=_
 rw [hd]
 show zu (((((if Ys d d then R.ok (T.int (d*d)) else .bad).bind fun x=>zL x (.int (d / 31))).bind fun x=>Wo x (.int 2147483629)).bind fun x=>Wo x (.int m)).s fun t=>RS.rt t)=_
 rw [if_pos cm3]
 show zu ((if 0 < m then R.ok (T.int ((d*d+d / 31) % 2147483629 % m)) else .bad).s fun t=>RS.rt t)=_
 rw [if_pos hm]
 rfl
end G
namespace G
open PySem L2 PV
theorem xE {ft:En->R Bool} {fe:En->R T}:∀ (ts:List T) (ρ:En) (x:Sl),Z5 (zD 0) ft fe ts (ρ.set 0 x)=Z5 (zD 0) ft fe ts ρ
 | [],_,_=>rfl
 | t :: ts,ρ,x=>by
  unfold Z5 zD
  rw [List.set_set]
theorem wR {ft:En->R Bool} {fe:En->R T} {p:T->Bool} {h:T->T}:∀ (ts:List T) (ρ:En),(∀ t∈ts,ft (ρ.set 0 (.vl t))= .ok (p t)/\(p t=true->fe (ρ.set 0 (.vl t))= .ok (h t)))->Z5 (zD 0) ft fe ts ρ= .ok ((ts.filter p).map h)
 | [],_,_=>rfl
 | t :: ts,ρ,H=>by
  obtain ⟨h1,h2⟩:=H t List.mem_cons_self
  have ih:=wR ts ρ fun u hu=>H u (List.mem_cons_of_mem _ hu)
  have e:Z5 (zD 0) ft fe (t :: ts) ρ=(ft (ρ.set 0 (.vl t))).bind fun k=>if k=true then (fe (ρ.set 0 (.vl t))).bind fun v=>(Z5 (zD 0) ft fe ts (ρ.set 0 (.vl t))).bind fun vs=> .ok (v :: vs) else Z5 (zD 0) ft fe ts (ρ.set 0 (.vl t)):=rfl
  rw [e,h1,xE,ih]
  show (if p t=true then _ else _)=_
  cases hp:p t with
  | true=>rw [if_pos rfl,h2 hp,List.filter_cons_of_pos hp]; rfl
  | false=>rw [if_neg Bool.false_ne_true,List.filter_cons_of_neg (by rw [hp]; exact Bool.false_ne_true)]
theorem xF {fe:En->R T} {h:T->T} (ts:List T) (ρ:En) (H:∀ t∈ts,fe (ρ.set 0 (.vl t))= .ok (h t)):Z5 (zD 0) ZI fe ts ρ= .ok (ts.map h):=by
 have:=wR (ft:=ZI) (fe:=fe) (p:=fun _=>true) (h:=h) ts ρ fun t ht=>⟨rfl,fun _=>H t ht⟩
 rw [this,List.filter_eq_self.mpr (fun _ _=>rfl)]
theorem ZQ {fe:En->R T} {h:T->T} {k:Nat} {js:List Nat} {ρ:En} (ts:List T) (hl:ts.length<=bnd) (H:∀ t∈ts,fe ((qV k js ρ).set 0 (.vl t))= .ok (h t)):zG (zD 0) ZI fe k js ρ ts= .ok (ts.map h):=by
 unfold zG
 rw [if_pos hl,xF ts _ H]
 rfl
theorem WX (p:T->Bool):∀ ts:List T,YQ (ts.map fun t=>T.bl (p t))=some (ts.all p)
 | []=>rfl
 | t :: ts=>by
  show (match YQ (ts.map fun t=>T.bl (p t)) with | some j=>some (p t && j) | none=>none)=_
  rw [WX p ts]; rfl
noncomputable def isW:T->Bool
 | .int _=>true
 | _=>false
theorem Y3 (t:T):Zj [t]= .ok (.bl (isW t)):=by cases t <;> rfl
noncomputable def vQ (a b:Nat):T->Bool
 | .tup xs=>decide (a<=xs.length) && decide (xs.length<=b)
 | _=>false
theorem Wx (t:T) (a b:Nat):zQ [t, .int a, .int b]= .ok (.bl (vQ a b t)):=by
 cases t with
 | tup xs=>
  show zu ((if decide ((a:Int)<=(xs.length:Int))=true then R.ok (T.bl (decide ((xs.length:Int)<=(b:Int)))) else .ok (.bl false)).s fun t=> .rt t)=_
  have e1:decide ((a:Int)<=(xs.length:Int))=decide (a<=xs.length):=by simp
  have e2:decide ((xs.length:Int)<=(b:Int))=decide (xs.length<=b):=by simp
  rw [e1,e2]
  show _=R.ok (T.bl (decide (a<=xs.length) && decide (xs.length<=b)))
  cases decide (a<=xs.length) <;> rfl
 | _=>rfl
noncomputable def uJ (lo hi:Int):T->T->Bool
 | .int i, .int j=>decide (lo<=i) && decide (i<=j) && decide (j<=hi)
 | _,_=>false
theorem xG (t u:T) (lo hi:Int):WR [t,u, .int lo, .int hi]= .ok (.bl (uJ lo hi t u)):=by
 cases t with
 | int i=>
  cases u with
  | int j=>
   show zu ((if decide (lo<=i)=true then (if decide (i<=j)=true then R.ok (T.bl (decide (j<=hi))) else .ok (.bl false)) else .ok (.bl false)).s fun t=> .rt t)=_
   show _=R.ok (T.bl (decide (lo<=i) && decide (i<=j) && decide (j<=hi)))
   cases decide (lo<=i) <;> cases decide (i<=j) <;> rfl
  | _=>rfl
 | _=>cases u <;> rfl
noncomputable def jg (c:Nat):Bool:=decide (97<=c) && decide (c<=122)
noncomputable def jv:T->Bool
 | .str x=>decide (1<=x.length) && decide (x.length<=3) && x.cps.toList.all jg
 | _=>false
theorem Kq (a b:Nat):decide ([a] < [b])=decide (a < b):=by
 by_cases h:a < b
 ·rw [decide_eq_true h]; exact decide_eq_true (List.Lex.rel h)
 ·rw [decide_eq_false h]
  refine decide_eq_false fun z=> ?_
  cases z with
  | rel h' =>exact h h'
  | cons h' =>cases h'
theorem Ge (c:Nat) (ρ:En):chE leC leC (cE (.str "a")) (vB 0) (cE (.str "z")) ((Sl.vl (.str ⟨#[c]⟩)) :: ρ)= .ok (.bl (jg c)):=by
 have e1:leC (.str "a") (.str ⟨#[c]⟩)= .ok (decide (97<=c)):=by
  show R.ok (!decide ([c] < [97]))=_
  rw [Kq]
  by_cases h:c < 97
  ·rw [decide_eq_true h,decide_eq_false (by omega)]; rfl
  ·rw [decide_eq_false h,decide_eq_true (by omega)]; rfl
 have e2:leC (.str ⟨#[c]⟩) (.str "z")= .ok (decide (c<=122)):=by
  show R.ok (!decide ([122] < [c]))=_
  rw [Kq]
  by_cases h:122 < c
  ·rw [decide_eq_true h,decide_eq_false (by omega)]; rfl
  ·rw [decide_eq_false h,decide_eq_true (by omega)]; rfl
 show (leC (.str "a") (.str ⟨#[c]⟩)).bind (fun k=>if k=true then (leC (.str ⟨#[c]⟩) (.str "z")).bind fun k' =>R.ok (T.bl k') else R.ok (T.bl false))=_
 rw [e1,e2]
 unfold jg
 show (if decide (97<=c)=true then R.ok (T.bl (decide (c<=122))) else .ok (.bl false))=_
 cases decide (97<=c) <;> rfl
noncomputable def Gf:T->Prop
 | .str x=>x.length<=bnd
 | _=>True
theorem xH (t:T) (ht:Gf t):jQ [t]= .ok (.bl (jv t)):=by
 cases t with
 | str x=>
  have hx:x.length<=bnd:=ht
  have e0:wO (.str x)= .ok (.int x.length):=if_pos hx
  have ec:zG (zD 0) ZI (chE leC leC (cE (.str "a")) (vB 0) (cE (.str "z"))) 1 [] [.vl (.str x)] (Ww x)= .ok (x.cps.toList.map fun c=>T.bl (jg c)):=by
   have hs:(Ww x).length<=bnd:=by unfold Ww; rw [List.length_map,Array.length_toList]; exact hx
   have:=ZQ (fe:=chE leC leC (cE (.str "a")) (vB 0) (cE (.str "z"))) (h:=fun t=>match t with | .str y=>T.bl (jg (y.cps.toList.headD 0)) | t=>t) (k:=1) (js:=[]) (ρ:=[.vl (.str x)]) (Ww x) hs fun t ht=>by
    unfold Ww at ht
    obtain ⟨c,_,rfl⟩:=List.mem_map.mp ht
    exact Ge c []
   rw [this]
   unfold Ww
   rw [List.map_map]
   rfl
  have ea:YQ (x.cps.toList.map fun c=>T.bl (jg c))=some (x.cps.toList.all jg):=by
   have:=WX (fun t=>match t with | .str y=>jg (y.cps.toList.headD 0) | _=>true) (Ww x)
   unfold Ww at this
   rw [List.map_map,List.all_map] at this
   exact this
  have e1:jQ [.str x]=zu (match ((((wO (.str x)).bind fun y=>(leC (.int 1) y).bind fun k=>if k=true then leC y (.int 3) else .ok false).bind fun b=> .ok (!b)).s fun k=>if k=true then RS.rt (.bl false) else .nx [.vl (.str x)]) with
    | .nx ρ' =>zX (ap1 xb (Z9 (Jh (vE 0)) (zD 0) (ZI) (chE leC leC (cE (.str "a")) (vB 0) (cE (.str "z"))) 1 [])) ρ'
    | r=>r):=rfl
  rw [e1,e0]
  have c1:decide ((1:Int)<=(x.length:Int))=decide (1<=x.length):=by
   by_cases h:1<=x.length
   ·rw [decide_eq_true h]; exact decide_eq_true (by omega)
   ·rw [decide_eq_false h]; exact decide_eq_false (by omega)
  have c2:decide ((x.length:Int)<=(3:Int))=decide (x.length<=3):=by
   by_cases h:x.length<=3
   ·rw [decide_eq_true h]; exact decide_eq_true (by omega)
   ·rw [decide_eq_false h]; exact decide_eq_false (by omega)
  show zu (match ((((if decide ((1:Int)<=(x.length:Int))=true then R.ok (decide ((x.length:Int)<=(3:Int))) else .ok false)).bind fun b=> .ok (!b)).s fun k=>if k=true then RS.rt (.bl false) else .nx [.vl (.str x)]) with
    | .nx ρ' =>_
    | r=>r)=_
  rw [c1,c2]
  show _=R.ok (T.bl (decide (1<=x.length) && decide (x.length<=3) && x.cps.toList.all jg))
  cases decide (1<=x.length) with
  | false=>rfl
  | true=>
   cases decide (x.length<=3) with
   | false=>rfl
   | true=>
    show zu ((((zG (zD 0) ZI (chE leC leC (cE (.str "a")) (vB 0) (cE (.str "z"))) 1 [] [.vl (.str x)] (Ww x)).bind fun vs=> .ok (.lst vs)).bind xb).s fun t=> .rt t)=_
    rw [ec]
    show zu ((match YQ (x.cps.toList.map fun c=>T.bl (jg c)) with | some k=>R.ok (T.bl k) | none=> .bad).s fun t=> .rt t)=_
    rw [ea]
    rfl
 | _=>rfl
end G
namespace G
open PySem L2 PV
theorem bOk {α β:Type} (a:α) (f:α->R β):(R.ok a).bind f=f a:=rfl
theorem Ja {α:Type} (a:α) (f:α->RS):(R.ok a).s f=f a:=rfl
theorem uK (r:R T):zu (r.s fun t=> .rt t)=r:=by cases r <;> rfl
theorem jD (f:En->R T) (ρ:En):zX f ρ=(f (frz ρ)).s fun t=> .rt t:=rfl
theorem Z8 {g:List T->R T} {f:En->R T} {ρ:En}:zc 1 g (z9 f zj) ρ=(f ρ).bind fun x=>g [x]:=by
 unfold zc z9 zj
 cases f ρ <;> rfl
theorem ZJ {g:List T->R T} {f f' :En->R T} {ρ:En}:zc 2 g (z9 f (z9 f' zj)) ρ=(f ρ).bind fun x=>(f' ρ).bind fun y=>g [x,y]:=by
 unfold zc z9 zj
 cases f ρ with
 | ok a=>cases f' ρ <;> rfl
 | ex c=>rfl
 | bad=>rfl
theorem jw {g:List T->R T} {f f' f'' :En->R T} {ρ:En}:zc 3 g (z9 f (z9 f' (z9 f'' zj))) ρ=(f ρ).bind fun x=>(f' ρ).bind fun y=>(f'' ρ).bind fun z=>g [x,y,z]:=by
 unfold zc z9 zj
 cases f ρ with
 | ok a=>
  cases f' ρ with
  | ok b=>cases f'' ρ <;> rfl
  | ex c=>rfl
  | bad=>rfl
 | ex c=>rfl
 | bad=>rfl
theorem z2m {g:List T->R T} {f f' f'' f3:En->R T} {ρ:En}:zc 4 g (z9 f (z9 f' (z9 f'' (z9 f3 zj)))) ρ=(f ρ).bind fun x=>(f' ρ).bind fun y=>(f'' ρ).bind fun z=>(f3 ρ).bind fun w=>g [x,y,z,w]:=by
 unfold zc z9 zj
 cases f ρ with
 | ok a=>
  cases f' ρ with
  | ok b=>
   cases f'' ρ with
   | ok c=>cases f3 ρ <;> rfl
   | ex c=>rfl
   | bad=>rfl
  | ex c=>rfl
  | bad=>rfl
 | ex c=>rfl
 | bad=>rfl
noncomputable def z1w (r k:R T):R T:=r.bind fun x=>match x with
 | .bl true=>k
 | .bl false=> .ok (.bl false)
 | _=> .bad
theorem yy (f g:En->R T) (ρ:En):Wv f g ρ=z1w (f ρ) (g ρ):=rfl
theorem J6 (a:Bool) (k:R T):z1w (.ok (.bl a)) k=if a=true then k else .ok (.bl false):=by cases a <;> rfl
theorem v0 {t:T} {ρ:En}:vE 0 (.vl t :: ρ)= .ok t:=rfl
theorem v1 {t:T} {a:Sl} {ρ:En}:vE 1 (a :: .vl t :: ρ)= .ok t:=rfl
theorem w0 {t:T} {ρ:En}:vB 0 (.vl t :: ρ)= .ok t:=rfl
theorem w1 {t:T} {a:Sl} {ρ:En}:vB 1 (a :: .vl t :: ρ)= .ok t:=rfl
theorem Zw {t:T} {ρ:En}:cE t ρ= .ok t:=rfl
theorem zy {g:T->T->R T} {f f' :En->R T} {ρ:En}:zg g f f' ρ=(f ρ).bind fun x=>(f' ρ).bind fun y=>g x y:=rfl
theorem wS {t:T} {ρ:En}:frz (.vl t :: ρ)= .vl t :: frz ρ:=rfl
theorem yg {ρ:En}:frz (.un :: ρ)= .un :: frz ρ:=rfl
theorem Wn:frz []=[]:=rfl
theorem kJ {g g' :T->T->R Bool} {fa fb fc:En->R T} {ρ:En}:chE g g' fa fb fc ρ=(fa ρ).bind fun x=>(fb ρ).bind fun y=>(g x y).bind fun k=>if k=true then (fc ρ).bind fun z=>(g' y z).bind fun k' => .ok (.bl k') else .ok (.bl false):=rfl
theorem wt {g:T->R T} {f:En->R T} {ρ:En}:ap1 g f ρ=(f ρ).bind g:=rfl
theorem qd {i j:Int}:leC (.int i) (.int j)= .ok (decide (i<=j)):=rfl
theorem ZV {g:T->T->R Bool} {f f' :En->R T} {ρ:En}:jZ g f f' ρ=(f ρ).bind fun x=>(f' ρ).bind fun y=>(g x y).bind fun b=> .ok (.bl b):=rfl
theorem Qb {xs:List T}:wO (.tup xs)= .ok (.int xs.length):=rfl
theorem z0S {xs:List T}:wO (.lst xs)= .ok (.int xs.length):=rfl
mutual
noncomputable def sOk:T->Prop
 | .str x=>x.length<=bnd
 | .tup xs=>qX xs
 | .lst xs=>qX xs
 | .fz xs=>qX xs
 | _=>True
noncomputable def qX:List T->Prop
 | []=>True
 | t :: ts=>sOk t/\qX ts
end
theorem WY:∀ {ts:List T} {t:T},qX ts->t∈ts->sOk t
 | u :: ts,t,h,hm=>by
  have h' :sOk u/\qX ts:=by simpa only [qX] using h
  rcases List.mem_cons.mp hm with rfl | hm
  ·exact h'.1
  ·exact WY h'.2 hm
theorem sOk.str {t:T} (h:sOk t):Gf t:=by
 cases t with
 | str x=>
  have h' :x.length<=bnd:=by simpa only [sOk] using h
  exact h'
 | _=>trivial
theorem Y4 {xs:List T} (h:sOk (.tup xs)):qX xs:=by simpa only [sOk] using h
noncomputable def Z1:T->Bool
 | .tup [w, .int i]=>jv w && decide (1<=i) && decide (i<=20)
 | _=>false
theorem xI (t:T) (ht:sOk t):j9 [t]= .ok (.bl (Z1 t)):=by
 have e:j9 [t]=zu (wp Zj zQ jQ [.vl t]):=rfl
 rw [e,wp]
 simp only [jD,uK,wS,Wn,yy,jw,Z8,v0,Zw,bOk,zy,kJ]
 rw [show zQ [t, .int 2, .int 2]= .ok (.bl (vQ 2 2 t)) from Wx t 2 2,J6]
 cases t with
 | tup xs=>
  match xs,ht with
  | [],_=>rfl
  | [_],_=>rfl
  | _ :: _ :: _ :: _,_=>simp [vQ,Z1]
  | [w,n],ht=>
   have hw:sOk w:=WY (Y4 ht) (by simp)
   show (if true=true then z1w (jQ [w]) (z1w (Zj [n]) ((leC (.int 1) n).bind fun k=>if k=true then (leC n (.int 20)).bind fun k' =>R.ok (T.bl k') else .ok (.bl false))) else _)=_
   rw [if_pos rfl,xH w hw.str,Y3,J6,J6]
   cases n with
   | int i=>
    show (if jv w=true then (if true=true then (if decide (1<=i)=true then R.ok (T.bl (decide (i<=20))) else .ok (.bl false)) else _) else _)=R.ok (T.bl (jv w && decide (1<=i) && decide (i<=20)))
    cases jv w <;> cases decide (1<=i) <;> rfl
   | _=>
    show (if jv w=true then (if false=true then _ else R.ok (T.bl false)) else R.ok (T.bl false))=R.ok (T.bl false)
    cases jv w <;> rfl
 | _=>rfl
end G
namespace G
open PySem L2 PV
theorem ZL (f g:En->RS) (ρ:En):zI f g ρ=match f ρ with | .nx ρ' =>g ρ' | r=>r:=rfl
theorem wu (g:En->R Bool) (f1 f2:En->RS) (ρ:En):ifS g f1 f2 ρ=(g ρ).s fun k=>if k=true then f1 ρ else f2 ρ:=rfl
theorem xJ (f g:En->R Bool) (ρ:En):orT f g ρ=(f ρ).bind fun x=>if x=true then .ok true else g ρ:=rfl
theorem yz (f:En->R Bool) (ρ:En):YN f ρ=(f ρ).bind fun x=> .ok (!x):=rfl
theorem Wp (f:En->R T) (ρ:En):wG f ρ=(f ρ).bind tru:=rfl
theorem wT (k:Bool):tru (.bl k)= .ok k:=rfl
theorem UE (i:Nat) (f:En->R T) (ρ:En):Zf i f ρ=(f ρ).s fun t=> .nx (ρ.set i (.vl t)):=rfl
theorem Z3 {g:T->T->R Bool} {f f' :En->R T} {ρ:En}:zK g f f' ρ=(f ρ).bind fun x=>(f' ρ).bind fun y=>g x y:=rfl
theorem Z4 {fi:En->R (List T)} {g:T->En->R En} {ft:En->R Bool} {fe:En->R T} {k:Nat} {js:List Nat} {ρ:En}:Z9 fi g ft fe k js ρ=(fi ρ).bind fun ts=>(zG g ft fe k js ρ ts).bind fun vs=> .ok (.lst vs):=rfl
theorem jS {f:En->R T} {ρ:En}:Jh f ρ=(f ρ).bind uG:=rfl
noncomputable def ZU:T->Str
 | .tup (.str w :: _)=>w
 | _=>⟨#[]⟩
noncomputable def v6:T->Bool
 | .tup cs=>decide (1<=cs.length) && decide (cs.length<=4) && cs.all Z1 && decide ((dd [] (cs.map ZU)).length=cs.length)
 | _=>false
theorem qe {c:T} (h:Z1 c=true):∃ w n,c= .tup [.str w,n]:=by
 unfold Z1 at h
 split at h
 ·rename_i w i
  cases w with
  | str x=>exact ⟨x,_,rfl⟩
  | _=>cases h
 ·cases h
theorem yA:∀ {cs:List T},cs.all Z1=true->Vu (cs.map fun c=>T.str (ZU c))=some (cs.map ZU)
 | [],_=>rfl
 | c :: cs,h=>by
  rw [List.all_cons,Bool.and_eq_true] at h
  have ih:=yA h.2
  show (match Vu (cs.map fun c=>T.str (ZU c)) with | some ys=>some (ZU c :: ys) | none=>none)=_
  rw [ih]; rfl
theorem vR (t:T) (ht:sOk t):jr [t]= .ok (.bl (v6 t)):=by
 have e:jr [t]=zu (Jc zQ j9 [.vl t, .un]):=rfl
 rw [e,Jc]
 simp only [ZL,wu,xJ,yz,Wp,jw,v0,Zw,bOk]
 rw [show zQ [t, .int 1, .int 4]= .ok (.bl (vQ 1 4 t)) from Wx t 1 4]
 simp only [bOk,wT]
 cases t with
 | tup cs=>
  have hl:vQ 1 4 (.tup cs)=(decide (1<=cs.length) && decide (cs.length<=4)):=rfl
  rw [hl]
  show _=R.ok (T.bl (decide (1<=cs.length) && decide (cs.length<=4) && cs.all Z1 && decide ((dd [] (cs.map ZU)).length=cs.length)))
  cases h14:(decide (1<=cs.length) && decide (cs.length<=4)) with
  | false=>rfl
  | true=>
   rw [Bool.and_eq_true,decide_eq_true_eq,decide_eq_true_eq] at h14
   have hb:cs.length<=bnd:=Nat.le_trans h14.2 (by decide)
   have ec:zG (zD 0) ZI (zc 1 j9 (z9 (vE 0) zj)) 1 [] [.vl (.tup cs), .un] cs= .ok (cs.map fun c=>T.bl (Z1 c)):=
    ZQ (h:=fun c=>T.bl (Z1 c)) cs hb fun c hc=>by
     show zc 1 j9 (z9 (vE 0) zj) [.vl c]=_
     rw [Z8,v0,bOk]
     exact xI c (WY (Y4 ht) hc)
   simp only [Bool.not_true,Bool.false_eq_true,if_false,wt,Z4,jS,v0,bOk,uG,ec]
   have ea:xb (.lst (cs.map fun c=>T.bl (Z1 c)))= .ok (.bl (cs.all Z1)):=by
    show (match YQ (cs.map fun c=>T.bl (Z1 c)) with | some k=>R.ok (T.bl k) | none=> .bad)=_
    rw [WX]
   rw [ea]
   simp only [bOk,wT,Ja]
   cases hall:cs.all Z1 with
   | false=>rfl
   | true=>
    have ew:zG (zD 0) ZI (zg ixT (vE 0) (cE (.int 0))) 1 [] [.vl (.tup cs), .un] cs= .ok (cs.map fun c=>T.str (ZU c)):=
     ZQ (h:=fun c=>T.str (ZU c)) cs hb fun c hc=>by
      obtain ⟨w,n,rfl⟩:=qe (List.all_eq_true.mp hall c hc)
      rfl
    simp only [Bool.not_true,Bool.false_eq_true,if_false,nxS,UE,Z4,jS,v0,bOk,uG,ew,Ja,jD]
    show zu (((kr (.lst (cs.map fun c=>T.str (ZU c)))).bind fun x=>(wO (.lst (cs.map fun c=>T.str (ZU c)))).bind fun y=>(eqC x y).bind fun b=>R.ok (T.bl b)).s fun t=> .rt t)=_
    have el:kr (.lst (cs.map fun c=>T.str (ZU c)))= .ok (.int (dd [] (cs.map ZU)).length):=by
     show (match Vu (cs.map fun c=>T.str (ZU c)) with | some ys=>if (cs.map fun c=>T.str (ZU c)).length+1 < 4096 then R.ok (T.int (dd [] ys).length) else .bad | none=> .bad)=_
     rw [yA hall]
     exact if_pos (by rw [List.length_map]; omega)
    rw [el,z0S,List.length_map,uK]
    show R.ok (T.bl (((dd [] (cs.map ZU)).length:Int) == (cs.length:Int)))=_
    congr 2
    by_cases hq:(dd [] (cs.map ZU)).length=cs.length
    ·rw [decide_eq_true hq,hq]; simp
    ·rw [decide_eq_false hq]
     simp only [Bool.true_and,beq_eq_false_iff_ne]
     omega
 | _=>rfl
end G
namespace G
open PySem L2 PV
noncomputable def isS (w:Str):T->Bool
 | .str s=>s == w
 | _=>false
theorem eqS (h:T) (w:Str):eqC h (.str w)= .ok (isS w h):=by cases h <;> rfl
theorem eqI (i j:Int):eqC (.int i) (.int j)= .ok (i == j):=rfl
theorem at0 {h:T} {r:List T}:ixT (.tup (h :: r)) (.int 0)= .ok h:=by
 show atT (h :: r) 0=_
 unfold atT
 rw [show atI (h :: r) 0=some h from wJ (j:=0) rfl]
theorem at1 {h a:T} {r:List T}:ixT (.tup (h :: a :: r)) (.int 1)= .ok a:=by
 show atT (h :: a :: r) 1=_
 unfold atT
 rw [show atI (h :: a :: r) 1=some a from wJ (j:=1) rfl]
theorem at2 {h a b:T} {r:List T}:ixT (.tup (h :: a :: b :: r)) (.int 2)= .ok b:=by
 show atT (h :: a :: b :: r) 2=_
 unfold atT
 rw [show atI (h :: a :: b :: r) 2=some b from wJ (j:=2) rfl]
theorem at3 {h a b c:T} {r:List T}:ixT (.tup (h :: a :: b :: c :: r)) (.int 3)= .ok c:=by
 show atT (h :: a :: b :: c :: r) 3=_
 unfold atT
 rw [show atI (h :: a :: b :: c :: r) 3=some c from wJ (j:=3) rfl]
noncomputable def UF (k:T->Bool):T->Bool
 | .tup ks=>decide (1<=ks.length) && decide (ks.length<=3) && ks.all k
 | _=>false
noncomputable def qf:List T->Bool
 | [a,b]=>uJ (-20) 20 a b
 | _=>false
noncomputable def xK:List T->Bool
 | [c]=>v6 c
 | _=>false
noncomputable def z0T (k:T->Bool):List T->Bool
 | [c]=>UF k c
 | _=>false
noncomputable def xL (k:T->Bool):List T->Bool
 | [c,a,b]=>uJ 0 3 a b && k c
 | _=>false
noncomputable def vS (k:T->Bool):T->Bool
 | .tup (h :: r)=>if isS "whole" h=true then qf r else if isS "pick" h=true then xK r else if isS "row" h=true then z0T k r else if isS "many" h=true then xL k r else false
 | _=>false
noncomputable def isK:Nat->T->Bool
 | 0,_=>false
 | d+1,t=>vS (isK d) t
theorem xM {α:Type} (xs:List α) (n:Nat):((xs.length:Int) == (n:Int))=decide (xs.length=n):=by
 by_cases h:xs.length=n
 ·rw [decide_eq_true h,h]; simp
 ·rw [decide_eq_false h,beq_eq_false_iff_ne]; omega
theorem Kr {f:En->R T} {ρ:En}:ka f ρ=(f ρ).bind fun x=>match x with | .int i=> .ok (.int (-i)) | _=> .bad:=rfl
theorem jT {i j:Int}:Ub (.int i) (.int j)= .ok (.int (i - j)):=rfl
set_option maxHeartbeats 1000000 in
theorem Gg {n:Nat} {d:Nat} {k:T->Bool} (H0:∀ t,sOk t->zm n 0 [t, .int d]= .ok (.bl (k t))) (H1:∀ t,sOk t->zm n 1 [t, .int d]= .ok (.bl (UF k t))) (t:T) (ht:sOk t):
  zm (n+1) 0 [t, .int ((d+1:Nat):Int)]= .ok (.bl (vS k t)):=by
 have e:zm (n+1) 0 [t, .int ((d+1:Nat):Int)]=zu (j1 WR (zm n 0) jr (zm n 1) [.vl t, .vl (.int ((d+1:Nat):Int))]):=rfl
 have hL:(((d+1:Nat):Int) == 0)=false:=by rw [beq_eq_false_iff_ne]; omega
 have hL1:((d+1:Nat):Int) - 1=(d:Int):=by omega
 rw [e,j1]
 simp only [ZL,wu,xJ,yz,Wp,Z3,w0,w1,Zw,bOk,eqI,hL,Bool.false_eq_true,if_false,wt]
 cases t with
 | tup xs=>
  cases xs with
  | nil=>rfl
  | cons h r=>
   have hs:=Y4 ht
   have hm:∀ u∈r,sOk u:=fun u hu=>WY hs (List.mem_cons_of_mem _ hu)
   have z0:(((h :: r).length:Int) == 0)=false:=by rw [beq_eq_false_iff_ne]; simp only [List.length_cons]; omega
   have ti:yS "tuple" (.tup (h :: r))= .ok (.bl true):=rfl
   simp only [ti,bOk,wT,Bool.not_true,Bool.false_eq_true,if_false,Qb,eqI,z0,Ja,nxS,zy,v0,v1,Zw,at0,eqS,jD,wS,Wn,yy,ZV,wt,w0,z2m,Z8,ZJ,Kr,jT,hL1]
   show _=R.ok (T.bl (if isS "whole" h=true then qf r else if isS "pick" h=true then xK r else if isS "row" h=true then z0T k r else if isS "many" h=true then xL k r else false))
   have l3:(((h :: r).length:Int) == 3)=decide ((h :: r).length=3):=xM (h :: r) 3
   have l2:(((h :: r).length:Int) == 2)=decide ((h :: r).length=2):=xM (h :: r) 2
   have l4:(((h :: r).length:Int) == 4)=decide ((h :: r).length=4):=xM (h :: r) 4
   simp only [l2,l3,l4,J6]
   cases isS "whole" h with
   | true=>
    simp only [if_true]
    match r,hm with
    | [],_=>rfl
    | [_],_=>rfl
    | _ :: _ :: _ :: _,_=>simp [qf,Ja,zu]
    | [a,b],_=>
     simp only [at1,at2,bOk,xG]
     rfl
   | false=>
    simp only [Bool.false_eq_true,if_false,v0,v1,w0,bOk,at0,Ja,wS,Wn,Qb,eqI,l2,l4,J6,jT,hL1]
    cases isS "pick" h with
    | true=>
     simp only [if_true]
     match r,hm with
     | [],_=>rfl
     | _ :: _ :: _,_=>simp [xK,Ja,zu]
     | [c],hm=>
      simp only [at1,bOk,vR c (hm c (by simp))]
      rfl
    | false=>
     simp only [Bool.false_eq_true,if_false,v0,v1,w0,bOk,at0,Ja,wS,Wn,Qb,eqI,l2,l4,J6,jT,hL1]
     cases isS "row" h with
     | true=>
      simp only [if_true]
      match r,hm with
      | [],_=>rfl
      | _ :: _ :: _,_=>simp [z0T,Ja,zu]
      | [c],hm=>
       simp only [at1,bOk,H1 c (hm c (by simp))]
       rfl
     | false=>
      simp only [Bool.false_eq_true,if_false,v0,v1,w0,bOk,at0,Ja,wS,Wn,Qb,eqI,l2,l4,J6,jT,hL1]
      cases isS "many" h with
      | true=>
       simp only [if_true]
       match r,hm with
       | [],_=>rfl
       | [_],_=>rfl
       | [_,_],_=>rfl
       | _ :: _ :: _ :: _ :: _,_=>simp [xL,Ja,zu]
       | [c,a,b],hm=>
        simp only [at1,at2,at3,bOk,xG,H0 c (hm c (by simp)),J6]
        show zu (match (if uJ 0 3 a b=true then R.ok (T.bl (k c)) else .ok (.bl false)).s (fun t=>RS.rt t) with | .nx _=>RS.rt (T.bl false) | r=>r)=R.ok (T.bl (uJ 0 3 a b && k c))
        cases uJ 0 3 a b <;> rfl
      | false=>rfl
 | _=>rfl
theorem z0U {n:Nat} {d:Nat} {k:T->Bool} (H0:∀ t,sOk t->zm n 0 [t, .int d]= .ok (.bl (k t))) (t:T) (ht:sOk t):zm (n+1) 1 [t, .int d]= .ok (.bl (UF k t)):=by
 have e:zm (n+1) 1 [t, .int d]=zu (ZK zQ (zm n 0) [.vl t, .vl (.int d)]):=rfl
 rw [e,ZK]
 simp only [jD,uK,wS,Wn,yy,jw,v0,Zw,bOk]
 rw [show zQ [t, .int 1, .int 3]= .ok (.bl (vQ 1 3 t)) from Wx t 1 3,J6]
 cases t with
 | tup ks=>
  show (if (decide (1<=ks.length) && decide (ks.length<=3))=true then _ else _)=R.ok (T.bl (decide (1<=ks.length) && decide (ks.length<=3) && ks.all k))
  cases h13:(decide (1<=ks.length) && decide (ks.length<=3)) with
  | false=>rfl
  | true=>
   rw [Bool.and_eq_true,decide_eq_true_eq,decide_eq_true_eq] at h13
   have hb:ks.length<=bnd:=Nat.le_trans h13.2 (by decide)
   have ec:zG (zD 0) ZI (zc 2 (zm n 0) (z9 (vE 0) (z9 (vE 1) zj))) 1 [1] [.vl (.tup ks), .vl (.int d)] ks= .ok (ks.map fun c=>T.bl (k c)):=
    ZQ (h:=fun c=>T.bl (k c)) ks hb fun c hc=>by
     show zc 2 (zm n 0) (z9 (vE 0) (z9 (vE 1) zj)) [.vl c, .vl (.int d)]=_
     rw [ZJ,v0,v1,bOk,bOk]
     exact H0 c (WY (Y4 ht) hc)
   simp only [if_true,wt,Z4,jS,v0,bOk,uG,ec]
   show (match YQ (ks.map fun c=>T.bl (k c)) with | some k=>R.ok (T.bl k) | none=> .bad)=_
   rw [WX]
   rfl
 | _=>rfl
theorem Qc:∀ (d n:Nat),2*d+1<=n->∀ t,sOk t->zm n 0 [t, .int d]= .ok (.bl (isK d t))
 | 0,n+1,_,t,_=>rfl
 | d+1,n+2,h,t,ht=>Gg (n:=n+1) (fun u hu=>Qc d (n+1) (by omega) u hu) (fun u hu=>z0U (fun v hv=>Qc d n (by omega) v hv) u hu) t ht
theorem vT (t:T) (ht:sOk t):wc [t]= .ok (.bl (isK 3 t)):=by
 have e:wc [t]=zu (WU (J4 20) [.vl t]):=rfl
 rw [e,WU]
 simp only [jD,uK,wS,Wn,ZJ,v0,Zw,bOk]
 exact Qc 3 20 (by omega) t ht
end G
namespace G
open PySem L2 PV
noncomputable def inR (lo hi:Int):T->Bool
 | .int i=>decide (lo<=i) && decide (i<=hi)
 | _=>false
theorem xN (xs:List T):eqC (.lst xs) (.lst [])= .ok xs.isEmpty:=by cases xs <;> rfl
theorem uL {α:Type} (p:α->Bool):∀ xs:List α,(xs.filter fun x=> !p x).isEmpty=xs.all p
 | []=>rfl
 | x :: xs=>by
  have ih:=uL p xs
  rw [List.all_cons]
  cases hp:p x with
  | true=>rw [List.filter_cons_of_neg (by simp [hp]),ih]; rfl
  | false=>rw [List.filter_cons_of_pos (by simp [hp])]; rfl
theorem qg:∀ (ws acc:List Str),(dd acc ws).length<=acc.length+ws.length
 | [],acc=>Nat.le_refl _
 | w :: ws,acc=>by
  unfold dd
  have:=qg ws (if w∈acc then acc else acc++[w])
  by_cases h:w∈acc
  ·rw [if_pos h] at this ⊢; simp only [List.length_cons]; omega
  ·rw [if_neg h] at this ⊢; rw [List.length_append,List.length_singleton] at this; simp only [List.length_cons]; omega
theorem Y5:∀ (ws acc:List Str),((dd acc ws).length=acc.length+ws.length)↔∀ (k:Nat) (w:Str),ws[k]? =some w->w ∉ acc++ws.take k
 | [],acc=>by simp [dd]
 | w :: ws,acc=>by
  unfold dd
  by_cases h:w∈acc
  ·rw [if_pos h]
   have:=qg ws acc
   constructor
   ·intro e; simp only [List.length_cons] at e; omega
   ·intro H; exact absurd (List.mem_append_left _ h) (H 0 w rfl)
  ·rw [if_neg h]
   have ih:=Y5 ws (acc++[w])
   rw [List.length_append,List.length_singleton] at ih
   rw [show acc.length+(w :: ws).length=acc.length+1+ws.length by simp only [List.length_cons]; omega,ih]
   constructor
   ·intro H k v e
    cases k with
    | zero=>simp at e; subst e; simpa using h
    | succ k=>
     have:=H k v (by simpa using e)
     simpa [List.append_assoc] using this
   ·intro H k v e
    have:=H (k+1) v (by simpa using e)
    simpa [List.append_assoc] using this
end G
namespace G
open PySem L2 PV
theorem ltI (i j:Int):ltC (.int i) (.int j)= .ok (decide (i < j)):=rfl
theorem v2 {t:T} {a b:Sl} {ρ:En}:vE 2 (a :: b :: .vl t :: ρ)= .ok t:=rfl
theorem v3 {t:T} {a b c:Sl} {ρ:En}:vE 3 (a :: b :: c :: .vl t :: ρ)= .ok t:=rfl
theorem w2 {t:T} {a b:Sl} {ρ:En}:vB 2 (a :: b :: .vl t :: ρ)= .ok t:=rfl
theorem w3 {t:T} {a b c:Sl} {ρ:En}:vB 3 (a :: b :: c :: .vl t :: ρ)= .ok t:=rfl
theorem w5 {t:T} {a b c d e:Sl} {ρ:En}:vB 5 (a :: b :: c :: d :: e :: .vl t :: ρ)= .ok t:=rfl
theorem v4 {t:T} {a b c d:Sl} {ρ:En}:vE 4 (a :: b :: c :: d :: .vl t :: ρ)= .ok t:=rfl
theorem xO (f g:En->R Bool) (ρ:En):gB f g ρ=(f ρ).bind fun x=>if x=true then g ρ else .ok false:=rfl
theorem xP (t:T):yS "tuple" t= .ok (.bl (match t with | .tup _=>true | _=>false)):=by cases t <;> rfl
end G
namespace G
open PySem L2 PV
theorem v7 (w:Str):∀ ws:List Str,ya (fun y=>eqF 30 y (.str w)) (ws.map T.str)=some (decide (w∈ws))
 | []=>rfl
 | x :: ws=>by
  have ih:=v7 w ws
  show (match ya (fun y=>eqF 30 y (.str w)) (ws.map T.str) with | none=>none | some c=>some ((x == w) || c))=_
  rw [ih]
  show some ((x == w) || decide (w∈ws))=_
  congr 1
  by_cases h:x=w
  ·subst h; simp
  ·have h' :¬ w=x:=fun z=>h z.symm
   simp [h,h']
end G
namespace G
open PySem L2 PV
end G
namespace G
open PySem L2 PV
end G
namespace G
open PySem L2 PV
theorem gtI (i j:Int):gtC (.int i) (.int j)= .ok (decide (i > j)):=rfl
theorem ZR (i j:Int):zL (.int i) (.int j)= .ok (.int (i+j)):=rfl
theorem z0V (p:Int) (h0:0<=p) (h1:p < 26):ixT (.str "abcdefghijklmnopqrstuvwxyz") (.int p)= .ok (.str ⟨#[97+p.toNat]⟩):=by
 have h:p=0\/p=1\/p=2\/p=3\/p=4\/p=5\/p=6\/p=7\/p=8\/p=9\/p=10\/p=11\/p=12\/p=13\/p=14\/p=15\/p=16\/p=17\/p=18\/p=19\/p=20\/p=21\/p=22\/p=23\/p=24\/p=25:=by omega
 rcases h with rfl|rfl|rfl|rfl|rfl|rfl|rfl|rfl|rfl|rfl|rfl|rfl|rfl|rfl|rfl|rfl|rfl|rfl|rfl|rfl|rfl|rfl|rfl|rfl|rfl|rfl <;> rfl
noncomputable abbrev z1x:En->R T:=zg ixT (vE 3) (zc 3 zo (z9 (vE 1) (z9 (zg zL (zg zL (vE 2) (cE (.int 2))) (vE 0)) (z9 (cE (.int 26)) (zj)))))
theorem z0W (ns:List Int) (k:Int) (h0:0<=k) (j:Nat):∃ c:Nat,(97<=c/\c<=122)/\z1x [.vl (.int (j:Int)), .vl (scr ns), .vl (.int k), .vl (.str "abcdefghijklmnopqrstuvwxyz")]= .ok (.str ⟨#[c]⟩):=by
 obtain ⟨p,e,p0,p1⟩:=Za ns (k+2+j) 26 (by omega) (by omega)
 refine ⟨97+p.toNat,⟨by omega,by omega⟩, ?_⟩
 simp only [z1x,zy,v3,bOk,jw,v1,v2,v0,Zw,ZR,e]
 exact z0V p p0 p1
theorem vU (ns:List Int) (k:Int) (h0:0<=k):∃ w:Str,ZF [scr ns, .int k]= .ok (.str w)/\jv (.str w)=true:=by
 have e:ZF [scr ns, .int k]=zu (jK zo [.vl (scr ns), .vl (.int k), .un]):=rfl
 obtain ⟨p,e0,p0,p1⟩:=Za ns k 6 h0 (by omega)
 have hset:∀ t,([Sl.vl (scr ns),Sl.vl (.int k), .un]:En).set 2 (.vl t)=[Sl.vl (scr ns),Sl.vl (.int k), .vl t]:=fun _=>rfl
 rw [e,jK]
 simp only [ZL,wu,UE,Zw,Ja,hset,Z3,jw,v0,v1,bOk,e0,gtI]
 cases hp:decide (p > 0) with
 | true=>
  obtain ⟨q,e1,q0,q1⟩:=Za ns (k+1) 4 (by omega) (by omega)
  simp only [if_true,jD,wS,Wn,zy,jw,v0,v1,Zw,bOk,ZR,e1]
  have hq:q=0\/q=1\/q=2\/q=3:=by omega
  rcases hq with rfl | rfl | rfl | rfl
  ·exact ⟨"a",rfl,by decide⟩
  ·exact ⟨"b",rfl,by decide⟩
  ·exact ⟨"ab",rfl,by decide⟩
  ·exact ⟨"cab",rfl,by decide⟩
 | false=>
  obtain ⟨q,e1,q0,q1⟩:=Za ns (k+1) 3 (by omega) (by omega)
  simp only [Bool.false_eq_true,if_false,nxS,jD,uK,wS,Wn,wt,Z4]
  obtain ⟨g,hg⟩:=Classical.skolem.mp (z0W ns k h0)
  have ei:Jz (zg zL (cE (.int 1)) (zc 3 zo (z9 (vE 0) (z9 (zg zL (vE 1) (cE (.int 1))) (z9 (cE (.int 3)) (zj)))))) [Sl.vl (scr ns),Sl.vl (.int k), .vl (.str "abcdefghijklmnopqrstuvwxyz")]= .ok (rng 0 (1+q).toNat):=by
   unfold Jz
   simp only [zy,jw,v0,v1,Zw,bOk,ZR,e1]
   rw [if_pos ⟨by omega,by omega⟩]
  have ec:∀ n:Nat,n<=3->zG (zD 0) ZI z1x 1 [0,1,2] [Sl.vl (scr ns),Sl.vl (.int k), .vl (.str "abcdefghijklmnopqrstuvwxyz")] (rng 0 n)= .ok ((rng 0 n).map fun t=>match t with | .int j=> .str ⟨#[g j.toNat]⟩ | t=>t):=fun n hn=>
   ZQ (rng 0 n) (by unfold rng; rw [List.length_map,List.length_range]; exact Nat.le_trans hn (by decide)) fun t ht=>by
    unfold rng at ht
    obtain ⟨j,_,rfl⟩:=List.mem_map.mp ht
    show z1x [.vl (.int (0+(j:Int))), .vl (scr ns), .vl (.int k), .vl (.str "abcdefghijklmnopqrstuvwxyz")]= .ok (.str ⟨#[g (0+(j:Int)).toNat]⟩)
    rw [Int.zero_add,Int.toNat_natCast]
    exact (hg j).2
  rw [ei,bOk,ec _ (by omega),bOk,bOk]
  have hw:∀ j,jg (g j)=true:=fun j=>by
   obtain ⟨a,b⟩:=(hg j).1
   unfold jg
   rw [decide_eq_true a,decide_eq_true b]; rfl
  have hq:q=0\/q=1\/q=2:=by omega
  rcases hq with rfl | rfl | rfl
  ·refine ⟨⟨#[g 0]⟩,rfl, ?_⟩
   show (jg (g 0) && true)=true
   rw [hw 0]; rfl
  ·refine ⟨⟨#[g 0,g 1]⟩,rfl, ?_⟩
   show (jg (g 0) && (jg (g 1) && true))=true
   rw [hw 0,hw 1]; rfl
  ·refine ⟨⟨#[g 0,g 1,g 2]⟩,rfl, ?_⟩
   show (jg (g 0) && (jg (g 1) && (jg (g 2) && true)))=true
   rw [hw 0,hw 1,hw 2]; rfl
end G
namespace G
open PySem L2 PV
theorem z2n (j:Int):ZE (.int 5) (.int j)= .ok (.int (5*j)):=by
 show (if Ys 5 j then R.ok (T.int (5*j)) else .bad)=_
 rw [if_pos (.inl ⟨by decide,by decide⟩)]
theorem Vv {f g:En->R T} {ρ:En} {x y:T} (hf:f ρ= .ok x) (hg:g ρ= .ok y):jo (z9 f (z9 g zj)) ρ= .ok (.tup [x,y]):=by
 unfold jo z9 zj
 rw [hf,hg]; rfl
theorem z0X {f g h:En->R T} {ρ:En} {x y z:T} (hf:f ρ= .ok x) (hg:g ρ= .ok y) (hh:h ρ= .ok z):jo (z9 f (z9 g (z9 h zj))) ρ= .ok (.tup [x,y,z]):=by
 unfold jo z9 zj
 rw [hf,hg,hh]; rfl
theorem tup4 {f g h i:En->R T} {ρ:En} {x y z w:T} (hf:f ρ= .ok x) (hg:g ρ= .ok y) (hh:h ρ= .ok z) (hi:i ρ= .ok w):jo (z9 f (z9 g (z9 h (z9 i zj)))) ρ= .ok (.tup [x,y,z,w]):=by
 unfold jo z9 zj
 rw [hf,hg,hh,hi]; rfl
noncomputable def Dst (ws:List Str):Prop:=∀ (k:Nat) (w:Str),ws[k]? =some w->w ∉ ws.take k
theorem Dst.add {ws:List Str} (h:Dst ws) {w:Str} (hw:w ∉ ws):Dst (ws++[w]):=fun k x hx=>by
 by_cases hk:k < ws.length
 ·rw [List.getElem?_append_left hk] at hx
  rw [List.take_append_of_le_length (by omega)]
  exact h k x hx
 ·rw [List.getElem?_append_right (by omega)] at hx
  have hk' :k=ws.length:=by
   rcases Nat.lt_or_ge (k - ws.length) 1 with z | z
   ·omega
   ·rw [List.getElem?_eq_none (by simpa using z)] at hx; cases hx
  subst hk'
  rw [Nat.sub_self] at hx
  cases hx
  rw [List.take_left']
  ·exact hw
  ·rfl
noncomputable abbrev qh:En->RS:=zI (Zf 5 (zc 2 ZF (z9 (vE 0) (z9 (zg zL (zg zL (vE 1) (cE (.int 5))) (zg ZE (cE (.int 5)) (vE 4))) (zj)))))
  (ifS (zK QN (vB 5) (vB 3)) (kj 3 (vE 5)) (nxS))
theorem UG (ns:List Int) (k:Int) (h0:0<=k):∀ (js:List Nat) (ws:List Str) (x4 x5:Sl),js.length+ws.length<=4->Dst ws->(∀ w∈ws,jv (.str w)=true)->
  ∃ ws' y4 y5,JA (zD 4) qh (js.map fun (j:Nat)=>T.int (0+(j:Int))) [.vl (scr ns), .vl (.int k), .un, .ow (ws.map T.str),x4,x5]= .nx [.vl (scr ns), .vl (.int k), .un, .ow (ws'.map T.str),y4,y5]/\ws'.length<=4/\Dst ws' /\(∀ w∈ws',jv (.str w)=true)/\(0 < js.length+ws.length->0 < ws'.length)
 | [],ws,x4,x5,hl,hd,hw=>⟨ws,x4,x5,rfl,by simpa using hl,hd,hw,fun h=>by simpa using h⟩
 | j :: js,ws,x4,x5,hl,hd,hw=>by
  obtain ⟨w,ew,hw'⟩:=vU ns (k+5+5*(0+(j:Int))) (by omega)
  have hl' :js.length+ws.length+1<=4:=by simpa [List.length_cons,Nat.add_right_comm] using hl
  have e:JA (zD 4) qh ((j :: js).map fun (j:Nat)=>T.int (0+(j:Int))) [.vl (scr ns), .vl (.int k), .un, .ow (ws.map T.str),x4,x5]=match qh [.vl (scr ns), .vl (.int k), .un, .ow (ws.map T.str), .vl (.int (0+(j:Int))),x5] with
   | .nx ρ2=>JA (zD 4) qh (js.map fun (j:Nat)=>T.int (0+(j:Int))) ρ2
   | .ct ρ2=>JA (zD 4) qh (js.map fun (j:Nat)=>T.int (0+(j:Int))) ρ2
   | .bk ρ2=> .nx ρ2
   | r=>r:=rfl
  have eb:qh [.vl (scr ns), .vl (.int k), .un, .ow (ws.map T.str), .vl (.int (0+(j:Int))),x5]= .nx [.vl (scr ns), .vl (.int k), .un, .ow ((if w∈ws then ws else ws++[w]).map T.str), .vl (.int (0+(j:Int))), .vl (.str w)]:=by
   have w3o:∀ (a b c:Sl) (ts:List T) (ρ:En),vB 3 (a :: b :: c :: .ow ts :: ρ)= .ok (.lst ts):=fun _ _ _ _ _=>rfl
   have hset:∀ t,([.vl (scr ns), .vl (.int k), .un, .ow (ws.map T.str), .vl (.int (0+(j:Int))),x5]:En).set 5 (.vl t)=[.vl (scr ns), .vl (.int k), .un, .ow (ws.map T.str), .vl (.int (0+(j:Int))), .vl t]:=fun _=>rfl
   have en:QN (.str w) (.lst (ws.map T.str))= .ok (!decide (w∈ws)):=by
    show ((match ya (fun y=>eqF 30 y (.str w)) (ws.map T.str) with | some b=>R.ok b | none=> .bad)).bind (fun b=>R.ok (!b))=_
    rw [v7]; rfl
   simp only [qh,ZL,UE,ZJ,v0,v1,v4,zy,Zw,bOk,ZR,z2n,ew,Ja,hset,wu,Z3,w5,w3o,en]
   by_cases hm:w∈ws
   ·rw [decide_eq_true hm,if_pos hm]; rfl
   ·rw [decide_eq_false hm,if_neg hm]
    have hb:(ws.map T.str).length < bnd:=by rw [List.length_map]; exact Nat.lt_of_le_of_lt (show ws.length<=4 by omega) (by decide)
    show (if (ws.map T.str).length < bnd then RS.nx _ else .bad)=_
    rw [if_pos hb,List.map_append]
    rfl
  rw [e,eb]
  by_cases hm:w∈ws
  ·rw [if_pos hm]
   obtain ⟨ws',y4,y5,r1,r2,r3,r4,r5⟩:=UG ns k h0 js ws (.vl (.int (0+(j:Int)))) (.vl (.str w)) (by omega) hd hw
   exact ⟨ws',y4,y5,r1,r2,r3,r4,fun _=>r5 (by have:=List.length_pos_of_mem hm; omega)⟩
  ·rw [if_neg hm]
   obtain ⟨ws',y4,y5,r1,r2,r3,r4,r5⟩:=UG ns k h0 js (ws++[w]) (.vl (.int (0+(j:Int)))) (.vl (.str w)) (by simp only [List.length_append,List.length_cons,List.length_nil]; omega) (hd.add hm) (fun x hx=>by
    rcases List.mem_append.mp hx with z | z
    ·exact hw x z
    ·rw [List.mem_singleton.mp z]; exact hw')
   exact ⟨ws',y4,y5,r1,r2,r3,r4,fun _=>r5 (by simp only [List.length_append,List.length_cons,List.length_nil]; omega)⟩
noncomputable abbrev z0Y:En->R T:=jo (z9 (vE 1) (z9 (zg zL (cE (.int 1)) (zc 3 zo (z9 (vE 2) (z9 (zg zL (zg zL (vE 3) (cE (.int 30))) (vE 0)) (z9 (cE (.int 20)) (zj)))))) (zj)))
theorem v8 (ns:List Int) (k:Int) (h0:0<=k):∀ (ws:List Str) (i:Nat) (x0 x1:Sl),(∀ w∈ws,jv (.str w)=true)->∃ cs:List T,Z5 (jq 0 1) ZI z0Y (((ws.map T.str).zipIdx i).map fun p=>T.tup [.int (p.2:Nat),p.1]) [x0,x1, .vl (scr ns), .vl (.int k)]= .ok cs/\cs.all Z1=true/\cs.map ZU=ws
 | [],i,x0,x1,_=>⟨[],rfl,rfl,rfl⟩
 | w :: ws,i,x0,x1,hw=>by
  obtain ⟨p,e,p0,p1⟩:=Za ns (k+30+i) 20 (by omega) (by omega)
  obtain ⟨cs,r1,r2,r3⟩:=v8 ns k h0 ws (i+1) (.vl (.int (i:Int))) (.vl (.str w)) fun x hx=>hw x (List.mem_cons_of_mem _ hx)
  have ec:z0Y [.vl (.int (i:Int)), .vl (.str w), .vl (scr ns), .vl (.int k)]= .ok (.tup [.str w, .int (1+p)]):=by
   have ea:zc 3 zo (z9 (vE 2) (z9 (zg zL (zg zL (vE 3) (cE (.int 30))) (vE 0)) (z9 (cE (.int 20)) (zj)))) [.vl (.int (i:Int)), .vl (.str w), .vl (scr ns), .vl (.int k)]= .ok (.int p):=by
    simp only [jw,v2,v3,v0,zy,Zw,bOk,ZR,e]
   have eb:zg zL (cE (.int 1)) (zc 3 zo (z9 (vE 2) (z9 (zg zL (zg zL (vE 3) (cE (.int 30))) (vE 0)) (z9 (cE (.int 20)) (zj))))) [.vl (.int (i:Int)), .vl (.str w), .vl (scr ns), .vl (.int k)]= .ok (.int (1+p)):=by
    rw [zy,ea]; rfl
   exact Vv v1 eb
  refine ⟨.tup [.str w, .int (1+p)] :: cs, ?_, ?_, ?_⟩
  ·show ((z0Y [.vl (.int (i:Int)), .vl (.str w), .vl (scr ns), .vl (.int k)]).bind fun v=>(Z5 (jq 0 1) ZI z0Y (((ws.map T.str).zipIdx (i+1)).map fun p=>T.tup [.int (p.2:Nat),p.1]) [.vl (.int (i:Int)), .vl (.str w), .vl (scr ns), .vl (.int k)]).bind fun vs=>R.ok (v :: vs))=_
   rw [ec,r1]; rfl
  ·rw [List.all_cons,r2,Bool.and_true]
   show (jv (.str w) && decide (1<=1+p) && decide (1+p<=20))=true
   rw [hw w List.mem_cons_self,decide_eq_true (by omega),decide_eq_true (by omega)]; rfl
  ·rw [List.map_cons,r3]; rfl
end G
namespace G
open PySem L2 PV
theorem Ks (i j:Int):xa (.int i) (.int j)= .ok (.int (if j < i then j else i)):=rfl
theorem Gh (ns:List Int) (k:Int) (h0:0<=k):∃ t,Zy [scr ns, .int k]= .ok t/\∀ d,isK (d+1) t=true:=by
 have e:Zy [scr ns, .int k]=zu (ZY zo ZF [.vl (scr ns), .vl (.int k), .un, .un, .un, .un]):=rfl
 obtain ⟨p,e0,p0,p1⟩:=Za ns k 3 h0 (by omega)
 rw [e,ZY,ZL]
 simp only [wu,Z3,jw,v0,v1,Zw,bOk,e0,gtI,Ja]
 cases hp:decide (p > 0) with
 | true=>
  obtain ⟨q,e1,q0,q1⟩:=Za ns (k+1) 7 (by omega) (by omega)
  obtain ⟨q3,e3,_,_⟩:=Za ns (k+3) 8 (by omega) (by omega)
  obtain ⟨q4,e4,a4,b4⟩:=Za ns (k+4) 3 (by omega) (by omega)
  obtain ⟨q2,e2,a2,b2⟩:=Za ns (k+2) 4 (by omega) (by omega)
  have hset:∀ t x,([.vl (scr ns), .vl (.int k),x, .un, .un, .un]:En).set 2 (.vl t)=[.vl (scr ns), .vl (.int k), .vl t, .un, .un, .un]:=fun _ _=>rfl
  have fin:∀ low:Int, -20<=low->low<=20->∃ t,zu (zX (jo (z9 (cE (.str "whole")) (z9 (vE 2) (z9 (zg xa (cE (.int 20)) (zg zL (vE 2) (zc 3 zo (z9 (vE 0) (z9 (zg zL (vE 1) (cE (.int 2))) (z9 (cE (.int 4)) (zj))))))) (zj))))) [.vl (scr ns), .vl (.int k), .vl (.int low), .un, .un, .un])= .ok t/\∀ d,isK (d+1) t=true:=by
   intro low hl1 hl2
   refine ⟨.tup [.str "whole", .int low, .int (if low+q2 < 20 then low+q2 else 20)], ?_,fun d=> ?_⟩
   ·rw [jD,uK]
    refine z0X rfl rfl ?_
    simp only [wS,yg,Wn,zy,v2,v0,v1,jw,Zw,bOk,ZR,e2,Ks]
   ·show (decide (-20<=low) && decide (low<=_) && decide (_<=(20:Int)))=true
    rw [decide_eq_true hl1,decide_eq_true (by split <;> omega),decide_eq_true (by split <;> omega)]; rfl
  simp only [if_true,ZL,UE,wu,zy,jw,v0,v1,Zw,bOk,ZR,e1,jT,Ja,hset,Z3,e3,eqI]
  cases hq:(q3 == 0) with
  | true=>
   have h3:q4=0\/q4=1\/q4=2:=by omega
   rcases h3 with rfl | rfl | rfl
   ·obtain ⟨t,r,s⟩:=fin (-20) (by omega) (by omega)
    refine ⟨t, ?_,s⟩
    rw [← r]
    simp only [if_true,e4,bOk]
    have hv:∀ ρ,(w8 (z9 (ka (cE (.int 20))) (z9 (cE (.int 17)) (z9 (cE (.int 20)) (zj)))) ρ)= .ok (.lst [.int (-20), .int 17, .int 20]):=fun _=>rfl
    simp only [hv,bOk]
    have hx:ixT (.lst [.int (-20), .int 17, .int 20]) (.int 0)= .ok (.int (-20)):=rfl
    simp only [hx,Ja,hset,jD]
    generalize jo _ _=z
    cases z <;> rfl
   ·obtain ⟨t,r,s⟩:=fin (17) (by omega) (by omega)
    refine ⟨t, ?_,s⟩
    rw [← r]
    simp only [if_true,e4,bOk]
    have hv:∀ ρ,(w8 (z9 (ka (cE (.int 20))) (z9 (cE (.int 17)) (z9 (cE (.int 20)) (zj)))) ρ)= .ok (.lst [.int (-20), .int 17, .int 20]):=fun _=>rfl
    simp only [hv,bOk]
    have hx:ixT (.lst [.int (-20), .int 17, .int 20]) (.int 1)= .ok (.int (17)):=rfl
    simp only [hx,Ja,hset,jD]
    generalize jo _ _=z
    cases z <;> rfl
   ·obtain ⟨t,r,s⟩:=fin (20) (by omega) (by omega)
    refine ⟨t, ?_,s⟩
    rw [← r]
    simp only [if_true,e4,bOk]
    have hv:∀ ρ,(w8 (z9 (ka (cE (.int 20))) (z9 (cE (.int 17)) (z9 (cE (.int 20)) (zj)))) ρ)= .ok (.lst [.int (-20), .int 17, .int 20]):=fun _=>rfl
    simp only [hv,bOk]
    have hx:ixT (.lst [.int (-20), .int 17, .int 20]) (.int 2)= .ok (.int (20)):=rfl
    simp only [hx,Ja,hset,jD]
    generalize jo _ _=z
    cases z <;> rfl
  | false=>
   obtain ⟨t,r,s⟩:=fin (q - 3) (by omega) (by omega)
   refine ⟨t, ?_,s⟩
   rw [← r]
   simp only [Bool.false_eq_true,if_false,nxS,jD]
   generalize jo _ _=z
   cases z <;> rfl
 | false=>
  obtain ⟨q,e1,q0,q1⟩:=Za ns (k+1) 4 (by omega) (by omega)
  simp only [Bool.false_eq_true,if_false,nxS,ZL]
  have ei:Jz (zg zL (cE (.int 1)) (zc 3 zo (z9 (vE 0) (z9 (zg zL (vE 1) (cE (.int 1))) (z9 (cE (.int 4)) (zj)))))) [.vl (scr ns), .vl (.int k), .un, .ow [], .un, .un]= .ok (rng 0 (1+q).toNat):=by
   unfold Jz
   simp only [zy,jw,v0,v1,Zw,bOk,ZR,e1]
   rw [if_pos ⟨by omega,by omega⟩]
  have el:Vs 3 zj [.vl (scr ns), .vl (.int k), .un, .un, .un, .un]= .nx [.vl (scr ns), .vl (.int k), .un, .ow [], .un, .un]:=rfl
  rw [el]
  have hn:(List.range (1+q).toNat).length=(1+q).toNat:=List.length_range
  obtain ⟨ws,y4,y5,r1,r2,r3,r4,r5⟩:=UG ns k h0 (List.range (1+q).toNat) [] .un .un (by rw [hn,List.length_nil]; omega) (fun k w h=>by cases h) (fun w h=>by cases h)
  have hpos:0 < ws.length:=r5 (by rw [hn,List.length_nil]; omega)
  have ef:Wc (Jz (zg zL (cE (.int 1)) (zc 3 zo (z9 (vE 0) (z9 (zg zL (vE 1) (cE (.int 1))) (z9 (cE (.int 4)) (zj))))))) (zD 4) qh [.vl (scr ns), .vl (.int k), .un, .ow [], .un, .un]= .nx [.vl (scr ns), .vl (.int k), .un, .ow (ws.map T.str),y4,y5]:=by
   unfold Wc
   rw [ei,Ja]
   exact r1
  obtain ⟨cs,s1,s2,s3⟩:=v8 ns k h0 ws 0 .un .un r4
  have hcl:cs.length=ws.length:=by rw [← s3,List.length_map]
  refine ⟨.tup [.str "pick", .tup cs], ?_,fun d=> ?_⟩
  ·dsimp only
   rw [ef]
   dsimp only
   rw [jD,uK]
   refine Vv rfl ?_
   rw [wt,Z4]
   have ee:gN (vE 3) (frz [.vl (scr ns), .vl (.int k), .un, .ow (ws.map T.str),y4,y5])= .ok (wP (ws.map T.str)):=rfl
   rw [ee,bOk]
   unfold zG
   rw [if_pos (by unfold wP; rw [List.length_map,List.length_zipIdx,List.length_map]; exact Nat.le_trans r2 (by decide))]
   have ec:Z5 (jq 0 1) ZI z0Y (wP (ws.map T.str)) (qV 2 [0,1] (frz [.vl (scr ns), .vl (.int k), .un, .ow (ws.map T.str),y4,y5]))= .ok cs:=s1
   rw [ec]
   rfl
  ·show (decide (1<=cs.length) && decide (cs.length<=4) && cs.all Z1 && decide ((dd [] (cs.map ZU)).length=cs.length))=true
   have hd:(dd [] (cs.map ZU)).length=cs.length:=by
    rw [s3,hcl]
    have:=(Y5 ws []).mpr (fun k w h=>by simpa using r3 k w h)
    simpa using this
   rw [decide_eq_true (by omega),decide_eq_true (by omega),s2,decide_eq_true hd]; rfl
end G
namespace G
open PySem L2 PV
theorem xQ (c:Int) (j:Int) (hc:Ys c j):ZE (.int c) (.int j)= .ok (.int (c*j)):=by
 show (if Ys c j then R.ok (T.int (c*j)) else .bad)=_
 rw [if_pos hc]
theorem z0Z (j:Int):ZE (.int 3) (.int j)= .ok (.int (3*j)):=xQ _ _ (.inl ⟨by decide,by decide⟩)
theorem z10 (j:Int):ZE (.int 50) (.int j)= .ok (.int (50*j)):=xQ _ _ (.inl ⟨by decide,by decide⟩)
noncomputable abbrev z1y (c:List T->R T):En->R T:=zc 3 c (z9 (vE 1) (z9 (zg zL (zg zL (zg ZE (cE (.int 3)) (vE 2)) (cE (.int 40))) (zg ZE (cE (.int 50)) (vE 0))) (z9 (zg Ub (vE 3) (cE (.int 1))) (zj))))
theorem Qd (ns:List Int):∀ (d n:Nat),d<=n->1<=d->∀ k:Int,0<=k->∃ t,Zs n 0 [scr ns, .int k, .int (d:Int)]= .ok t/\isK d t=true
 | d+1,n+1,hn,_,k,h0=>by
  have e:Zs (n+1) 0 [scr ns, .int k, .int ((d+1:Nat):Int)]=zu (wl zo Zy (Zs n 0) [.vl (scr ns), .vl (.int k), .vl (.int ((d+1:Nat):Int)), .un, .un, .un]):=rfl
  obtain ⟨p,e0,p0,p1⟩:=Za ns k 5 h0 (by omega)
  obtain ⟨l,el,hl⟩:=Gh ns (k+1) (by omega)
  have hset:([.vl (scr ns), .vl (.int k), .vl (.int ((d+1:Nat):Int)), .un, .un, .un]:En).set 3 (.vl (.int p))=[.vl (scr ns), .vl (.int k), .vl (.int ((d+1:Nat):Int)), .vl (.int p), .un, .un]:=rfl
  rw [e,wl]
  simp only [ZL,UE,wu,xJ,Z3,jw,ZJ,v0,v1,v2,Zw,bOk,e0,Ja,hset,w2,w3,eqI,ltI,ZR,jD,wS,yg,Wn,zy,el]
  have hd1:((((d+1:Nat):Int) == 1))=decide (d=0):=by
   by_cases h:d=0
   ·subst h; rfl
   ·rw [decide_eq_false h,beq_eq_false_iff_ne]; omega
  rw [hd1]
  by_cases hleaf:d=0\/p < 2
  ·refine ⟨l, ?_,hl d⟩
   rcases hleaf with h | h
   ·rw [decide_eq_true h]; rfl
   ·rw [decide_eq_true h]
    cases decide (d=0) <;> rfl
  ·have hd0:¬ d=0:=fun z=>hleaf (.inl z)
   have hp2:¬ p < 2:=fun z=>hleaf (.inr z)
   have hsub:((d+1:Nat):Int) - 1=(d:Int):=by omega
   rw [decide_eq_false hd0,decide_eq_false hp2]
   simp only [Bool.false_eq_true,if_false,Ja,nxS,w3,v0,v1,v2,bOk,ltI,Zw]
   cases hp:decide (p < 4) with
   | true=>
    obtain ⟨q,e1,q0,q1⟩:=Za ns (k+1) 3 (by omega) (by omega)
    have hj:∀ j:Nat,∃ t,z1y (Zs n 0) [.vl (.int (0+(j:Int))), .vl (scr ns), .vl (.int k), .vl (.int ((d+1:Nat):Int))]= .ok t/\isK d t=true:=fun j=>by
     obtain ⟨t,r,s⟩:=Qd ns d n (by omega) (by omega) (3*k+40+50*(0+(j:Int))) (by omega)
     refine ⟨t, ?_,s⟩
     simp only [z1y,jw,v0,v1,v2,v3,zy,Zw,bOk,z0Z,z10,ZR,jT,hsub,r]
    obtain ⟨g,hg⟩:=Classical.skolem.mp hj
    have ei:Jz (zg zL (cE (.int 1)) (zc 3 zo (z9 (vE 0) (z9 (zg zL (vE 1) (cE (.int 1))) (z9 (cE (.int 3)) (zj)))))) [.vl (scr ns), .vl (.int k), .vl (.int ((d+1:Nat):Int)), .vl (.int p), .un, .un]= .ok (rng 0 (1+q).toNat):=by
     unfold Jz
     simp only [zy,jw,v0,v1,Zw,bOk,ZR,e1]
     rw [if_pos ⟨by omega,by omega⟩]
    have ec:zG (zD 0) ZI (z1y (Zs n 0)) 1 [0,1,2] [.vl (scr ns), .vl (.int k), .vl (.int ((d+1:Nat):Int)), .vl (.int p), .un, .un] (rng 0 (1+q).toNat)= .ok ((rng 0 (1+q).toNat).map fun t=>match t with | .int j=>g j.toNat | t=>t):=
     ZQ (rng 0 (1+q).toNat) (by unfold rng; rw [List.length_map,List.length_range]; exact Nat.le_trans (show (1+q).toNat<=3 by omega) (by decide)) fun t ht=>by
      unfold rng at ht
      obtain ⟨j,_,rfl⟩:=List.mem_map.mp ht
      show z1y (Zs n 0) [.vl (.int (0+(j:Int))), .vl (scr ns), .vl (.int k), .vl (.int ((d+1:Nat):Int))]= .ok (g (0+(j:Int)).toNat)
      rw [(hg j).1,Int.zero_add,Int.toNat_natCast]
    generalize hcs:((rng 0 (1+q).toNat).map fun t=>match t with | .int j=>g j.toNat | t=>t)=cs at ec
    have hlen:cs.length=(1+q).toNat:=by rw [← hcs]; unfold rng; rw [List.length_map,List.length_map,List.length_range]
    have hall:∀ t∈cs,isK d t=true:=fun t ht=>by
     rw [← hcs] at ht
     obtain ⟨u,hu,rfl⟩:=List.mem_map.mp ht
     unfold rng at hu
     obtain ⟨j,_,rfl⟩:=List.mem_map.mp hu
     exact (hg _).2
    refine ⟨.tup [.str "row", .tup cs], ?_, ?_⟩
    ·have hs4:([.vl (scr ns), .vl (.int k), .vl (.int ((d+1:Nat):Int)), .vl (.int p), .un, .un]:En).set 4 (.vl (.lst cs))=[.vl (scr ns), .vl (.int k), .vl (.int ((d+1:Nat):Int)), .vl (.int p), .vl (.lst cs), .un]:=rfl
     simp only [if_true,Z4,ei,bOk,ec,Ja,hs4,wS,yg,Wn]
     rfl
    ·show (decide (1<=cs.length) && decide (cs.length<=3) && cs.all (isK d))=true
     rw [decide_eq_true (by omega),decide_eq_true (by omega),List.all_eq_true.mpr hall]; rfl
   | false=>
    obtain ⟨q,e1,q0,q1⟩:=Za ns (k+1) 3 (by omega) (by omega)
    obtain ⟨q2,e2,_,_⟩:=Za ns (k+2) 3 (by omega) (by omega)
    obtain ⟨t,r,s⟩:=Qd ns d n (by omega) (by omega) (3*k+40) (by omega)
    refine ⟨.tup [.str "many",t, .int q, .int (if q+q2 < 3 then q+q2 else 3)], ?_, ?_⟩
    ·have hs5:([.vl (scr ns), .vl (.int k), .vl (.int ((d+1:Nat):Int)), .vl (.int p), .un, .un]:En).set 5 (.vl (.int q))=[.vl (scr ns), .vl (.int k), .vl (.int ((d+1:Nat):Int)), .vl (.int p), .un, .vl (.int q)]:=rfl
     simp only [Bool.false_eq_true,if_false,v0,v1,zy,Zw,bOk,ZR,e1,Ja,hs5,wS,yg,Wn,uK]
     refine tup4 rfl ?_ rfl ?_
     ·simp only [jw,v0,v1,v2,zy,Zw,bOk,z0Z,ZR,jT,hsub,r]
     ·have v5:∀ {t:T} {a b c d e:Sl} {ρ:En},vE 5 (a :: b :: c :: d :: e :: .vl t :: ρ)= .ok t:=rfl
      simp only [jw,v0,v1,v5,zy,Zw,bOk,ZR,e2,Ks]
    ·show (uJ 0 3 (.int q) (.int _) && isK d t)=true
     rw [s,Bool.and_true]
     show (decide (0<=q) && decide (q<=_) && decide (_<=(3:Int)))=true
     rw [decide_eq_true (by omega),decide_eq_true (by split <;> omega),decide_eq_true (by split <;> omega)]; rfl
end G
namespace G
open PySem L2 PV
mutual
noncomputable def dep:T->Nat
 | .tup xs=>XM xs+1
 | .lst xs=>XM xs+1
 | _=>1
noncomputable def XM:List T->Nat
 | []=>0
 | t :: ts=>max (dep t) (XM ts)
end
mutual
noncomputable def siz:T->Nat
 | .tup xs=>XN xs+1
 | .lst xs=>XN xs+1
 | _=>1
noncomputable def XN:List T->Nat
 | []=>0
 | t :: ts=>siz t+XN ts
end
theorem uM {w:Str} {t:T} (h:isS w t=true):t= .str w:=by
 cases t with
 | str s=>
  have:(s == w)=true:=h
  rw [eq_of_beq this]
 | _=>cases h
theorem Gi {lo hi:Int} {t:T} (h:inR lo hi t=true):∃ i,t= .int i:=by
 cases t with
 | int i=>exact ⟨i,rfl⟩
 | _=>cases h
theorem Ue {lo hi:Int} {a b:T} (h:uJ lo hi a b=true):∃ i j,a= .int i/\b= .int j:=by
 cases a with
 | int i=>
  cases b with
  | int j=>exact ⟨i,j,rfl,rfl⟩
  | _=>cases h
 | _=>cases h
structure Fit (D S:Nat) (t:T):Prop where
 so:sOk t
 dp:dep t<=D
 sz:siz t<=S
theorem vV {c:T} (h:Z1 c=true):Fit 2 3 c:=by
 unfold Z1 at h
 split at h
 ·rename_i w i
  have hw:jv w=true:=by
   rw [Bool.and_eq_true,Bool.and_eq_true] at h
   exact h.1.1
  cases w with
  | str x=>
   have hx:(decide (1<=x.length) && decide (x.length<=3) && x.cps.toList.all jg)=true:=hw
   rw [Bool.and_eq_true,Bool.and_eq_true,decide_eq_true_eq,decide_eq_true_eq] at hx
   refine ⟨?_, ?_, ?_⟩
   ·simp only [sOk,qX,and_true]
    exact Nat.le_trans hx.1.2 (by decide)
   ·simp [dep,XM]
   ·simp [siz,XN]
  | _=>cases hw
 ·cases h
theorem z2o {D S:Nat}:∀ {cs:List T},(∀ c∈cs,Fit D S c)->qX cs/\XM cs<=D/\XN cs<=S*cs.length
 | [],_=>⟨by simp only [qX],Nat.zero_le _,Nat.zero_le _⟩
 | c :: cs,h=>by
  obtain ⟨a,b,d⟩:=z2o (cs:=cs) fun x hx=>h x (List.mem_cons_of_mem _ hx)
  obtain ⟨x,y,z⟩:=h c List.mem_cons_self
  refine ⟨?_, ?_, ?_⟩
  ·simp only [qX]; exact ⟨x,a⟩
  ·simp only [XM]; omega
  ·simp only [XN,List.length_cons,Nat.mul_add,Nat.mul_one]; omega
theorem Y6:∀ (d:Nat) (t:T),isK d t=true->Fit (2*d+2) (15*4 ^ d) t
 | 0,_,h=>by cases h
 | d+1,t,h=>by
  have hpow:4 ^ (d+1)=4*4 ^ d:=by rw [Nat.pow_succ,Nat.mul_comm]
  have hone:1<=4 ^ d:=Nat.pow_pos (by omega)
  have h:vS (isK d) t=true:=h
  unfold vS at h
  split at h
  ·rename_i hd r
   split at h
   ·rename_i e
    rw [uM e]
    unfold qf at h
    split at h
    ·obtain ⟨i,j,rfl,rfl⟩:=Ue h
     refine ⟨by simp only [sOk,qX,and_true]; decide,by simp only [dep,XM]; omega,by simp only [siz,XN]; omega⟩
    ·cases h
   ·split at h
    ·rename_i e
     rw [uM e]
     unfold xK at h
     split at h
     ·rename_i c
      unfold v6 at h
      split at h
      ·rename_i cs
       rw [Bool.and_eq_true,Bool.and_eq_true,Bool.and_eq_true,decide_eq_true_eq,decide_eq_true_eq] at h
       obtain ⟨a,b,z⟩:=z2o (D:=2) (S:=3) (cs:=cs) fun c hc=>vV (List.all_eq_true.mp h.1.2 c hc)
       refine ⟨by simp only [sOk,qX,and_true]; exact ⟨by decide,a⟩,by simp only [dep,XM]; omega,by simp only [siz,XN]; omega⟩
      ·cases h
     ·cases h
    ·split at h
     ·rename_i e
      rw [uM e]
      unfold z0T at h
      split at h
      ·rename_i c
       unfold UF at h
       split at h
       ·rename_i cs
        rw [Bool.and_eq_true,Bool.and_eq_true,decide_eq_true_eq,decide_eq_true_eq] at h
        obtain ⟨a,b,z⟩:=z2o (D:=2*d+2) (S:=15*4 ^ d) (cs:=cs) fun c hc=>Y6 d c (List.all_eq_true.mp h.2 c hc)
        have:15*4 ^ d*cs.length<=15*4 ^ d*3:=Nat.mul_le_mul_left _ h.1.2
        refine ⟨by simp only [sOk,qX,and_true]; exact ⟨by decide,a⟩,by simp only [dep,XM]; omega,by simp only [siz,XN]; omega⟩
       ·cases h
      ·cases h
     ·split at h
      ·rename_i e
       rw [uM e]
       unfold xL at h
       split at h
       ·rename_i c a b
        rw [Bool.and_eq_true] at h
        obtain ⟨i,j,rfl,rfl⟩:=Ue h.1
        obtain ⟨x,y,z⟩:=Y6 d c h.2
        refine ⟨by simp only [sOk,qX,and_true]; exact ⟨by decide,x⟩,by simp only [dep,XM]; omega,by simp only [siz,XN]; omega⟩
       ·cases h
      ·cases h
  ·cases h
end G
namespace G
open PySem L2 PV
theorem tup1 {f:En->R T} {ρ:En} {x:T} (hf:f ρ= .ok x):jo (z9 f zj) ρ= .ok (.tup [x]):=by
 unfold jo z9 zj
 rw [hf]; rfl
end G
namespace G
open PySem L2 PV
end G
namespace G
open PySem L2 PV
theorem z11 {xs ys:List T} (h:xs.length+ys.length<=bnd):zL (.tup xs) (.tup ys)= .ok (.tup (xs++ys)):=if_pos h
end G
namespace G
open PySem L2 PV
end G
namespace G
open PySem L2 PV
end G
namespace G
open PySem L2 PV
end G
namespace G
open PySem L2 PV
theorem yB (ρ:En):nxS ρ= .nx ρ:=rfl
inductive Kd where
 | whole (lo hi:Int)
 | pick (cs:List (Str×Int))
 | row (ks:List Kd)
 | many (k:Kd) (lo hi:Nat)
noncomputable def uN (c:Str×Int):T:= .tup [.str c.1, .int c.2]
mutual
noncomputable def Kd.t:Kd->T
 | .whole lo hi=> .tup [.str "whole", .int lo, .int hi]
 | .pick cs=> .tup [.str "pick", .tup (cs.map uN)]
 | .row ks=> .tup [.str "row", .tup (Kd.ts ks)]
 | .many k lo hi=> .tup [.str "many",k.t, .int (lo:Int), .int (hi:Int)]
noncomputable def Kd.ts:List Kd->List T
 | []=>[]
 | k :: ks=>k.t :: Kd.ts ks
end
theorem Kd.ts_map:∀ ks:List Kd,Kd.ts ks=ks.map Kd.t
 | []=>by simp only [Kd.ts,List.map_nil]
 | k :: ks=>by simp only [Kd.ts,List.map_cons,Kd.ts_map ks]
noncomputable def Kd.Ok:Nat->Kd->Prop
 | 0,_=>False
 | _+1, .whole lo hi=> -20<=lo/\lo<=hi/\hi<=20
 | _+1, .pick cs=>1<=cs.length/\cs.length<=4/\(∀ c∈cs,jv (.str c.1)=true/\1<=c.2/\c.2<=20)/\Dst (cs.map (·.1))
 | d+1, .row ks=>1<=ks.length/\ks.length<=3/\∀ k∈ks,Kd.Ok d k
 | d+1, .many k lo hi=>lo<=hi/\hi<=3/\Kd.Ok d k
theorem xR {c:T} (h:Z1 c=true):∃ p:Str×Int,c=uN p/\jv (.str p.1)=true/\1<=p.2/\p.2<=20:=by
 unfold Z1 at h
 split at h
 ·rename_i w i
  rw [Bool.and_eq_true,Bool.and_eq_true,decide_eq_true_eq,decide_eq_true_eq] at h
  cases w with
  | str x=>exact ⟨(x,i),rfl,h.1.1,h.1.2,h.2⟩
  | _=>cases h.1.1
 ·cases h
theorem Qe {α:Type} {P:T->Prop} {Q:α->Prop} {f:α->T} (H:∀ t,P t->∃ a,t=f a/\Q a):∀ (ts:List T),(∀ t∈ts,P t)->∃ as:List α,ts=as.map f/\∀ a∈as,Q a
 | [],_=>⟨[],rfl,fun _ h=>nomatch h⟩
 | t :: ts,h=>by
  obtain ⟨a,rfl,ha⟩:=H t (h t List.mem_cons_self)
  obtain ⟨as,rfl,has⟩:=Qe H ts fun u hu=>h u (List.mem_cons_of_mem _ hu)
  exact ⟨a :: as,rfl,fun b hb=>by
   rcases List.mem_cons.mp hb with rfl | hb
   ·exact ha
   ·exact has b hb⟩
theorem Qf:∀ (d:Nat) (t:T),isK d t=true->∃ k:Kd,t=k.t/\k.Ok d
 | 0,_,h=>by cases h
 | d+1,t,h=>by
  have h:vS (isK d) t=true:=h
  unfold vS at h
  split at h
  ·rename_i hd r
   split at h
   ·rename_i e
    rw [uM e]
    unfold qf at h
    split at h
    ·obtain ⟨i,j,rfl,rfl⟩:=Ue h
     have h:(decide (-20<=i) && decide (i<=j) && decide (j<=20))=true:=h
     rw [Bool.and_eq_true,Bool.and_eq_true,decide_eq_true_eq,decide_eq_true_eq,decide_eq_true_eq] at h
     exact ⟨.whole i j,by simp only [Kd.t],h.1.1,h.1.2,h.2⟩
    ·cases h
   ·split at h
    ·rename_i e
     rw [uM e]
     unfold xK at h
     split at h
     ·rename_i c
      unfold v6 at h
      split at h
      ·rename_i cs
       rw [Bool.and_eq_true,Bool.and_eq_true,Bool.and_eq_true,decide_eq_true_eq,decide_eq_true_eq,decide_eq_true_eq] at h
       obtain ⟨⟨⟨h1,h2⟩,h3⟩,h4⟩:=h
       obtain ⟨as,rfl,has⟩:=Qe (fun t ht=>xR ht) cs fun c hc=>List.all_eq_true.mp h3 c hc
       rw [List.length_map] at h1 h2
       refine ⟨.pick as,by simp only [Kd.t],h1,h2,has, ?_⟩
       have e1:(as.map uN).map ZU=as.map (·.1):=by rw [List.map_map]; rfl
       rw [e1] at h4
       have:=(Y5 (as.map (·.1)) []).mp (by rw [h4,List.length_map,List.length_map]; simp)
       exact fun k w hw hm=>this k w hw (by simpa using hm)
      ·cases h
     ·cases h
    ·split at h
     ·rename_i e
      rw [uM e]
      unfold z0T at h
      split at h
      ·rename_i c
       unfold UF at h
       split at h
       ·rename_i cs
        rw [Bool.and_eq_true,Bool.and_eq_true,decide_eq_true_eq,decide_eq_true_eq] at h
        obtain ⟨ks,rfl,hks⟩:=Qe (fun t ht=>Qf d t ht) cs fun c hc=>List.all_eq_true.mp h.2 c hc
        rw [List.length_map] at h
        exact ⟨.row ks,by simp only [Kd.t,Kd.ts_map],h.1.1,h.1.2,hks⟩
       ·cases h
      ·cases h
     ·split at h
      ·rename_i e
       rw [uM e]
       unfold xL at h
       split at h
       ·rename_i c a b
        rw [Bool.and_eq_true] at h
        obtain ⟨h1,h2⟩:=h
        obtain ⟨i,j,rfl,rfl⟩:=Ue h1
        obtain ⟨k,rfl,hk⟩:=Qf d c h2
        have h1:(decide (0<=i) && decide (i<=j) && decide (j<=3))=true:=h1
        rw [Bool.and_eq_true,Bool.and_eq_true,decide_eq_true_eq,decide_eq_true_eq,decide_eq_true_eq] at h1
        obtain ⟨⟨a1,a2⟩,a3⟩:=h1
        obtain ⟨m,rfl⟩:=Int.eq_ofNat_of_zero_le a1
        obtain ⟨n,rfl⟩:=Int.eq_ofNat_of_zero_le (Int.le_trans a1 a2)
        exact ⟨.many k m n,by simp only [Kd.t],by omega,by omega,hk⟩
       ·cases h
      ·cases h
  ·cases h
noncomputable def Je (made:List (List T)):List (List T)->List (List T)
 | []=>made
 | ls :: r=>Je (made.flatMap fun a=>ls.map fun x=>a++[x]) r
noncomputable abbrev qi (ls:List (List T)):List T:=(Je [[]] ls).map T.tup
mutual
noncomputable def Kd.all:Kd->List T
 | .whole lo hi=>(List.range (hi+1 - lo).toNat).map fun (i:Nat)=>T.int (lo+(i:Int))
 | .pick cs=>cs.map fun c=>T.str c.1
 | .row ks=>qi (Kd.alls ks)
 | .many k lo hi=>(List.range (hi+1 - lo)).flatMap fun i=>qi (List.replicate (lo+i) k.all)
noncomputable def Kd.alls:List Kd->List (List T)
 | []=>[]
 | k :: ks=>k.all :: Kd.alls ks
end
theorem Kd.alls_map:∀ ks:List Kd,Kd.alls ks=ks.map Kd.all
 | []=>by simp only [Kd.alls,List.map_nil]
 | k :: ks=>by simp only [Kd.alls,List.map_cons,Kd.alls_map ks]
end G
namespace G
open PySem L2 PV
noncomputable def prd:List Nat->Nat
 | []=>1
 | n :: r=>n*prd r
theorem UH:∀ {ns:List Nat},(∀ n∈ns,1<=n)->1<=prd ns
 | [],_=>Nat.le_refl _
 | n :: ns,h=>Nat.mul_pos (h n List.mem_cons_self) (UH fun m hm=>h m (List.mem_cons_of_mem _ hm))
theorem Uf {α β:Type} (f:α->List β) (n:Nat):∀ as:List α,(∀ a∈as,(f a).length=n)->(as.flatMap f).length=as.length*n
 | [],_=>by simp
 | a :: as,h=>by
  rw [List.flatMap_cons,List.length_append,h a List.mem_cons_self,Uf f n as fun b hb=>h b (List.mem_cons_of_mem _ hb),List.length_cons,Nat.add_mul,Nat.one_mul,Nat.add_comm]
theorem UI:∀ (ls:List (List T)) (made:List (List T)),(Je made ls).length=made.length*prd (ls.map (·.length))
 | [],made=>by simp [Je,prd]
 | l :: ls,made=>by
  rw [Je,UI ls,Uf _ l.length made fun a _=>List.length_map ..,List.map_cons,prd,Nat.mul_assoc]
noncomputable abbrev Kt:En->RS:=XJ 3 (Z9 (Jh (vE 2)) (zD 0) (ZI) (zg zL (vE 1) (jo (z9 (vE 0) (zj)))) 1 [4])
theorem v9 {L M:T} {l:List T} (hl:l.length<=bnd):∀ (as:List (List T)) (acc:List T) (x:Sl),(∀ a∈as,a.length<=1000)->acc.length+as.length*l.length<=bnd->
  ∃ y,JA (zD 4) Kt (as.map T.tup) [.vl L, .vl M, .vl (.lst l), .ow acc,x]= .nx [.vl L, .vl M, .vl (.lst l), .ow (acc++(as.flatMap fun a=>l.map fun x=>a++[x]).map T.tup),y]
 | [],acc,x,_,_=>⟨x,by simp [JA]⟩
 | a :: as,acc,x,ha,hb=>by
  have ha1:=ha a List.mem_cons_self
  have hb1:bnd=16777216:=rfl
  rw [List.length_cons,Nat.add_mul,Nat.one_mul] at hb
  have ec:zG (zD 0) ZI (zg zL (vE 1) (jo (z9 (vE 0) (zj)))) 1 [4] [.vl L, .vl M, .vl (.lst l), .ow acc, .vl (.tup a)] l= .ok (l.map fun x=>T.tup (a++[x])):=
   ZQ (h:=fun x=>T.tup (a++[x])) l hl fun x hx=>by
    show zg zL (vE 1) (jo (z9 (vE 0) (zj))) [.vl x, .vl (.tup a)]=_
    rw [zy,v1,bOk,tup1 v0,bOk]
    exact z11 (by rw [List.length_singleton]; omega)
  have eb:Kt [.vl L, .vl M, .vl (.lst l), .ow acc, .vl (.tup a)]= .nx [.vl L, .vl M, .vl (.lst l), .ow (acc++l.map fun x=>T.tup (a++[x])), .vl (.tup a)]:=by
   show ((Z9 _ _ _ _ _ _ _).s fun t=>match t with | .lst us=>if acc.length+us.length<=bnd then RS.nx _ else .bad | _=> .bad)=_
   rw [Z4,jS,v2,bOk]
   show (((zG _ _ _ _ _ _ l).bind _).s _)=_
   rw [ec,bOk,Ja]
   show (if _ then _ else _)=_
   rw [if_pos (by rw [List.length_map]; omega)]
   rfl
  obtain ⟨y,ih⟩:=v9 hl as (acc++l.map fun x=>T.tup (a++[x])) (.vl (.tup a)) (fun b hb=>ha b (List.mem_cons_of_mem _ hb)) (by rw [List.length_append,List.length_map]; omega)
  refine ⟨y, ?_⟩
  have e:JA (zD 4) Kt ((a :: as).map T.tup) [.vl L, .vl M, .vl (.lst l), .ow acc,x]=match Kt [.vl L, .vl M, .vl (.lst l), .ow acc, .vl (.tup a)] with
   | .nx ρ2=>JA (zD 4) Kt (as.map T.tup) ρ2
   | .ct ρ2=>JA (zD 4) Kt (as.map T.tup) ρ2
   | .bk ρ2=> .nx ρ2
   | r=>r:=rfl
  rw [e,eb]
  dsimp only
  rw [ih,List.flatMap_cons,List.map_append,List.map_map,List.append_assoc]
  rfl
noncomputable abbrev qj:En->RS:=(zI (Vs 3 (zj))
  (zI (Wc (Jh (vE 1)) (zD 4) Kt)
  (mvS 1 3)))
theorem qk {L:T} (m:Nat):∀ (ls:List (List T)) (made:List (List T)) (k:Nat) (x y z:Sl),(∀ a∈made,a.length<=k)->k+ls.length<=1000->(∀ l∈ls,1<=l.length)->made.length*prd (ls.map (·.length))<=bnd->1<=made.length->
  ∃ x' y' z',JA (zD 2) qj (ls.map T.lst) [.vl L, .vl (.lst (made.map T.tup)),x,y,z]= .nx [.vl L, .vl (.lst ((Je made ls).map T.tup)),x',y',z']
 | [],made,k,x,y,z,_,_,_,_,_=>⟨x,y,z,by simp [JA,Je]⟩
 | l :: ls,made,k,x,y,z,hk,hkl,hpos,hb,hm=>by
  have hpr:1<=prd (ls.map (·.length)):=UH fun n hn=>by
   obtain ⟨l',hl',rfl⟩:=List.mem_map.mp hn
   exact hpos l' (List.mem_cons_of_mem _ hl')
  rw [List.map_cons,prd,← Nat.mul_assoc] at hb
  have hb1:made.length*l.length<=bnd:=Nat.le_trans (Nat.le_mul_of_pos_right _ hpr) hb
  have hll:l.length<=bnd:=Nat.le_trans (Nat.le_mul_of_pos_left _ hm) hb1
  rw [List.length_cons] at hkl
  obtain ⟨w,er⟩:=v9 (L:=L) (M:= .lst (made.map T.tup)) hll made [] z (fun a ha=>Nat.le_trans (hk a ha) (by omega)) (by rw [List.length_nil]; omega)
  rw [List.nil_append] at er
  have es:qj [.vl L, .vl (.lst (made.map T.tup)), .vl (.lst l),y,z]= .nx [.vl L, .vl (.lst ((made.flatMap fun a=>l.map fun x=>a++[x]).map T.tup)), .vl (.lst l), .vl (.lst ((made.flatMap fun a=>l.map fun x=>a++[x]).map T.tup)),w]:=by
   have e0:Vs 3 (zj) [.vl L, .vl (.lst (made.map T.tup)), .vl (.lst l),y,z]= .nx [.vl L, .vl (.lst (made.map T.tup)), .vl (.lst l), .ow [],z]:=rfl
   have e1:Wc (Jh (vE 1)) (zD 4) Kt [.vl L, .vl (.lst (made.map T.tup)), .vl (.lst l), .ow [],z]= .nx [.vl L, .vl (.lst (made.map T.tup)), .vl (.lst l), .ow ((made.flatMap fun a=>l.map fun x=>a++[x]).map T.tup),w]:=er
   unfold qj
   rw [ZL,e0]
   dsimp only
   rw [ZL,e1]
   rfl
  obtain ⟨x',y',z',ih⟩:=qk (L:=L) m ls (made.flatMap fun a=>l.map fun x=>a++[x]) (k+1) (.vl (.lst l)) (.vl (.lst ((made.flatMap fun a=>l.map fun x=>a++[x]).map T.tup))) w (fun a ha=>by
   obtain ⟨b,hb,hx⟩:=List.mem_flatMap.mp ha
   obtain ⟨u,_,rfl⟩:=List.mem_map.mp hx
   have:=hk b hb
   rw [List.length_append,List.length_singleton]; omega) (by omega) (fun l' hl' =>hpos l' (List.mem_cons_of_mem _ hl')) (by
    rw [Uf _ l.length made fun a _=>List.length_map ..]; exact hb) (by
    rw [Uf _ l.length made fun a _=>List.length_map ..]; exact Nat.mul_pos hm (hpos l List.mem_cons_self))
  refine ⟨x',y',z', ?_⟩
  have e:JA (zD 2) qj ((l :: ls).map T.lst) [.vl L, .vl (.lst (made.map T.tup)),x,y,z]=match qj [.vl L, .vl (.lst (made.map T.tup)), .vl (.lst l),y,z] with
   | .nx ρ2=>JA (zD 2) qj (ls.map T.lst) ρ2
   | .ct ρ2=>JA (zD 2) qj (ls.map T.lst) ρ2
   | .bk ρ2=> .nx ρ2
   | r=>r:=rfl
  rw [e,es]
  exact ih
theorem xS (ls:List (List T)) (hl:ls.length<=1000) (hpos:∀ l∈ls,1<=l.length) (hb:prd (ls.map (·.length))<=bnd):zh [.lst (ls.map T.lst)]= .ok (.lst (qi ls)):=by
 obtain ⟨x',y',z',er⟩:=qk (L:= .lst (ls.map T.lst)) 0 ls [[]] 0 .un .un .un (fun a ha=>by rw [List.mem_singleton.mp ha]; exact Nat.le_refl _) (by omega) hpos (by rw [List.length_singleton,Nat.one_mul]; exact hb) (Nat.le_refl _)
 have e:zh [.lst (ls.map T.lst)]=zu (jL [.vl (.lst (ls.map T.lst)), .un, .un, .un, .un]):=rfl
 have e0:Zf 1 (w8 (z9 (jo (zj)) (zj))) [.vl (.lst (ls.map T.lst)), .un, .un, .un, .un]= .nx [.vl (.lst (ls.map T.lst)), .vl (.lst [.tup []]), .un, .un, .un]:=rfl
 have e1:Wc (Jh (vE 0)) (zD 2) qj [.vl (.lst (ls.map T.lst)), .vl (.lst [.tup []]), .un, .un, .un]= .nx [.vl (.lst (ls.map T.lst)), .vl (.lst (qi ls)),x',y',z']:=er
 rw [e,jL,ZL,e0]
 dsimp only
 rw [ZL,e1]
 rfl
end G
namespace G
open PySem L2 PV
theorem wU (n:Nat):∀ m:Nat,prd (List.replicate m n)=n ^ m
 | 0=>rfl
 | m+1=>by rw [List.replicate_succ,prd,wU n m,Nat.pow_succ,Nat.mul_comm]
theorem Ug (ls:List (List T)):(qi ls).length=prd (ls.map (·.length)):=by
 unfold qi
 rw [List.length_map,UI,List.length_singleton,Nat.one_mul]
noncomputable def pw (n lo hi:Nat):Nat:=((List.range (hi+1 - lo)).map fun i=>n ^ (lo+i)).sum
theorem Wk (k:Kd) (lo hi:Nat):(Kd.many k lo hi).all.length=pw k.all.length lo hi:=by
 rw [Kd.all,List.length_flatMap,pw]
 congr 1
 refine List.map_congr_left fun i _=> ?_
 rw [Ug,List.map_replicate,wU]
theorem ui (ks:List Kd):(Kd.row ks).all.length=prd (ks.map fun k=>k.all.length):=by
 rw [Kd.all,Ug,Kd.alls_map,List.map_map]; rfl
theorem wV (lo hi:Int):(Kd.whole lo hi).all.length=(hi+1 - lo).toNat:=by
 rw [Kd.all,List.length_map,List.length_range]
theorem Y7 (cs:List (Str×Int)):(Kd.pick cs).all.length=cs.length:=by
 rw [Kd.all,List.length_map]
theorem Gj {lo hi:Nat} (h:lo<=hi) (h3:hi<=3):(lo=0/\hi=0)\/(lo=0/\hi=1)\/(lo=0/\hi=2)\/(lo=0/\hi=3)\/(lo=1/\hi=1)\/(lo=1/\hi=2)\/(lo=1/\hi=3)\/(lo=2/\hi=2)\/(lo=2/\hi=3)\/(lo=3/\hi=3):=by omega
noncomputable def iv (b:Bool):Nat:=if b then 1 else 0
theorem Gk (n:Nat) {lo hi:Nat} (h:lo<=hi) (h3:hi<=3):pw n lo hi=iv (lo == 0)+n*iv (decide (lo<=1) && decide (1<=hi))+n*n*iv (decide (lo<=2) && decide (2<=hi))+n*n*n*iv (hi == 3):=by
 rcases Gj h h3 with ⟨rfl,rfl⟩ | ⟨rfl,rfl⟩ | ⟨rfl,rfl⟩ | ⟨rfl,rfl⟩ | ⟨rfl,rfl⟩ | ⟨rfl,rfl⟩ | ⟨rfl,rfl⟩ | ⟨rfl,rfl⟩ | ⟨rfl,rfl⟩ | ⟨rfl,rfl⟩ <;>
  simp [pw,List.range_succ,iv,Nat.pow_succ]
 all_goals omega
theorem z12 {n:Nat} (hn:1<=n) {lo hi:Nat} (h:lo<=hi) (h3:hi<=3):1<=pw n lo hi:=by
 have h2:1<=n*n:=Nat.mul_pos hn hn
 have h1:1<=n*n*n:=Nat.mul_pos h2 hn
 rw [Gk n h h3]
 rcases Gj h h3 with ⟨rfl,rfl⟩ | ⟨rfl,rfl⟩ | ⟨rfl,rfl⟩ | ⟨rfl,rfl⟩ | ⟨rfl,rfl⟩ | ⟨rfl,rfl⟩ | ⟨rfl,rfl⟩ | ⟨rfl,rfl⟩ | ⟨rfl,rfl⟩ | ⟨rfl,rfl⟩ <;>
  simp [iv] <;> omega
theorem z2p {n N:Nat} (hn:n<=N) {lo hi:Nat} (h:lo<=hi) (h3:hi<=3):pw n lo hi<=1+N+N*N+N*N*N:=by
 have h2:n*n<=N*N:=Nat.mul_le_mul hn hn
 have h1:n*n*n<=N*N*N:=Nat.mul_le_mul h2 hn
 rw [Gk n h h3]
 rcases Gj h h3 with ⟨rfl,rfl⟩ | ⟨rfl,rfl⟩ | ⟨rfl,rfl⟩ | ⟨rfl,rfl⟩ | ⟨rfl,rfl⟩ | ⟨rfl,rfl⟩ | ⟨rfl,rfl⟩ | ⟨rfl,rfl⟩ | ⟨rfl,rfl⟩ | ⟨rfl,rfl⟩ <;>
  simp [iv] <;> omega
theorem Ku {N:Nat} (hN:1<=N):∀ (ns:List Nat),(∀ n∈ns,n<=N)->prd ns<=N ^ ns.length
 | [],_=>Nat.le_refl _
 | n :: ns,h=>by
  rw [prd,List.length_cons,Nat.pow_succ,Nat.mul_comm]
  exact Nat.mul_le_mul (Ku hN ns fun m hm=>h m (List.mem_cons_of_mem _ hm)) (h n List.mem_cons_self)
theorem JU:∀ (d:Nat) (k:Kd),k.Ok d->1<=k.all.length
 | 0,_,h=>h.elim
 | d+1, .whole lo hi,h=>by
  obtain ⟨_,h2,_⟩:=h
  rw [wV]; omega
 | d+1, .pick cs,h=>by
  rw [Y7]; exact h.1
 | d+1, .row ks,h=>by
  rw [ui]
  refine UH fun n hn=> ?_
  obtain ⟨k,hk,rfl⟩:=List.mem_map.mp hn
  exact JU d k (h.2.2 k hk)
 | d+1, .many k lo hi,h=>by
  rw [Wk]
  exact z12 (JU d k h.2.2) h.1 h.2.1
noncomputable def mx:Nat->Nat
 | 0=>0
 | 1=>41
 | d+1=>1+mx d+mx d*mx d+mx d*mx d*mx d
theorem Kv (d:Nat):41<=mx (d+1):=by
 induction d with
 | zero=>exact Nat.le_refl _
 | succ d ih=>
  show 41<=1+mx (d+1)+mx (d+1)*mx (d+1)+mx (d+1)*mx (d+1)*mx (d+1)
  omega
theorem xT (d:Nat) (n:Nat) (h:n<=41):n<=mx (d+1):=Nat.le_trans h (Kv d)
theorem Gm {N m:Nat} (hN:1<=N) (h:m<=3):N ^ m<=1+N+N*N+N*N*N:=by
 have:m=0\/m=1\/m=2\/m=3:=by omega
 rcases this with rfl | rfl | rfl | rfl <;> simp [Nat.pow_succ] <;> omega
theorem Wq:∀ (d:Nat) (k:Kd),k.Ok d->k.all.length<=mx d
 | 0,_,h=>h.elim
 | d+1, .whole lo hi,h=>by
  obtain ⟨h1,h2,h3⟩:=h
  rw [wV]; exact xT d _ (by omega)
 | d+1, .pick cs,h=>by
  rw [Y7]; exact xT d _ (Nat.le_trans h.2.1 (by omega))
 | 1, .row ks,h=>by
  obtain ⟨h1,h2,h3⟩:=h
  match ks,h1,h3 with
  | k :: _,_,h3=>exact (h3 k List.mem_cons_self).elim
 | d+2, .row ks,h=>by
  obtain ⟨h1,h2,h3⟩:=h
  rw [ui]
  have hp:=Nat.le_trans (by omega:1<=41) (Kv d)
  have:=Ku hp (ks.map fun k=>k.all.length) fun n hn=>by
   obtain ⟨k,hk,rfl⟩:=List.mem_map.mp hn
   exact Wq (d+1) k (h3 k hk)
  rw [List.length_map] at this
  exact Nat.le_trans this (Gm hp h2)
 | 1, .many k lo hi,h=>h.2.2.elim
 | d+2, .many k lo hi,h=>by
  rw [Wk]
  exact z2p (Wq (d+1) k h.2.2) h.1 h.2.1
end G
namespace G
open PySem L2 PV
theorem zf {f g:En->RS} {ρ ρ' :En} (h:f ρ= .nx ρ'):zI f g ρ=g ρ' :=by rw [ZL,h]
theorem cs0 {x w:Str} {r:List T} {ρ:En}:zK eqC (zg ixT (vE 0) (cE (.int 0))) (cE (.str w)) (.vl (.tup (.str x :: r)) :: ρ)= .ok (x == w):=by
 rw [Z3,zy,v0,bOk,Zw,bOk,at0,bOk,Zw,bOk,eqS]; rfl
theorem U2 {a b:T} {r:List T} {ρ:En}:zg ixT (vE 0) (cE (.int 1)) (.vl (.tup (a :: b :: r)) :: ρ)= .ok b:=by
 rw [zy,v0,bOk,Zw,bOk,at1]
theorem Qg {a b c:T} {r:List T} {ρ:En}:zg ixT (vE 0) (cE (.int 2)) (.vl (.tup (a :: b :: c :: r)) :: ρ)= .ok c:=by
 rw [zy,v0,bOk,Zw,bOk,at2]
theorem z13 {a b c d:T} {r:List T} {ρ:En}:zg ixT (vE 0) (cE (.int 3)) (.vl (.tup (a :: b :: c :: d :: r)) :: ρ)= .ok d:=by
 rw [zy,v0,bOk,Zw,bOk,at3]
theorem xU {f:En->R T} {ρ:En} {i:Int} (h:f ρ= .ok (.int i)):zg zL f (cE (.int 1)) ρ= .ok (.int (i+1)):=by
 rw [zy,h,bOk,Zw,bOk,ZR]
theorem Qh {f g:En->R T} {ρ:En} {i j:Int} (hf:f ρ= .ok (.int i)) (hg:g ρ= .ok (.int j)) (h: -1000000 < i/\i < 1000000/\ -1000000 < j/\j < 1000000):uZ f g ρ= .ok (rng i (j - i).toNat):=by
 unfold uZ
 rw [hf,bOk,hg,bOk]
 exact if_pos h
theorem xV:∀ (cs:List (Str×Int)) (x y:Sl),Z5 (jq 0 1) ZI (vE 0) (cs.map uN) [x,y]= .ok (cs.map fun c=>T.str c.1)
 | [],_,_=>rfl
 | c :: cs,x,y=>by
  have e:Z5 (jq 0 1) ZI (vE 0) ((c :: cs).map uN) [x,y]=(Z5 (jq 0 1) ZI (vE 0) (cs.map uN) [.vl (.str c.1), .vl (.int c.2)]).bind fun vs=> .ok (.str c.1 :: vs):=rfl
  rw [e,xV cs]; rfl
theorem xW {x:T} {m:Nat} (h:m<=3):ZE (.lst [x]) (.int (m:Int))= .ok (.lst (List.replicate m [x]).flatten):=by
 unfold ZE
 dsimp only
 have c:0<=(m:Int)/\(m:Int) < 1000000/\[x].length*(m:Int).toNat<=bnd:=by
  have hb:3<=bnd:=by decide
  refine ⟨by omega,by omega, ?_⟩
  rw [List.length_singleton,Int.toNat_natCast,Nat.one_mul]
  exact Nat.le_trans h hb
 rw [if_pos c,Int.toNat_natCast]
theorem Uh {α:Type} (x:α):∀ m:Nat,(List.replicate m [x]).flatten=List.replicate m x
 | 0=>rfl
 | m+1=>by rw [List.replicate_succ,List.replicate_succ,List.flatten_cons,Uh x m]; rfl
noncomputable abbrev yh (ca cr:List T->R T):En->RS:=XJ 1 (zc 1 cr (z9 (zg ZE (w8 (z9 (zc 1 ca (z9 (zg ixT (vE 0) (cE (.int 1))) (zj))) (zj))) (vE 2)) (zj)))
theorem Gn {f:En->R T} {ρ:En} {x:T} (hf:f ρ= .ok x):w8 (z9 f zj) ρ= .ok (.lst [x]):=by
 unfold w8 z9 zj
 rw [hf]; rfl
theorem ql {ca:List T->R T} {k:Kd} {t:T} {lo:Nat} {ws:List T} (hw:ca [t]= .ok (.lst ws)) (hpos:1<=ws.length) {a b c:T}:∀ (js:List Nat) (acc:List T) (x:Sl),(∀ j∈js,lo+j<=3)->acc.length+(js.map fun j=>ws.length ^ (lo+j)).sum<=bnd->
  ∃ y,JA (zD 2) (yh ca zh) (js.map fun (j:Nat)=>T.int ((lo:Int)+(j:Int))) [.vl (.tup [a,t,b,c]), .ow acc,x]= .nx [.vl (.tup [a,t,b,c]), .ow (acc++js.flatMap fun j=>qi (List.replicate (lo+j) ws)),y]
 | [],acc,x,_,_=>⟨x,by simp [JA]⟩
 | j :: js,acc,x,hj,hb=>by
  have hj1:=hj j List.mem_cons_self
  have hb1:bnd=16777216:=rfl
  rw [List.map_cons,List.sum_cons] at hb
  have er:zh [.lst ((List.replicate (lo+j) ws).map T.lst)]= .ok (.lst (qi (List.replicate (lo+j) ws))):=xS _ (by rw [List.length_replicate]; omega) (fun l hl=>by rw [List.eq_of_mem_replicate hl]; exact hpos) (by rw [List.map_replicate,wU]; omega)
  have hlen:(qi (List.replicate (lo+j) ws)).length=ws.length ^ (lo+j):=by rw [Ug,List.map_replicate,wU]
  have em:ZE (.lst [.lst ws]) (.int ((lo:Int)+(j:Int)))= .ok (.lst ((List.replicate (lo+j) ws).map T.lst)):=by
   have e1:(lo:Int)+(j:Int)=((lo+j:Nat):Int):=by omega
   rw [e1,xW (by omega),Uh,List.map_replicate]
  have eb:yh ca zh [.vl (.tup [a,t,b,c]), .ow acc, .vl (.int ((lo:Int)+(j:Int)))]= .nx [.vl (.tup [a,t,b,c]), .ow (acc++qi (List.replicate (lo+j) ws)), .vl (.int ((lo:Int)+(j:Int)))]:=by
   have e1:zc 1 zh (z9 (zg ZE (w8 (z9 (zc 1 ca (z9 (zg ixT (vE 0) (cE (.int 1))) (zj))) (zj))) (vE 2)) (zj)) [.vl (.tup [a,t,b,c]), .ow acc, .vl (.int ((lo:Int)+(j:Int)))]= .ok (.lst (qi (List.replicate (lo+j) ws))):=by
    have e0:zc 1 ca (z9 (zg ixT (vE 0) (cE (.int 1))) (zj)) [.vl (.tup [a,t,b,c]), .ow acc, .vl (.int ((lo:Int)+(j:Int)))]= .ok (.lst ws):=by
     rw [Z8,U2,bOk,hw]
    rw [Z8,zy,Gn e0,bOk,v2,bOk,em,bOk,er]
   show ((zc 1 zh _ _).s fun t=>match t with | .lst us=>if acc.length+us.length<=bnd then RS.nx _ else .bad | _=> .bad)=_
   rw [e1,Ja]
   show (if _ then _ else _)=_
   rw [if_pos (by rw [hlen]; omega)]
   rfl
  obtain ⟨y,ih⟩:=ql (k:=k) hw hpos (a:=a) (b:=b) (c:=c) js (acc++qi (List.replicate (lo+j) ws)) (.vl (.int ((lo:Int)+(j:Int)))) (fun i hi=>hj i (List.mem_cons_of_mem _ hi)) (by rw [List.length_append,hlen]; omega)
  refine ⟨y, ?_⟩
  have e:JA (zD 2) (yh ca zh) ((j :: js).map fun (j:Nat)=>T.int ((lo:Int)+(j:Int))) [.vl (.tup [a,t,b,c]), .ow acc,x]=match yh ca zh [.vl (.tup [a,t,b,c]), .ow acc, .vl (.int ((lo:Int)+(j:Int)))] with
   | .nx ρ2=>JA (zD 2) (yh ca zh) (js.map fun (j:Nat)=>T.int ((lo:Int)+(j:Int))) ρ2
   | .ct ρ2=>JA (zD 2) (yh ca zh) (js.map fun (j:Nat)=>T.int ((lo:Int)+(j:Int))) ρ2
   | .bk ρ2=> .nx ρ2
   | r=>r:=rfl
  rw [e,eb]
  dsimp only
  rw [ih,List.flatMap_cons,List.append_assoc]
theorem kK {ca:List T->R T} {a t:T} {lo hi:Nat} (h1:lo<=hi) (h2:hi<=3) {x:Sl} {acc:List T} {r:RS}
  (el:JA (zD 2) (yh ca zh) ((List.range (hi+1 - lo)).map fun (j:Nat)=>T.int ((lo:Int)+(j:Int))) [.vl (.tup [a,t, .int (lo:Int), .int (hi:Int)]), .ow acc,x]=r):
  Wc (uZ (zg ixT (vE 0) (cE (.int 2))) (zg zL (zg ixT (vE 0) (cE (.int 3))) (cE (.int 1)))) (zD 2) (yh ca zh) [.vl (.tup [a,t, .int (lo:Int), .int (hi:Int)]), .ow acc,x]=r:=by
 have hn:((hi:Int)+1 - (lo:Int)).toNat=hi+1 - lo:=by omega
 have hc: -1000000 < (lo:Int)/\(lo:Int) < 1000000/\ -1000000 < (hi:Int)+1/\(hi:Int)+1 < 1000000:=by omega
 have e:Wc (uZ (zg ixT (vE 0) (cE (.int 2))) (zg zL (zg ixT (vE 0) (cE (.int 3))) (cE (.int 1)))) (zD 2) (yh ca zh) [.vl (.tup [a,t, .int (lo:Int), .int (hi:Int)]), .ow acc,x]=(uZ (zg ixT (vE 0) (cE (.int 2))) (zg zL (zg ixT (vE 0) (cE (.int 3))) (cE (.int 1))) [.vl (.tup [a,t, .int (lo:Int), .int (hi:Int)]), .ow acc,x]).s fun ts=>JA (zD 2) (yh ca zh) ts [.vl (.tup [a,t, .int (lo:Int), .int (hi:Int)]), .ow acc,x]:=rfl
 rw [e,Qh Qg (xU z13) hc,Ja,hn]
 exact el
theorem z14 {n L lo hi:Nat} (e:L=pw n lo hi) (h:L<=1000000):([]:List T).length+((List.range (hi+1 - lo)).map fun j=>n ^ (lo+j)).sum<=bnd:=by
 have h' :pw n lo hi<=bnd:=Nat.le_trans (e ▸ h) (by decide)
 unfold pw at h'
 rw [List.length_nil,Nat.zero_add]
 exact h'
theorem xX {ca:List T->R T} (d:Nat) (lo hi:Int) (h:(Kd.whole lo hi).Ok (d+1)) (hl:(Kd.whole lo hi).all.length<=1000000) (H:∀ k' :Kd,k'.Ok d->ca [k'.t]= .ok (.lst k'.all)):zu (zC ca zh (en0 3 [(Kd.whole lo hi).t]))= .ok (.lst (Kd.whole lo hi).all):=by
 have hb1:bnd=16777216:=rfl
 have e:zu (zC ca zh (en0 3 [(Kd.whole lo hi).t]))=zu (zC ca zh [.vl (Kd.whole lo hi).t, .un, .un]):=rfl
 rw [e,zC,ZL,wu]
 obtain ⟨h1,h2,h3⟩:=h
 simp only [Kd.t]
 rw [cs0,Ja,show (("whole":Str) == "whole")=true from rfl,if_pos rfl,jD,wS,yg,yg,Wn]
 unfold z1t
 rw [Qh U2 (xU Qg) ⟨by omega,by omega,by omega,by omega⟩]
 rw [Kd.all]
 rfl
theorem kL {ca:List T->R T} (d:Nat) (cs:List (Str×Int)) (h:(Kd.pick cs).Ok (d+1)) (hl:(Kd.pick cs).all.length<=1000000) (H:∀ k' :Kd,k'.Ok d->ca [k'.t]= .ok (.lst k'.all)):zu (zC ca zh (en0 3 [(Kd.pick cs).t]))= .ok (.lst (Kd.pick cs).all):=by
 have hb1:bnd=16777216:=rfl
 have e:zu (zC ca zh (en0 3 [(Kd.pick cs).t]))=zu (zC ca zh [.vl (Kd.pick cs).t, .un, .un]):=rfl
 rw [e,zC,ZL,wu]
 simp only [Kd.t]
 rw [cs0,Ja,show (("pick":Str) == "whole")=false from rfl,if_neg Bool.false_ne_true,yB]
 dsimp only
 rw [ZL,wu,cs0,Ja,show (("pick":Str) == "pick")=true from rfl,if_pos rfl,jD,wS,yg,yg,Wn,Z4,jS,U2,bOk]
 have hc:cs.length<=4:=h.2.1
 have ec:zG (jq 0 1) ZI (vE 0) 2 [] [.vl (.tup [.str "pick", .tup (cs.map uN)]), .un, .un] (cs.map uN)= .ok (cs.map fun c=>T.str c.1):=by
  unfold zG
  rw [if_pos (by rw [List.length_map]; omega)]
  show quiet (Z5 (jq 0 1) ZI (vE 0) (cs.map uN) [.un, .un])=_
  rw [xV]; rfl
 show zu (match ((((R.ok (cs.map uN)).bind fun ts=>(zG (jq 0 1) ZI (vE 0) 2 [] [.vl (.tup [.str "pick", .tup (cs.map uN)]), .un, .un] ts).bind fun vs=> .ok (.lst vs))).s fun t=> .rt t) with | .nx ρ' =>_ | r=>r)=_
 rw [bOk,ec]
 rw [Kd.all]
 rfl
theorem Go {ca:List T->R T} (d:Nat) (ks:List Kd) (h:(Kd.row ks).Ok (d+1)) (hl:(Kd.row ks).all.length<=1000000) (H:∀ k' :Kd,k'.Ok d->ca [k'.t]= .ok (.lst k'.all)):zu (zC ca zh (en0 3 [(Kd.row ks).t]))= .ok (.lst (Kd.row ks).all):=by
 have hb1:bnd=16777216:=rfl
 have e:zu (zC ca zh (en0 3 [(Kd.row ks).t]))=zu (zC ca zh [.vl (Kd.row ks).t, .un, .un]):=rfl
 rw [e,zC,ZL,wu]
 obtain ⟨h1,h2,h3⟩:=h
 simp only [Kd.t]
 rw [cs0,Ja,show (("row":Str) == "whole")=false from rfl,if_neg Bool.false_ne_true,yB]
 dsimp only
 rw [ZL,wu,cs0,Ja,show (("row":Str) == "pick")=false from rfl,if_neg Bool.false_ne_true,yB]
 dsimp only
 rw [ZL,wu,cs0,Ja,show (("row":Str) == "row")=true from rfl,if_pos rfl,jD,wS,yg,yg,Wn,Z8,Z4,jS,U2,bOk,Kd.ts_map]
 have ec:zG (zD 0) ZI (zc 1 ca (z9 (vE 0) (zj))) 1 [] [.vl (.tup [.str "row", .tup (ks.map Kd.t)]), .un, .un] (ks.map Kd.t)= .ok ((ks.map Kd.all).map T.lst):=by
  unfold zG
  rw [if_pos (by rw [List.length_map]; omega)]
  show quiet (Z5 (zD 0) ZI _ (ks.map Kd.t) [.un])=_
  have:∀ (ks:List Kd) (x:Sl),(∀ k∈ks,k.Ok d)->Z5 (zD 0) ZI (zc 1 ca (z9 (vE 0) (zj))) (ks.map Kd.t) [x]= .ok ((ks.map Kd.all).map T.lst):=by
   intro ks
   induction ks with
   | nil=>intro _ _; rfl
   | cons k ks ih=>
    intro x hk
    have e1:Z5 (zD 0) ZI (zc 1 ca (z9 (vE 0) (zj))) ((k :: ks).map Kd.t) [x]=(zc 1 ca (z9 (vE 0) (zj)) [.vl k.t]).bind fun v=>(Z5 (zD 0) ZI (zc 1 ca (z9 (vE 0) (zj))) (ks.map Kd.t) [.vl k.t]).bind fun vs=> .ok (v :: vs):=rfl
    rw [e1,Z8,v0,bOk,H k (hk k List.mem_cons_self),bOk,ih _ fun k' hk' =>hk k' (List.mem_cons_of_mem _ hk')]
    rfl
  rw [this ks .un h3]; rfl
 have hrow:=ui ks
 have er:zh [.lst ((ks.map Kd.all).map T.lst)]= .ok (.lst (qi (ks.map Kd.all))):=xS _ (by rw [List.length_map]; omega) (fun l hl=>by
  obtain ⟨k,hk,rfl⟩:=List.mem_map.mp hl
  exact JU d k (h3 k hk)) (by
  rw [List.map_map]
  show prd (ks.map fun k=>k.all.length)<=bnd
  omega)
 show zu (match ((((R.ok (ks.map Kd.t)).bind fun ts=>(zG (zD 0) ZI (zc 1 ca (z9 (vE 0) (zj))) 1 [] [.vl (.tup [.str "row", .tup (ks.map Kd.t)]), .un, .un] ts).bind fun vs=> .ok (.lst vs)).bind fun x=>zh [x]).s fun t=> .rt t) with | .nx ρ' =>_ | r=>r)=_
 rw [bOk,ec,bOk,bOk,er,Kd.all,Kd.alls_map]
 rfl
theorem kM {ca:List T->R T} (d:Nat) (k:Kd) (lo hi:Nat) (h:(Kd.many k lo hi).Ok (d+1)) (hl:(Kd.many k lo hi).all.length<=1000000) (H:∀ k' :Kd,k'.Ok d->ca [k'.t]= .ok (.lst k'.all)):zu (zC ca zh (en0 3 [(Kd.many k lo hi).t]))= .ok (.lst (Kd.many k lo hi).all):=by
 have hb1:bnd=16777216:=rfl
 have e:zu (zC ca zh (en0 3 [(Kd.many k lo hi).t]))=zu (zC ca zh [.vl (Kd.many k lo hi).t, .un, .un]):=rfl
 rw [e,zC,ZL,wu]
 obtain ⟨h1,h2,h3⟩:=h
 have hml:=Wk k lo hi
 simp only [Kd.t]
 rw [cs0,Ja,show (("many":Str) == "whole")=false from rfl,if_neg Bool.false_ne_true,yB]
 dsimp only
 rw [ZL,wu,cs0,Ja,show (("many":Str) == "pick")=false from rfl,if_neg Bool.false_ne_true,yB]
 dsimp only
 rw [ZL,wu,cs0,Ja,show (("many":Str) == "row")=false from rfl,if_neg Bool.false_ne_true,yB]
 dsimp only
 have e0:Vs 1 (zj) [.vl (.tup [.str "many",k.t, .int (lo:Int), .int (hi:Int)]), .un, .un]= .nx [.vl (.tup [.str "many",k.t, .int (lo:Int), .int (hi:Int)]), .ow [], .un]:=rfl
 rw [ZL,e0]
 dsimp only
 obtain ⟨y,el⟩:=ql (k:=k) (lo:=lo) (H k h3) (JU d k h3) (a:= .str "many") (b:= .int (lo:Int)) (c:= .int (hi:Int)) (List.range (hi+1 - lo)) [] .un (fun j hj=>by have:=List.mem_range.mp hj; omega) (z14 hml hl)
 have e1:=kK (ca:=ca) (t:=k.t) h1 h2 el
 rw [List.nil_append] at e1
 rw [zf e1,Kd.all]
 rfl
theorem kN {ca:List T->R T} (d:Nat) (k:Kd) (h:k.Ok (d+1)) (hl:k.all.length<=1000000) (H:∀ k' :Kd,k'.Ok d->ca [k'.t]= .ok (.lst k'.all)):zu (zC ca zh (en0 3 [k.t]))= .ok (.lst k.all):=by
 cases k with
 | whole lo hi=>exact xX d lo hi h hl H
 | pick cs=>exact kL d cs h hl H
 | row ks=>exact Go d ks h hl H
 | many k lo hi=>exact kM d k lo hi h hl H
theorem xY:∀ (d n:Nat),d<=n->d<=3->∀ k:Kd,k.Ok d->k.all.length<=1000000->Ji n 0 [k.t]= .ok (.lst k.all)
 | 0,_,_,_,_,h,_=>h.elim
 | d+1,0,hn,_,_,_,_=>by omega
 | d+1,n+1,hn,hd,k,h,hl=>by
  have e:Ji (n+1) 0 [k.t]=zu (zC (Ji n 0) zh (en0 3 [k.t])):=rfl
  rw [e]
  refine kN d k h hl fun k' hk' =>xY d n (by omega) (by omega) k' hk' ?_
  have h1:=Wq d k' hk'
  have:mx d<=1000000:=by
   have:d=0\/d=1\/d=2:=by omega
   rcases this with rfl | rfl | rfl <;> decide
  omega
end G
namespace G
open PySem L2 PV
theorem in2 {x a b:Str} {r:List T} {ρ:En}:zK inC (zg ixT (vE 0) (cE (.int 0))) (jo (z9 (cE (.str a)) (z9 (cE (.str b)) (zj)))) (.vl (.tup (.str x :: r)) :: ρ)=inC (.str x) (.tup [.str a, .str b]):=by
 rw [Z3,zy,v0,bOk,Zw,bOk,at0,bOk,Vv Zw Zw,bOk]
theorem wv {g:En->R Bool} {f1 f2:En->RS} {ρ:En} (h:g ρ= .ok true):ifS g f1 f2 ρ=f1 ρ:=by rw [wu,h,Ja,if_pos rfl]
theorem if_f {g:En->R Bool} {f1 f2:En->RS} {ρ:En} (h:g ρ= .ok false):ifS g f1 f2 ρ=f2 ρ:=by rw [wu,h,Ja,if_neg Bool.false_ne_true]
theorem zv {g:En->R Bool} {f1:En->RS} {ρ:En} (h:g ρ= .ok false):ifS g f1 nxS ρ= .nx ρ:=by rw [if_f h]; rfl
theorem Zk {i:Nat} {f:En->R T} {ρ:En} {t:T} (h:f ρ= .ok t):Zf i f ρ= .nx (ρ.set i (.vl t)):=by rw [UE,h,Ja]
theorem zw {f:En->R T} {ρ:En} {t:T} (h:f (frz ρ)= .ok t):zX f ρ= .rt t:=by rw [jD,h,Ja]
theorem WZ {g:T->En->R En} {fb:En->RS} {t:T} {ts:List T} {ρ ρ1 ρ2:En} (hg:g t ρ= .ok ρ1) (hb:fb ρ1= .nx ρ2):JA g fb (t :: ts) ρ=JA g fb ts ρ2:=by
 rw [JA,hg]
 dsimp only
 rw [hb]
theorem setg (i:Nat) (t:T) (ρ:En):zD i t ρ= .ok (ρ.set i (.vl t)):=rfl
theorem zP {f g:En->RS} {ρ:En} {t:T} (h:f ρ= .rt t):zI f g ρ= .rt t:=by rw [ZL,h]
theorem xZ {i j:Nat} (h:i < 2 ^ 60):ZE (.int (i:Int)) (.int (j:Int))= .ok (.int ((i*j:Nat):Int)):=by
 rw [xQ _ _ (.inl ⟨by omega,by omega⟩),Int.natCast_mul]
theorem z15 {d n:Nat} (h:n<=mx d) (hd:d<=3):n < 2 ^ 60:=by
 have:d=0\/d=1\/d=2\/d=3:=by omega
 have h3:mx 3 < 2 ^ 60:=by decide
 have h2:mx 2 < 2 ^ 60:=by decide
 have h1:mx 1 < 2 ^ 60:=by decide
 have h0:mx 0 < 2 ^ 60:=by decide
 rcases this with rfl | rfl | rfl | rfl <;> omega
theorem va {a b:Sl}:∀ (ns:List Nat) (m:Nat) (x y:Sl),(∀ n∈ns,1<=n)->m*prd ns < 2 ^ 60->∃ x',JA (zD 3) (Zf 2 (zg ZE (vE 2) (vE 3))) (ns.map fun (n:Nat)=>T.int (n:Int)) [a,b, .vl (.int (m:Int)),x,y]= .nx [a,b, .vl (.int ((m*prd ns:Nat):Int)),x',y]
 | [],m,x,y,_,_=>⟨x,by simp [JA,prd]⟩
 | n :: ns,m,x,y,hp,hb=>by
  have hpr:=UH (ns:=ns) fun k hk=>hp k (List.mem_cons_of_mem _ hk)
  have hn:=hp n List.mem_cons_self
  have hmm:m<=m*prd (n :: ns):=Nat.le_mul_of_pos_right _ (Nat.mul_pos hn hpr)
  have hb2:m < 2 ^ 60:=Nat.lt_of_le_of_lt hmm hb
  rw [prd,← Nat.mul_assoc] at hb
  obtain ⟨x',ih⟩:=va (a:=a) (b:=b) ns (m*n) (.vl (.int (n:Int))) y (fun k hk=>hp k (List.mem_cons_of_mem _ hk)) hb
  refine ⟨x', ?_⟩
  have es:Zf 2 (zg ZE (vE 2) (vE 3)) [a,b, .vl (.int (m:Int)), .vl (.int (n:Int)),y]= .nx [a,b, .vl (.int ((m*n:Nat):Int)), .vl (.int (n:Int)),y]:=by
   rw [UE,zy,v2,bOk,v3,bOk,xZ hb2,Ja]; rfl
  have s3:zD 3 (T.int (n:Int)) [a,b, .vl (.int (m:Int)),x,y]= .ok [a,b, .vl (.int (m:Int)), .vl (.int (n:Int)),y]:=rfl
  rw [List.map_cons,WZ s3 es,prd,← Nat.mul_assoc]
  exact ih
theorem kO:∀ (d:Nat) (lo hi:Int),(Kd.whole lo hi).Ok (d+1)->(Kd.whole lo hi).Ok 1
 | _,_,_,h=>h
theorem kP:∀ (d:Nat) (cs:List (Str×Int)),(Kd.pick cs).Ok (d+1)->(Kd.pick cs).Ok 1
 | _,_,h=>h
theorem qm {cs:List T->R T} (k:Kd) (h:k.Ok 1) {x:Str} {r:List T} (ht:k.t= .tup (.str x :: r)) (hx:inC (.str x) (.tup [.str "whole", .str "pick"])= .ok true):zu (zO (zJ 8) cs (en0 5 [k.t]))= .ok (.int (k.all.length:Int)):=by
 have ha:zJ 8 [k.t]= .ok (.lst k.all):=xY 1 8 (by omega) (by omega) k h (Nat.le_trans (Wq 1 k h) (by decide))
 have e:zu (zO (zJ 8) cs (en0 5 [k.t]))=zu (zO (zJ 8) cs [.vl k.t, .un, .un, .un, .un]):=rfl
 have e1:zK inC (zg ixT (vE 0) (cE (.int 0))) (jo (z9 (cE (.str "whole")) (z9 (cE (.str "pick")) (zj)))) [.vl k.t, .un, .un, .un, .un]= .ok true:=by
  rw [ht,in2,hx]
 have e2:zX (ap1 wO (zc 1 (zJ 8) (z9 (vE 0) (zj)))) [.vl k.t, .un, .un, .un, .un]= .rt (.int (k.all.length:Int)):=by
  refine zw ?_
  rw [wS,wt,Z8,v0,bOk,ha,bOk,z0S]
 rw [e,zO,zP (by rw [wv e1,e2])]
 rfl
theorem z2q (b:Bool):b2 b=(iv b:Int):=by cases b <;> rfl
theorem kQ {cs:List T->R T} {d:Nat} (hd:d+1<=3) (ks:List Kd) (h:(Kd.row ks).Ok (d+1)) (H:∀ k:Kd,k.Ok d->cs [k.t]= .ok (.int (k.all.length:Int))):zu (zO (zJ 8) cs (en0 5 [(Kd.row ks).t]))= .ok (.int ((Kd.row ks).all.length:Int)):=by
 have hlt:=z15 (Wq (d+1) (.row ks) h) hd
 rw [ui] at hlt ⊢
 obtain ⟨h1,h2,h3⟩:=h
 simp only [Kd.t,Kd.ts_map]
 have e:zu (zO (zJ 8) cs (en0 5 [.tup [.str "row", .tup (ks.map Kd.t)]]))=zu (zO (zJ 8) cs [.vl (.tup [.str "row", .tup (ks.map Kd.t)]), .un, .un, .un, .un]):=rfl
 have e1:zK inC (zg ixT (vE 0) (cE (.int 0))) (jo (z9 (cE (.str "whole")) (z9 (cE (.str "pick")) (zj)))) [.vl (.tup [.str "row", .tup (ks.map Kd.t)]), .un, .un, .un, .un]= .ok false:=by
  rw [in2]; rfl
 have ec:zG (zD 0) ZI (zc 1 cs (z9 (vE 0) (zj))) 1 [] [.vl (.tup [.str "row", .tup (ks.map Kd.t)]), .un, .un, .un, .un] (ks.map Kd.t)= .ok ((ks.map fun k=>k.all.length).map fun (n:Nat)=>T.int (n:Int)):=by
  unfold zG
  rw [if_pos (by rw [List.length_map]; exact Nat.le_trans h2 (by decide))]
  have:∀ (ks:List Kd) (x:Sl),(∀ k∈ks,k.Ok d)->Z5 (zD 0) ZI (zc 1 cs (z9 (vE 0) (zj))) (ks.map Kd.t) [x]= .ok ((ks.map fun k=>k.all.length).map fun (n:Nat)=>T.int (n:Int)):=by
   intro ks
   induction ks with
   | nil=>intro _ _; rfl
   | cons k ks ih=>
    intro x hk
    have e1:Z5 (zD 0) ZI (zc 1 cs (z9 (vE 0) (zj))) ((k :: ks).map Kd.t) [x]=(zc 1 cs (z9 (vE 0) (zj)) [.vl k.t]).bind fun v=>(Z5 (zD 0) ZI (zc 1 cs (z9 (vE 0) (zj))) (ks.map Kd.t) [.vl k.t]).bind fun vs=> .ok (v :: vs):=rfl
    rw [e1,Z8,v0,bOk,H k (hk k List.mem_cons_self),bOk,ih _ fun k' hk' =>hk k' (List.mem_cons_of_mem _ hk')]
    rfl
  show quiet (Z5 (zD 0) ZI _ (ks.map Kd.t) [.un])=_
  rw [this ks .un h3]; rfl
 have e2:ifE (zK eqC (zg ixT (vE 0) (cE (.int 0))) (cE (.str "row"))) (Z9 (Jh (zg ixT (vE 0) (cE (.int 1)))) (zD 0) (ZI) (zc 1 cs (z9 (vE 0) (zj))) 1 []) (w8 (zj)) [.vl (.tup [.str "row", .tup (ks.map Kd.t)]), .un, .un, .un, .un]= .ok (.lst ((ks.map fun k=>k.all.length).map fun (n:Nat)=>T.int (n:Int))):=by
  unfold ifE
  rw [cs0,bOk,show (("row":Str) == "row")=true from rfl,if_pos rfl,Z4,jS,U2,bOk]
  show ((R.ok (ks.map Kd.t)).bind _)=_
  rw [bOk,ec,bOk]
 obtain ⟨x',el⟩:=va (a:= .vl (.tup [.str "row", .tup (ks.map Kd.t)])) (b:= .vl (.lst ((ks.map fun k=>k.all.length).map fun (n:Nat)=>T.int (n:Int)))) (ks.map fun k=>k.all.length) 1 .un .un (fun n hn=>by
  obtain ⟨k,hk,rfl⟩:=List.mem_map.mp hn
  exact JU d k (h3 k hk)) (by rw [Nat.one_mul]; exact hlt)
 rw [Nat.one_mul] at el
 have e3:Wc (Jh (vE 1)) (zD 3) (Zf 2 (zg ZE (vE 2) (vE 3))) [.vl (.tup [.str "row", .tup (ks.map Kd.t)]), .vl (.lst ((ks.map fun k=>k.all.length).map fun (n:Nat)=>T.int (n:Int))), .vl (.int 1), .un, .un]=_:=el
 have e4:zK eqC (zg ixT (vE 0) (cE (.int 0))) (cE (.str "many")) [.vl (.tup [.str "row", .tup (ks.map Kd.t)]), .vl (.lst ((ks.map fun k=>k.all.length).map fun (n:Nat)=>T.int (n:Int))), .vl (.int ((prd (ks.map fun k=>k.all.length):Nat):Int)),x', .un]= .ok false:=by
  rw [cs0]; rfl
 rw [e,zO,zf (zv e1),zf (Zk e2)]
 have s1:([.vl (.tup [.str "row", .tup (ks.map Kd.t)]), .un, .un, .un, .un]:En).set 1 (.vl (.lst ((ks.map fun k=>k.all.length).map fun (n:Nat)=>T.int (n:Int))))=[.vl (.tup [.str "row", .tup (ks.map Kd.t)]), .vl (.lst ((ks.map fun k=>k.all.length).map fun (n:Nat)=>T.int (n:Int))), .un, .un, .un]:=rfl
 rw [s1,zf (Zk Zw)]
 have s2:([.vl (.tup [.str "row", .tup (ks.map Kd.t)]), .vl (.lst ((ks.map fun k=>k.all.length).map fun (n:Nat)=>T.int (n:Int))), .un, .un, .un]:En).set 2 (.vl (.int 1))=[.vl (.tup [.str "row", .tup (ks.map Kd.t)]), .vl (.lst ((ks.map fun k=>k.all.length).map fun (n:Nat)=>T.int (n:Int))), .vl (.int 1), .un, .un]:=rfl
 rw [s2,zf e3,zf (zv e4)]
 rfl
end G
namespace G
open PySem L2 PV
theorem z16 {f g:En->R T} {ρ:En} {i j c:Int} (hf:f ρ= .ok (.int i)) (hg:g ρ= .ok (.int j)):chE leC leC f (cE (.int c)) g ρ= .ok (.bl (decide (i<=c) && decide (c<=j))):=by
 rw [kJ,hf,bOk,Zw,bOk,qd,bOk,hg]
 cases decide (i<=c) <;> rfl
theorem yC (a b:Nat):decide ((a:Int)<=(b:Int))=decide (a<=b):=by
 by_cases h:a<=b
 ·rw [decide_eq_true h]; exact decide_eq_true (by omega)
 ·rw [decide_eq_false h]; exact decide_eq_false (by omega)
theorem X0 (a b:Nat):((a:Int) == (b:Int))=(a == b):=by
 by_cases h:a=b
 ·subst h; simp
 ·rw [beq_eq_false_iff_ne.mpr h,beq_eq_false_iff_ne]; omega
theorem z1z {f:En->R T} {ρ:En} {b:Bool} (h:f ρ= .ok (.bl b)):ap1 Yt f ρ= .ok (.int ((iv b:Nat):Int)):=by
 rw [wt,h,bOk]
 show R.ok (T.int (b2 b))=_
 rw [z2q]
theorem X1 {f g:En->R T} {ρ:En} {i j:Nat} (hf:f ρ= .ok (.int (i:Int))) (hg:g ρ= .ok (.int (j:Int))):zg zL f g ρ= .ok (.int ((i+j:Nat):Int)):=by
 rw [zy,hf,bOk,hg,bOk,ZR,Int.natCast_add]
theorem uj {f g:En->R T} {ρ:En} {i j:Nat} (h:i < 2 ^ 60) (hf:f ρ= .ok (.int (i:Int))) (hg:g ρ= .ok (.int (j:Int))):zg ZE f g ρ= .ok (.int ((i*j:Nat):Int)):=by
 rw [zy,hf,bOk,hg,bOk,xZ h]
theorem Gp {d n:Nat} (h:n<=mx d) (hd:d+1<=3) (h0:1<=d):n*n*n < 2 ^ 60/\n*n < 2 ^ 60/\n < 2 ^ 60:=by
 have h1:n<=70644:=by
  have:d=1\/d=2:=by omega
  have h2:mx 2=70644:=by decide
  have h1:mx 1=41:=by decide
  rcases this with rfl | rfl <;> omega
 have h2:n*n<=70644*70644:=Nat.mul_le_mul h1 h1
 have h3:n*n*n<=70644*70644*70644:=Nat.mul_le_mul h2 h1
 have h4:70644*70644*70644 < 2 ^ 60:=by decide
 have h5:70644*70644 < 2 ^ 60:=by decide
 have h6:70644 < 2 ^ 60:=by decide
 exact ⟨Nat.lt_of_le_of_lt h3 h4,Nat.lt_of_le_of_lt h2 h5,Nat.lt_of_le_of_lt h1 h6⟩
noncomputable abbrev mt (t:T) (lo hi:Nat):T:= .tup [.str "many",t, .int (lo:Int), .int (hi:Int)]
theorem v4' {t:T} {a b c d:Sl} {ρ:En}:vE 4 (a :: b :: c :: d :: .vl t :: ρ)= .ok t:=rfl
theorem X2 {t:T} {a x:Sl} {lo hi n:Nat} (h3:n*n*n < 2 ^ 60) (h2:n*n < 2 ^ 60) (h1:n < 2 ^ 60):
  zI (Zf 2 (zg zL (ap1 Yt (jZ eqC (zg ixT (vE 0) (cE (.int 2))) (cE (.int 0)))) (zg ZE (vE 4) (ap1 Yt (chE leC leC (zg ixT (vE 0) (cE (.int 2))) (cE (.int 1)) (zg ixT (vE 0) (cE (.int 3))))))))
  (zI (Zf 2 (zg zL (vE 2) (zg ZE (zg ZE (vE 4) (vE 4)) (ap1 Yt (chE leC leC (zg ixT (vE 0) (cE (.int 2))) (cE (.int 2)) (zg ixT (vE 0) (cE (.int 3))))))))
  (Zf 2 (zg zL (vE 2) (zg ZE (zg ZE (zg ZE (vE 4) (vE 4)) (vE 4)) (ap1 Yt (jZ eqC (zg ixT (vE 0) (cE (.int 3))) (cE (.int 3))))))))
  [.vl (mt t lo hi),a, .vl (.int 1),x, .vl (.int (n:Int))]= .nx [.vl (mt t lo hi),a, .vl (.int ((iv (lo == 0)+n*iv (decide (lo<=1) && decide (1<=hi))+n*n*iv (decide (lo<=2) && decide (2<=hi))+n*n*n*iv (hi == 3):Nat):Int)),x, .vl (.int (n:Int))]:=by
 have le1:∀ {p q r s:Sl},ap1 Yt (chE leC leC (zg ixT (vE 0) (cE (.int 2))) (cE (.int 1)) (zg ixT (vE 0) (cE (.int 3)))) [.vl (mt t lo hi),p,q,r,s]= .ok (.int ((iv (decide (lo<=1) && decide (1<=hi)):Nat):Int)):=fun {p q r s}=>z1z (by
  rw [z16 (c:=1) Qg z13]
  rw [show decide ((lo:Int)<=1)=decide (lo<=1) from yC lo 1,show decide ((1:Int)<=(hi:Int))=decide (1<=hi) from yC 1 hi])
 have le2:∀ {p q r s:Sl},ap1 Yt (chE leC leC (zg ixT (vE 0) (cE (.int 2))) (cE (.int 2)) (zg ixT (vE 0) (cE (.int 3)))) [.vl (mt t lo hi),p,q,r,s]= .ok (.int ((iv (decide (lo<=2) && decide (2<=hi)):Nat):Int)):=fun {p q r s}=>z1z (by
  rw [z16 (c:=2) Qg z13]
  rw [show decide ((lo:Int)<=2)=decide (lo<=2) from yC lo 2,show decide ((2:Int)<=(hi:Int))=decide (2<=hi) from yC 2 hi])
 have eq0:∀ {p q r s:Sl},ap1 Yt (jZ eqC (zg ixT (vE 0) (cE (.int 2))) (cE (.int 0))) [.vl (mt t lo hi),p,q,r,s]= .ok (.int ((iv (lo == 0):Nat):Int)):=fun {p q r s}=>z1z (by
  rw [ZV,Qg,bOk,Zw,bOk,eqI,bOk,show ((lo:Int) == 0)=(lo == 0) from X0 lo 0])
 have eq3:∀ {p q r s:Sl},ap1 Yt (jZ eqC (zg ixT (vE 0) (cE (.int 3))) (cE (.int 3))) [.vl (mt t lo hi),p,q,r,s]= .ok (.int ((iv (hi == 3):Nat):Int)):=fun {p q r s}=>z1z (by
  rw [ZV,z13,bOk,Zw,bOk,eqI,bOk,show ((hi:Int) == 3)=(hi == 3) from X0 hi 3])
 have a1:=Zk (i:=2) (X1 (eq0 (p:=a) (q:= .vl (.int 1)) (r:=x) (s:= .vl (.int (n:Int)))) (uj h1 v4' le1))
 have a1:Zf 2 (zg zL (ap1 Yt (jZ eqC (zg ixT (vE 0) (cE (.int 2))) (cE (.int 0)))) (zg ZE (vE 4) (ap1 Yt (chE leC leC (zg ixT (vE 0) (cE (.int 2))) (cE (.int 1)) (zg ixT (vE 0) (cE (.int 3))))))) [.vl (mt t lo hi),a, .vl (.int 1),x, .vl (.int (n:Int))]= .nx [.vl (mt t lo hi),a, .vl (.int ((iv (lo == 0)+n*iv (decide (lo<=1) && decide (1<=hi)):Nat):Int)),x, .vl (.int (n:Int))]:=a1
 rw [zf a1]
 generalize iv (lo == 0)+n*iv (decide (lo<=1) && decide (1<=hi))=m1
 have a2:=Zk (i:=2) (X1 (v2 (t:= .int (m1:Int)) (a:= .vl (mt t lo hi)) (b:=a) (ρ:=[x, .vl (.int (n:Int))])) (uj h2 (uj h1 v4' v4') le2))
 have a2:Zf 2 (zg zL (vE 2) (zg ZE (zg ZE (vE 4) (vE 4)) (ap1 Yt (chE leC leC (zg ixT (vE 0) (cE (.int 2))) (cE (.int 2)) (zg ixT (vE 0) (cE (.int 3))))))) [.vl (mt t lo hi),a, .vl (.int (m1:Int)),x, .vl (.int (n:Int))]= .nx [.vl (mt t lo hi),a, .vl (.int ((m1+n*n*iv (decide (lo<=2) && decide (2<=hi)):Nat):Int)),x, .vl (.int (n:Int))]:=a2
 rw [zf a2]
 generalize m1+n*n*iv (decide (lo<=2) && decide (2<=hi))=m2
 have a3:=Zk (i:=2) (X1 (v2 (t:= .int (m2:Int)) (a:= .vl (mt t lo hi)) (b:=a) (ρ:=[x, .vl (.int (n:Int))])) (uj h3 (uj h2 (uj h1 v4' v4') v4') eq3))
 exact a3
theorem X3 {cs:List T->R T} {d:Nat} (hd:d+1<=3) (k:Kd) (lo hi:Nat) (h:(Kd.many k lo hi).Ok (d+1)) (H:∀ k:Kd,k.Ok d->cs [k.t]= .ok (.int (k.all.length:Int))):zu (zO (zJ 8) cs (en0 5 [(Kd.many k lo hi).t]))= .ok (.int ((Kd.many k lo hi).all.length:Int)):=by
 obtain ⟨h1,h2,h3⟩:=h
 have hd0:1<=d:=by
  cases d with
  | zero=>exact h3.elim
  | succ d=>omega
 obtain ⟨c3,c2,c1⟩:=Gp (Wq d k h3) hd hd0
 rw [Wk,Gk _ h1 h2]
 simp only [Kd.t]
 have hk:=H k h3
 generalize k.all.length=n at*
 generalize k.t=t at*
 have e:zu (zO (zJ 8) cs (en0 5 [mt t lo hi]))=zu (zO (zJ 8) cs [.vl (mt t lo hi), .un, .un, .un, .un]):=rfl
 have e1:zK inC (zg ixT (vE 0) (cE (.int 0))) (jo (z9 (cE (.str "whole")) (z9 (cE (.str "pick")) (zj)))) [.vl (mt t lo hi), .un, .un, .un, .un]= .ok false:=by
  rw [in2]; rfl
 have e2:ifE (zK eqC (zg ixT (vE 0) (cE (.int 0))) (cE (.str "row"))) (Z9 (Jh (zg ixT (vE 0) (cE (.int 1)))) (zD 0) (ZI) (zc 1 cs (z9 (vE 0) (zj))) 1 []) (w8 (zj)) [.vl (mt t lo hi), .un, .un, .un, .un]= .ok (.lst []):=by
  unfold ifE
  rw [cs0,bOk,show (("many":Str) == "row")=false from rfl,if_neg Bool.false_ne_true]
  rfl
 have s1:([.vl (mt t lo hi), .un, .un, .un, .un]:En).set 1 (.vl (.lst []))=[.vl (mt t lo hi), .vl (.lst []), .un, .un, .un]:=rfl
 have s2:([.vl (mt t lo hi), .vl (.lst []), .un, .un, .un]:En).set 2 (.vl (.int 1))=[.vl (mt t lo hi), .vl (.lst []), .vl (.int 1), .un, .un]:=rfl
 have e3:Wc (Jh (vE 1)) (zD 3) (Zf 2 (zg ZE (vE 2) (vE 3))) [.vl (mt t lo hi), .vl (.lst []), .vl (.int 1), .un, .un]= .nx [.vl (mt t lo hi), .vl (.lst []), .vl (.int 1), .un, .un]:=rfl
 have e4:zK eqC (zg ixT (vE 0) (cE (.int 0))) (cE (.str "many")) [.vl (mt t lo hi), .vl (.lst []), .vl (.int 1), .un, .un]= .ok true:=by
  rw [cs0]; rfl
 have e5:zc 1 cs (z9 (zg ixT (vE 0) (cE (.int 1))) (zj)) [.vl (mt t lo hi), .vl (.lst []), .vl (.int 1), .un, .un]= .ok (.int (n:Int)):=by
  rw [Z8,U2,bOk,hk]
 have s5:([.vl (mt t lo hi), .vl (.lst []), .vl (.int 1), .un, .un]:En).set 4 (.vl (.int (n:Int)))=[.vl (mt t lo hi), .vl (.lst []), .vl (.int 1), .un, .vl (.int (n:Int))]:=rfl
 have e6:=X2 (t:=t) (a:= .vl (.lst [])) (x:= .un) (lo:=lo) (hi:=hi) c3 c2 c1
 rw [e,zO,zf (zv e1),zf (Zk e2),s1,zf (Zk Zw),s2,zf e3]
 have e7:∀ (P:En->RS),ifS (zK eqC (zg ixT (vE 0) (cE (.int 0))) (cE (.str "many"))) (zI (Zf 4 (zc 1 cs (z9 (zg ixT (vE 0) (cE (.int 1))) (zj)))) P) nxS [.vl (mt t lo hi), .vl (.lst []), .vl (.int 1), .un, .un]=P [.vl (mt t lo hi), .vl (.lst []), .vl (.int 1), .un, .vl (.int (n:Int))]:=fun P=>by
  rw [wv e4,zf (Zk e5),s5]
 rw [zf (Eq.trans (e7 _) e6)]
 rfl
theorem X4:∀ (d n:Nat),d<=n->d<=3->∀ k:Kd,k.Ok d->j3 n 0 [k.t]= .ok (.int (k.all.length:Int))
 | 0,_,_,_,_,h=>h.elim
 | d+1,0,hn,_,_,_=>by omega
 | d+1,n+1,hn,hd,k,h=>by
  have e:j3 (n+1) 0 [k.t]=zu (zO (zJ 8) (j3 n 0) (en0 5 [k.t])):=rfl
  rw [e]
  have H:∀ k:Kd,k.Ok d->j3 n 0 [k.t]= .ok (.int (k.all.length:Int)):=fun k' hk' =>X4 d n (by omega) (by omega) k' hk'
  cases k with
  | whole lo hi=>exact qm (.whole lo hi) (kO d lo hi h) (x:="whole") (r:=[.int lo, .int hi]) (by simp only [Kd.t]) rfl
  | pick cs=>exact qm (.pick cs) (kP d cs h) (x:="pick") (r:=[.tup (cs.map uN)]) (by simp only [Kd.t]) rfl
  | row ks=>exact kQ (by omega) ks h H
  | many k lo hi=>exact X3 (by omega) k lo hi h H
end G
namespace G
open PySem L2 PV
theorem Ok.mono:∀ (d:Nat) (k:Kd),k.Ok d->k.Ok (d+1)
 | 0,_,h=>h.elim
 | d+1, .whole _ _,h=>h
 | d+1, .pick _,h=>h
 | d+1, .row ks,h=>⟨h.1,h.2.1,fun k hk=>Ok.mono d k (h.2.2 k hk)⟩
 | d+1, .many k _ _,h=>⟨h.1,h.2.1,Ok.mono d k h.2.2⟩
theorem Gq (j:Int):ZE (.int 700) (.int j)= .ok (.int (700*j)):=xQ _ _ (.inl ⟨by decide,by decide⟩)
theorem z17 (ns:List Int) (d:Nat) (h1:1<=d) (h8:d<=8) (k:Int) (h0:0<=k):∃ q:Kd,Zt 8 [scr ns, .int k, .int (d:Int)]= .ok q.t/\q.Ok d:=by
 obtain ⟨t,ht,hi⟩:=Qd ns d 8 h8 h1 k h0
 obtain ⟨q,rfl,hq⟩:=Qf d t hi
 exact ⟨q,ht,hq⟩
noncomputable abbrev smB:En->RS:=zI (ifS (zK leC (zc 1 (j4 8) (z9 (vE 3) (zj))) (vB 2)) (zX (vE 3)) (nxS))
  (Zf 3 (zc 3 (Zt 8) (z9 (vE 0) (z9 (zg zL (zg zL (vE 1) (cE (.int 500))) (zg ZE (cE (.int 700)) (vE 4))) (z9 (cE (.int 2)) (zj))))))
noncomputable abbrev en5 (ns:List Int) (a:Int) (m:Nat) (k:Kd) (x:Sl):En:=[.vl (scr ns), .vl (.int a), .vl (.int (m:Int)), .vl k.t,x]
theorem X5 {ns:List Int} {a:Int} {m:Nat} {k:Kd} {x:Sl} (hk:k.Ok 3):zK leC (zc 1 (j4 8) (z9 (vE 3) (zj))) (vB 2) (en5 ns a m k x)= .ok (decide (k.all.length<=m)):=by
 have e:j4 8 [k.t]= .ok (.int (k.all.length:Int)):=X4 3 8 (by omega) (by omega) k hk
 rw [Z3,Z8,v3,bOk,e,bOk,w2,bOk,qd,yC]
theorem Gr (ns:List Int) {a:Int} {m:Nat} (ha:0<=a) {k:Kd} (hk:k.Ok 3) (j:Nat):(k.all.length<=m/\smB (en5 ns a m k (.vl (.int (0+(j:Int)))))= .rt k.t)\/∃ k' :Kd,k'.Ok 3/\smB (en5 ns a m k (.vl (.int (0+(j:Int)))))= .nx (en5 ns a m k' (.vl (.int (0+(j:Int))))):=by
 by_cases h:k.all.length<=m
 ·refine .inl ⟨h, ?_⟩
  unfold smB
  refine zP ?_
  rw [wv (by rw [X5 hk,decide_eq_true h])]
  exact zw rfl
 ·obtain ⟨q,hq,ho⟩:=z17 ns 2 (by omega) (by omega) (a+500+700*(0+(j:Int))) (by omega)
  refine .inr ⟨q,Ok.mono 2 q ho, ?_⟩
  unfold smB
  rw [zf (zv (by rw [X5 hk,decide_eq_false h]))]
  have hq:Zt 8 [scr ns, .int (a+500+700*(0+(j:Int))), .int 2]= .ok q.t:=hq
  have e:zc 3 (Zt 8) (z9 (vE 0) (z9 (zg zL (zg zL (vE 1) (cE (.int 500))) (zg ZE (cE (.int 700)) (vE 4))) (z9 (cE (.int 2)) (zj)))) (en5 ns a m k (.vl (.int (0+(j:Int)))))= .ok q.t:=by
   rw [jw,v0,bOk,zy,zy,v1,bOk,Zw,bOk,ZR,bOk,zy,Zw,bOk,v4,bOk,Gq,bOk,ZR,bOk,Zw,bOk,hq]
  rw [Zk e]
  rfl
theorem z18 {g:T->En->R En} {fb:En->RS} {t:T} {ts:List T} {ρ ρ1:En} {r:T} (hg:g t ρ= .ok ρ1) (hb:fb ρ1= .rt r):JA g fb (t :: ts) ρ= .rt r:=by
 rw [JA,hg]
 dsimp only
 rw [hb]
theorem X6 (ns:List Int) {a:Int} {m:Nat} (ha:0<=a):∀ (js:List Nat) (k:Kd) (x:Sl),k.Ok 3->(∃ k' :Kd,k'.Ok 3/\k'.all.length<=m/\JA (zD 4) smB (js.map fun (j:Nat)=>T.int (0+(j:Int))) (en5 ns a m k x)= .rt k'.t)\/
  ∃ (k' :Kd) (x' :Sl),k'.Ok 3/\JA (zD 4) smB (js.map fun (j:Nat)=>T.int (0+(j:Int))) (en5 ns a m k x)= .nx (en5 ns a m k' x')
 | [],k,x,hk=> .inr ⟨k,x,hk,rfl⟩
 | j :: js,k,x,hk=>by
  have s3:zD 4 (T.int (0+(j:Int))) (en5 ns a m k x)= .ok (en5 ns a m k (.vl (.int (0+(j:Int))))):=rfl
  rw [List.map_cons]
  rcases Gr ns ha (m:=m) hk j with ⟨h1,h2⟩ | ⟨k',h1,h2⟩
  ·exact .inl ⟨k,hk,h1,z18 s3 h2⟩
  ·rw [WZ s3 h2]
   exact X6 ns ha js k' _ h1
theorem kR (ns:List Int) (a:Int) (ha:0<=a) (m:Nat) (hm:4<=m):∃ k:Kd,k.Ok 3/\k.all.length<=m/\jd [scr ns, .int a, .int (m:Int)]= .ok k.t:=by
 obtain ⟨q,hq,ho⟩:=z17 ns 3 (by omega) (by omega) a ha
 have hq:Zt 8 [scr ns, .int a, .int 3]= .ok q.t:=hq
 have e:jd [scr ns, .int a, .int (m:Int)]=zu (JE (Zt 8) (j4 8) [.vl (scr ns), .vl (.int a), .vl (.int (m:Int)), .un, .un]):=rfl
 have e1:zc 3 (Zt 8) (z9 (vE 0) (z9 (vE 1) (z9 (cE (.int 3)) (zj)))) [.vl (scr ns), .vl (.int a), .vl (.int (m:Int)), .un, .un]= .ok q.t:=by
  rw [jw,v0,bOk,v1,bOk,Zw,bOk,hq]
 have s1:([.vl (scr ns), .vl (.int a), .vl (.int (m:Int)), .un, .un]:En).set 3 (.vl q.t)=en5 ns a m q .un:=rfl
 rw [e,JE,zf (Zk e1),s1]
 rcases X6 ns ha (m:=m) (List.range 3) q .un ho with ⟨k,h1,h2,h3⟩ | ⟨k,x,h1,h3⟩
 ·refine ⟨k,h1,h2, ?_⟩
  have e2:Wc (Jz (cE (.int 3))) (zD 4) smB (en5 ns a m q .un)= .rt k.t:=h3
  rw [zP e2]
  rfl
 ·have e2:Wc (Jz (cE (.int 3))) (zD 4) smB (en5 ns a m q .un)= .nx (en5 ns a m k x):=h3
  rw [zf e2]
  have ec:zK leC (zc 1 (j4 8) (z9 (vE 3) (zj))) (vB 2) (frz (en5 ns a m k x))= .ok (decide (k.all.length<=m)):=X5 (x:=z26 x) h1
  by_cases h:k.all.length<=m
  ·refine ⟨k,h1,h, ?_⟩
   rw [zw (t:=k.t)]
   ·rfl
   ·unfold ifE
    rw [ec,bOk,decide_eq_true h,if_pos rfl]
    rfl
  ·refine ⟨.whole (-1) 2,⟨by omega,by omega,by omega⟩,by rw [wV]; exact hm, ?_⟩
   rw [zw (t:=(Kd.whole (-1) 2).t)]
   ·rfl
   ·unfold ifE
    rw [ec,bOk,decide_eq_false h,if_neg Bool.false_ne_true,Kd.t]
    rfl
end G
namespace G
open PySem L2 PV
mutual
noncomputable def Kd.has:Kd->T->Bool
 | .whole lo hi=>fun t=>inR lo hi t
 | .pick cs=>fun t=>match t with | .str x=>cs.any fun c=>c.1 == x | _=>false
 | .row ks=>fun t=>match t with | .tup xs=>xs.length == ks.length && Kd.hass ks xs | _=>false
 | .many k lo hi=>fun t=>match t with | .tup xs=>decide (lo<=xs.length) && decide (xs.length<=hi) && xs.all k.has | _=>false
noncomputable def Kd.hass:List Kd->List T->Bool
 | []=>fun _=>true
 | k :: ks=>fun xs=>match xs with | []=>true | x :: xs=>k.has x && Kd.hass ks xs
end
noncomputable def vW:List (List T)->List T->Prop
 | [],[]=>True
 | l :: ls,x :: xs=>x∈l/\vW ls xs
 | _,_=>False
theorem UJ:∀ (ls made:List (List T)) (xs:List T),xs∈Je made ls↔∃ a∈made,∃ b,vW ls b/\xs=a++b
 | [],made,xs=>by
  rw [Je]
  constructor
  ·exact fun h=>⟨xs,h,[],trivial,by simp⟩
  ·rintro ⟨a,ha,b,hb,rfl⟩
   cases b with
   | nil=>simpa using ha
   | cons=>exact hb.elim
 | l :: ls,made,xs=>by
  rw [Je,UJ ls]
  constructor
  ·rintro ⟨a',ha',b,hb,rfl⟩
   obtain ⟨a,ha,hx⟩:=List.mem_flatMap.mp ha'
   obtain ⟨x,hl,e⟩:=List.mem_map.mp hx
   exact ⟨a,ha,x :: b,⟨hl,hb⟩,by rw [← e]; simp⟩
  ·rintro ⟨a,ha,b,hb,rfl⟩
   cases b with
   | nil=>exact hb.elim
   | cons x b=>exact ⟨a++[x],List.mem_flatMap.mpr ⟨a,ha,List.mem_map.mpr ⟨x,hb.1,rfl⟩⟩,b,hb.2,by simp⟩
theorem Y8 (ls:List (List T)) (t:T):t∈qi ls↔∃ xs,vW ls xs/\t= .tup xs:=by
 unfold qi
 rw [List.mem_map]
 constructor
 ·rintro ⟨xs,h,rfl⟩
  obtain ⟨a,ha,b,hb,rfl⟩:=(UJ ls [[]] xs).mp h
  rw [List.mem_singleton.mp ha]
  exact ⟨b,hb,rfl⟩
 ·rintro ⟨xs,h,rfl⟩
  exact ⟨xs,(UJ ls [[]] xs).mpr ⟨[],List.mem_singleton.mpr rfl,xs,h,rfl⟩,rfl⟩
theorem Y9 (l:List T):∀ (m:Nat) (xs:List T),vW (List.replicate m l) xs↔xs.length=m/\∀ x∈xs,x∈l
 | 0,[]=>by simp [vW]
 | 0,x :: xs=>by simp [vW]
 | m+1,[]=>by simp [vW,List.replicate_succ]
 | m+1,x :: xs=>by
  rw [List.replicate_succ]
  show x∈l/\vW _ xs↔_
  rw [Y9 l m xs]
  simp
  constructor
  ·rintro ⟨a,b,c⟩; exact ⟨b,a,c⟩
  ·rintro ⟨a,b,c⟩; exact ⟨b,a,c⟩
theorem qo:∀ (ks:List Kd),(∀ k∈ks,∀ x,x∈k.all↔k.has x=true)->∀ xs,vW (ks.map Kd.all) xs↔(xs.length == ks.length && Kd.hass ks xs)=true
 | [],_,[]=>by simp [vW,Kd.hass]
 | [],_,x :: xs=>by simp [vW]
 | k :: ks,h,[]=>by simp [vW]
 | k :: ks,h,x :: xs=>by
  show x∈k.all/\vW (ks.map Kd.all) xs↔_
  rw [qo ks (fun k' hk' =>h k' (List.mem_cons_of_mem _ hk')) xs,h k List.mem_cons_self x]
  simp [Kd.hass]
  constructor
  ·rintro ⟨a,b,c⟩; exact ⟨b,a,c⟩
  ·rintro ⟨a,b,c⟩; exact ⟨b,a,c⟩
mutual
theorem Ya:∀ (k:Kd) (x:T),x∈k.all↔k.has x=true
 | .whole lo hi,x=>by
  rw [Kd.all,Kd.has,List.mem_map]
  constructor
  ·rintro ⟨i,hi',rfl⟩
   rw [List.mem_range] at hi'
   simp [inR]; omega
  ·intro h
   obtain ⟨i,rfl⟩:=Gi h
   simp [inR] at h
   exact ⟨(i - lo).toNat,by rw [List.mem_range]; omega,by congr 1; omega⟩
 | .pick cs,x=>by
  rw [Kd.all,Kd.has,List.mem_map]
  constructor
  ·rintro ⟨c,hc,rfl⟩
   simp only [List.any_eq_true]
   exact ⟨c,hc,by simp⟩
  ·intro h
   dsimp only at h
   split at h
   ·rw [List.any_eq_true] at h
    obtain ⟨c,hc,e⟩:=h
    exact ⟨c,hc,by rw [eq_of_beq e]⟩
   ·cases h
 | .row ks,x=>by
  rw [Kd.all,Kd.has,Y8,Kd.alls_map]
  have:=qo ks (vb ks)
  constructor
  ·rintro ⟨xs,h,rfl⟩
   exact (this xs).mp h
  ·intro h
   dsimp only at h
   split at h
   ·rename_i xs
    exact ⟨xs,(this xs).mpr h,rfl⟩
   ·cases h
 | .many k lo hi,x=>by
  rw [Kd.all,Kd.has,List.mem_flatMap]
  constructor
  ·rintro ⟨i,hi',h⟩
   rw [Y8] at h
   obtain ⟨xs,h,rfl⟩:=h
   rw [Y9] at h
   rw [List.mem_range] at hi'
   simp only [Bool.and_eq_true,decide_eq_true_eq,List.all_eq_true]
   exact ⟨⟨by omega,by omega⟩,fun y hy=>(Ya k y).mp (h.2 y hy)⟩
  ·intro h
   dsimp only at h
   split at h
   ·rename_i xs
    simp only [Bool.and_eq_true,decide_eq_true_eq,List.all_eq_true] at h
    refine ⟨xs.length - lo,by rw [List.mem_range]; omega, ?_⟩
    rw [Y8]
    exact ⟨xs,(Y9 _ _ _).mpr ⟨by omega,fun y hy=>(Ya k y).mpr (h.2 y hy)⟩,rfl⟩
   ·cases h
theorem vb:∀ (ks:List Kd),∀ k∈ks,∀ x,x∈k.all↔k.has x=true
 | [],_,h=>nomatch h
 | k :: ks,k',h=>by
  rcases List.mem_cons.mp h with e | h
  ·intro x
   rw [e]
   exact Ya k x
  ·exact vb ks k' h
end
end G
namespace G
open PySem L2 PV
theorem vc {α:Type} (p:α->Bool):∀ qs:List α,YQ (qs.map fun q=>T.bl (p q))=some (qs.all p)
 | []=>rfl
 | q :: qs=>by
  have e:YQ ((q :: qs).map fun q=>T.bl (p q))=match YQ (qs.map fun q=>T.bl (p q)) with | some j=>some (p q && j) | none=>none:=rfl
  rw [e,vc p qs]
  rfl
theorem kS (cs:List (Str×Int)) (h:cs.length<=4):ZP [(Kd.pick cs).t]= .ok (.lst (cs.map fun c=>T.str c.1)):=by
 have e:ZP [(Kd.pick cs).t]=zu (jt [.vl (.tup [.str "pick", .tup (cs.map uN)])]):=by rw [Kd.t]; rfl
 have hb:(cs.map uN).length<=bnd:=by rw [List.length_map]; exact Nat.le_trans h (by decide)
 have ec:zG (zD 0) ZI (zg ixT (vE 0) (cE (.int 0))) 1 [] [.vl (.tup [.str "pick", .tup (cs.map uN)])] (cs.map uN)= .ok ((cs.map uN).map fun c=>match c with | .tup (w :: _)=>w | _=>c):=
  ZQ _ hb fun t ht=>by
   obtain ⟨c,_,rfl⟩:=List.mem_map.mp ht
   rfl
 rw [e,jt,zw (t:= .lst (cs.map fun c=>T.str c.1))]
 ·rfl
 ·show Z9 _ _ _ _ _ _ [.vl (.tup [.str "pick", .tup (cs.map uN)])]=_
  rw [Z4,jS,U2,bOk]
  show ((zG _ _ _ _ _ _ (cs.map uN)).bind _)=_
  rw [ec,bOk,List.map_map]
  rfl
end G
namespace G
open PySem L2 PV
noncomputable abbrev en2 (a b:T):En:=[.vl a, .vl b]
theorem GI {x w:Str} {r:List T} {b:T} (h:(x == w)=false) {f:En->RS}:ifS (zK eqC (zg ixT (vE 0) (cE (.int 0))) (cE (.str w))) f nxS (en2 (.tup (.str x :: r)) b)= .nx (en2 (.tup (.str x :: r)) b):=
 zv (by rw [cs0,h])
theorem z2r {x:Str} {r:List T} {b:T} {f:En->RS}:ifS (zK eqC (zg ixT (vE 0) (cE (.int 0))) (cE (.str x))) f nxS (en2 (.tup (.str x :: r)) b)=f (en2 (.tup (.str x :: r)) b):=
 wv (by rw [cs0,beq_self_eq_true])
end G
namespace G
open PySem L2 PV
theorem X7:∀ (d:Nat) (k:Kd),k.Ok d->isK d k.t=true
 | 0,_,h=>h.elim
 | d+1, .whole lo hi,h=>by
  have e:isK (d+1) (Kd.whole lo hi).t=(decide (-20<=lo) && decide (lo<=hi) && decide (hi<=20)):=by rw [Kd.t]; rfl
  obtain ⟨h1,h2,h3⟩:=h
  rw [e]; simp; omega
 | d+1, .pick cs,h=>by
  have e:isK (d+1) (Kd.pick cs).t=(decide (1<=(cs.map uN).length) && decide ((cs.map uN).length<=4) && (cs.map uN).all Z1 && decide ((dd [] ((cs.map uN).map ZU)).length=(cs.map uN).length)):=by rw [Kd.t]; rfl
  obtain ⟨h1,h2,h3,h4⟩:=h
  have e1:(cs.map uN).map ZU=cs.map (·.1):=by rw [List.map_map]; rfl
  have e2:=(Y5 (cs.map (·.1)) []).mpr fun k w hw=>by simpa using h4 k w hw
  rw [e,e1,e2,List.length_map,List.length_map]
  simp only [Bool.and_eq_true,decide_eq_true_eq,List.all_eq_true]
  refine ⟨⟨⟨h1,h2⟩,fun c hc=> ?_⟩,by simp⟩
  obtain ⟨p,hp,rfl⟩:=List.mem_map.mp hc
  obtain ⟨a,b,c⟩:=h3 p hp
  show (jv (.str p.1) && decide (1<=p.2) && decide (p.2<=20))=true
  rw [a]; simp; omega
 | d+1, .row ks,h=>by
  have e:isK (d+1) (Kd.row ks).t=(decide (1<=(ks.map Kd.t).length) && decide ((ks.map Kd.t).length<=3) && (ks.map Kd.t).all (isK d)):=by rw [Kd.t,Kd.ts_map]; rfl
  obtain ⟨h1,h2,h3⟩:=h
  rw [e,List.length_map]
  simp only [Bool.and_eq_true,decide_eq_true_eq,List.all_eq_true]
  refine ⟨⟨h1,h2⟩,fun c hc=> ?_⟩
  obtain ⟨k,hk,rfl⟩:=List.mem_map.mp hc
  exact X7 d k (h3 k hk)
 | d+1, .many k lo hi,h=>by
  have e:isK (d+1) (Kd.many k lo hi).t=((decide ((0:Int)<=(lo:Int)) && decide ((lo:Int)<=(hi:Int)) && decide ((hi:Int)<=3)) && isK d k.t):=by rw [Kd.t]; rfl
  obtain ⟨h1,h2,h3⟩:=h
  rw [e,X7 d k h3]; simp; omega
theorem vd:∀ (ks:List Kd) (xs:List T),xs.length=ks.length->Kd.hass ks xs=true->∀ x∈xs,∃ k∈ks,k.has x=true
 | [],[],_,_,_,h=>nomatch h
 | k :: ks,[],h,_,_,_=>by cases h
 | [],x :: xs,h,_,_,_=>by cases h
 | k :: ks,x :: xs,hl,h,y,hy=>by
  rw [Kd.hass] at h
  have h:(k.has x && Kd.hass ks xs)=true:=h
  rw [Bool.and_eq_true] at h
  rcases List.mem_cons.mp hy with rfl | hy
  ·exact ⟨k,List.mem_cons_self,h.1⟩
  ·obtain ⟨k',hk,hh⟩:=vd ks xs (by simpa using hl) h.2 y hy
   exact ⟨k',List.mem_cons_of_mem _ hk,hh⟩
theorem qp (t:T) (ht:sOk t):jE [t]=if isK 3 t=true then .ok .non else .ex 0:=by
 have e:jE [t]=zu (wq wc [.vl t]):=rfl
 have ec:YN (wG (zc 1 wc (z9 (vE 0) (zj)))) [.vl t]= .ok (!isK 3 t):=by
  rw [yz,Wp,Z8,v0,bOk,vT t ht,bOk,wT,bOk]
 rw [e,wq,wu,ec,Ja]
 cases isK 3 t <;> rfl
end G
namespace G
open PySem L2 PV
theorem ve {α β:Type} (f:α->List β) (m:Nat):∀ (as:List α) (i j:Nat),(∀ a∈as,(f a).length=m)->j < m->(as.flatMap f)[i*m+j]? =(as[i]?).bind fun a=>(f a)[j]?
 | [],i,j,_,_=>by simp
 | a :: as,0,j,h,hj=>by
  have ha:=h a List.mem_cons_self
  rw [List.flatMap_cons,Nat.zero_mul,Nat.zero_add,List.getElem?_append_left (by omega)]
  rfl
 | a :: as,i+1,j,h,hj=>by
  have ha:=h a List.mem_cons_self
  have e:(i+1)*m=i*m+m:=by rw [Nat.add_mul,Nat.one_mul]
  rw [List.flatMap_cons,List.getElem?_append_right (by omega),ha,e,show i*m+m+j - m=i*m+j by omega,ve f m as i j (fun b hb=>h b (List.mem_cons_of_mem _ hb)) hj]
  rfl
theorem qq {α β:Type} (f:α->List β):∀ (as:List α) (q j:Nat) (a:α),as[q]? =some a->j < (f a).length->(as.flatMap f)[((as.take q).map fun b=>(f b).length).sum+j]? =(f a)[j]?
 | [],q,j,a,h,_=>by simp at h
 | b :: as,0,j,a,h,hj=>by
  have e:b=a:=by simpa using h
  subst e
  rw [List.flatMap_cons,List.take_zero,List.map_nil,List.sum_nil,Nat.zero_add,List.getElem?_append_left hj]
 | b :: as,q+1,j,a,h,hj=>by
  rw [List.flatMap_cons,List.take_succ_cons,List.map_cons,List.sum_cons,Nat.add_assoc,List.getElem?_append_right (by omega),Nat.add_sub_cancel_left]
  exact qq f as q j a (by simpa using h) hj
theorem yD:∀ (ls made:List (List T)) (l:List T),Je made (ls++[l])=(Je made ls).flatMap fun a=>l.map fun x=>a++[x]
 | [],made,l=>rfl
 | _ :: ls,made,l=>by
  rw [List.cons_append,Je,Je,yD ls]
theorem kT {ls:List (List T)} {l:List T} {i j:Nat} {xs:List T} {x:T} (h:(Je [[]] ls)[i]? =some xs) (hx:l[j]? =some x):(Je [[]] (ls++[l]))[i*l.length+j]? =some (xs++[x]):=by
 have hj:j < l.length:=(List.getElem?_eq_some_iff.mp hx).1
 rw [yD,ve _ l.length _ i j (fun a _=>List.length_map ..) hj,h]
 show (l.map fun x=>xs++[x])[j]? =_
 rw [List.getElem?_map,hx]
 rfl
theorem vf:∀ (ns:List Nat) (n:Nat),prd (ns++[n])=prd ns*n
 | [],n=>by simp [prd]
 | m :: ns,n=>by rw [List.cons_append,prd,prd,vf ns n,Nat.mul_assoc]
theorem yE (ls:List (List T)):(Je [[]] ls).length=prd (ls.map (·.length)):=by rw [UI,List.length_singleton,Nat.one_mul]
theorem vg {α:Type} {xs:List α} {i:Nat} (h:i < xs.length):∃ x,xs[i]? =some x:=⟨_,List.getElem?_eq_getElem h⟩
theorem z19 {xs:List T} {j:Nat} {v:T} (h:xs[j]? =some v):atT xs (j:Int)= .ok v:=by unfold atT; rw [wJ h]
noncomputable def shr (c lo q:Nat):Nat:=((List.range q).map fun i=>c ^ (lo+i)).sum
theorem kU (c lo q:Nat):shr c lo (q+1)=shr c lo q+c ^ (lo+q):=by
 unfold shr
 rw [List.range_succ,List.map_append,List.sum_append]
 simp
theorem Kw (c lo hi:Nat):pw c lo hi=shr c lo (hi+1 - lo):=rfl
theorem Gs {k:Kd} {lo hi q j:Nat} {xs:List T} (hq:q < hi+1 - lo) (h:(Je [[]] (List.replicate (lo+q) k.all))[j]? =some xs):(Kd.many k lo hi).all[shr k.all.length lo q+j]? =some (.tup xs):=by
 have hj:=(List.getElem?_eq_some_iff.mp h).1
 have e:=qq (fun i=>qi (List.replicate (lo+i) k.all)) (List.range (hi+1 - lo)) q j q (by rw [List.getElem?_range hq]) (by rw [List.length_map]; exact hj)
 have e2:(((List.range (hi+1 - lo)).take q).map fun b=>(qi (List.replicate (lo+b) k.all)).length).sum=shr k.all.length lo q:=by
  rw [List.take_range,Nat.min_eq_left (Nat.le_of_lt hq),shr]
  congr 1
  refine List.map_congr_left fun i _=> ?_
  rw [Ug,List.map_replicate,wU]
 rw [e2] at e
 rw [Kd.all,e]
 show (List.map T.tup _)[j]? =_
 rw [List.getElem?_map,h]
 rfl
end G
namespace G
open PySem L2 PV
noncomputable abbrev cpB (c:List T->R T):En->RS:=Zf 1 (zg ZE (vE 1) (zc 1 c (z9 (vE 2) (zj))))
theorem X8 {c:List T->R T} {S:Sl}:∀ (ks:List Kd) (m:Nat) (x:Sl),(∀ k∈ks,c [k.t]= .ok (.int (k.all.length:Int))/\1<=k.all.length)->m*prd (ks.map fun k=>k.all.length) < 2 ^ 60->
  ∃ y,JA (zD 2) (cpB c) (ks.map Kd.t) [S, .vl (.int (m:Int)),x]= .nx [S, .vl (.int ((m*prd (ks.map fun k=>k.all.length):Nat):Int)),y]
 | [],m,x,_,_=>⟨x,by simp [JA,prd]⟩
 | k :: ks,m,x,H,hb=>by
  obtain ⟨hc,h1⟩:=H k List.mem_cons_self
  have hp:1<=prd (ks.map fun k=>k.all.length):=UH fun n hn=>by
   obtain ⟨k',hk',rfl⟩:=List.mem_map.mp hn
   exact (H k' (List.mem_cons_of_mem _ hk')).2
  rw [List.map_cons,prd,← Nat.mul_assoc] at hb
  have hm:m < 2 ^ 60:=by
   have h2:m<=m*k.all.length:=Nat.le_mul_of_pos_right _ h1
   have h3:m*k.all.length<=m*k.all.length*prd (ks.map fun k=>k.all.length):=Nat.le_mul_of_pos_right _ hp
   omega
  have eb:cpB c [S, .vl (.int (m:Int)), .vl k.t]= .nx [S, .vl (.int ((m*k.all.length:Nat):Int)), .vl k.t]:=by
   rw [cpB,Zk (t:= .int ((m*k.all.length:Nat):Int))]
   ·rfl
   ·rw [zy,v1,bOk,Z8,v2,bOk,hc,bOk,xZ hm]
  obtain ⟨y,ih⟩:=X8 (c:=c) (S:=S) ks (m*k.all.length) (.vl k.t) (fun k' hk' =>H k' (List.mem_cons_of_mem _ hk')) hb
  refine ⟨y, ?_⟩
  rw [List.map_cons,WZ (ρ1:=[S, .vl (.int (m:Int)), .vl k.t]) rfl eb,ih,List.map_cons,prd,Nat.mul_assoc]
theorem UK {c:List T->R T} {s:T} (ks:List Kd) (hs:uG s= .ok (ks.map Kd.t)) (H:∀ k∈ks,c [k.t]= .ok (.int (k.all.length:Int))/\1<=k.all.length) (hb:prd (ks.map fun k=>k.all.length) < 2 ^ 60):
  zu (zR c (en0 3 [s]))= .ok (.int ((prd (ks.map fun k=>k.all.length):Nat):Int)):=by
 obtain ⟨y,e⟩:=X8 (c:=c) (S:= .vl s) ks 1 .un H (by rw [Nat.one_mul]; exact hb)
 rw [Nat.one_mul] at e
 have e0:Zf 1 (cE (.int 1)) [.vl s, .un, .un]= .nx [.vl s, .vl (.int 1), .un]:=rfl
 have e1:Wc (Jh (vE 0)) (zD 2) (cpB c) [.vl s, .vl (.int 1), .un]= .nx [.vl s, .vl (.int ((prd (ks.map fun k=>k.all.length):Nat):Int)),y]:=by
  show ((uG s).s fun ts=>JA (zD 2) (cpB c) ts [.vl s, .vl (.int 1), .un])=_
  rw [hs,Ja]
  exact e
 show zu (zR c [.vl s, .un, .un])=_
 rw [zR,zf e0,zf e1]
 rfl
theorem X9 {α:Type} (g:α->Nat):∀ l:List α,JD (l.map fun a=>T.int ((g a:Nat):Int))=some (l.map fun a=>((g a:Nat):Int))
 | []=>rfl
 | a :: l=>by
  show (match JD (l.map fun a=>T.int ((g a:Nat):Int)) with | some l=>some (_ :: l) | none=>none)=_
  rw [X9 g l]; rfl
theorem vh {α:Type} (g:α->Nat):∀ l:List α,(l.map fun a=>((g a:Nat):Int)).sum=(((l.map g).sum:Nat):Int)
 | []=>rfl
 | a :: l=>by rw [List.map_cons,List.sum_cons,List.map_cons,List.sum_cons,vh g l]; omega
theorem z1a {α:Type} (g:α->Nat) (l:List α):G4 (.lst (l.map fun a=>T.int ((g a:Nat):Int)))= .ok (.int (((l.map g).sum:Nat):Int)):=by
 unfold G4
 dsimp only
 rw [X9,← vh]
theorem uf (k:Kd) (m:Nat):((List.replicate m k).map fun k=>k.all.length)=List.replicate m k.all.length:=by rw [List.map_replicate]
theorem Xa {c:List T->R T} {t:T} {n lo hi q:Nat} (h4:lo+q<=4) (H:∀ m,m<=3->c [.lst (List.replicate m t)]= .ok (.int ((n ^ m:Nat):Int))):
  zu (Z7 c (en0 2 [mt t lo hi, .int ((lo+q:Nat):Int)]))= .ok (.int ((shr n lo q:Nat):Int)):=by
 show zu (Z7 c [.vl (mt t lo hi), .vl (.int ((lo+q:Nat):Int))])=_
 have er:uZ (zg ixT (vE 0) (cE (.int 2))) (vE 1) [.vl (mt t lo hi), .vl (.int ((lo+q:Nat):Int))]= .ok (rng (lo:Int) q):=by
  rw [Qh (i:=(lo:Int)) (j:=((lo+q:Nat):Int)) rfl rfl ⟨by omega,by omega,by omega,by omega⟩]
  congr 2; omega
 have ec:zG (zD 0) ZI (zc 1 c (z9 (zg ZE (w8 (z9 (zg ixT (vE 1) (cE (.int 1))) (zj))) (vE 0)) (zj))) 1 [0] [.vl (mt t lo hi), .vl (.int ((lo+q:Nat):Int))] (rng (lo:Int) q)= .ok ((rng (lo:Int) q).map fun x=>match x with | .int i=>T.int ((n ^ i.toNat:Nat):Int) | y=>y):=
  ZQ _ (by unfold rng; rw [List.length_map,List.length_range]; have:bnd=16777216:=rfl; omega) fun x hx=>by
   unfold rng at hx
   obtain ⟨i,hi',rfl⟩:=List.mem_map.mp hx
   have hi2:=List.mem_range.mp hi'
   show zc 1 c _ [.vl (.int ((lo:Int)+(i:Int))), .vl (mt t lo hi)]=_
   have e1:zg ZE (w8 (z9 (zg ixT (vE 1) (cE (.int 1))) (zj))) (vE 0) [.vl (.int ((lo:Int)+(i:Int))), .vl (mt t lo hi)]= .ok (.lst (List.replicate (lo+i) t)):=by
    have e0:zg ixT (vE 1) (cE (.int 1)) [.vl (.int ((lo:Int)+(i:Int))), .vl (mt t lo hi)]= .ok t:=rfl
    rw [zy,Gn e0,bOk,v0,bOk,show (lo:Int)+(i:Int)=((lo+i:Nat):Int) by omega,xW (by omega),Uh]
   rw [Z8,e1,bOk,H (lo+i) (by omega)]
   show _=R.ok (T.int ((n ^ ((lo:Int)+(i:Int)).toNat:Nat):Int))
   rw [show ((lo:Int)+(i:Int)).toNat=lo+i by omega]
 rw [Z7,zw (t:= .int ((shr n lo q:Nat):Int))]
 ·rfl
 ·show ap1 _ _ [.vl (mt t lo hi), .vl (.int ((lo+q:Nat):Int))]=_
  rw [wt,Z4,er,bOk,ec,bOk,bOk]
  have e2:((rng (lo:Int) q).map fun x=>match x with | .int i=>T.int ((n ^ i.toNat:Nat):Int) | y=>y)=(List.range q).map fun i=>T.int ((n ^ (lo+i):Nat):Int):=by
   unfold rng
   rw [List.map_map]
   refine List.map_congr_left fun i _=> ?_
   show T.int ((n ^ ((lo:Int)+(i:Int)).toNat:Nat):Int)=_
   rw [show ((lo:Int)+(i:Int)).toNat=lo+i by omega]
  rw [e2,z1a (fun i=>n ^ (lo+i))]
  rfl
theorem Kx {d n m:Nat} (h:n<=mx d) (hd:d<=2) (hm:m<=3):n ^ m < 2 ^ 60:=by
 have h2:mx d<=70644:=by
  have:d=0\/d=1\/d=2:=by omega
  rcases this with rfl | rfl | rfl <;> decide
 have h3:n ^ m<=70644 ^ 3:=Nat.le_trans (Nat.pow_le_pow_left (Nat.le_trans h h2) m) (Nat.pow_le_pow_right (by omega) hm)
 have:70644 ^ 3 < 2 ^ 60:=by decide
 omega
theorem vi:∀ (d n:Nat),3*d<=n->d<=3->∀ k:Kd,k.Ok d->zz n 0 [k.t]= .ok (.int (k.all.length:Int))
 | 0,_,_,_,_,h=>h.elim
 | d+1,n+3,hn,hd,k,h=>by
  have ih:=vi d n (by omega) (by omega)
  have ih1:=vi d (n+1) (by omega) (by omega)
  have e:zz (n+3) 0 [k.t]=zu (Wh (zz (n+2) 1) (zz (n+2) 2) [.vl k.t]):=rfl
  have e1:∀ s,zz (n+2) 1 [s]=zu (zR (zz (n+1) 0) (en0 3 [s])):=fun s=>rfl
  have e1' :∀ s,zz (n+1) 1 [s]=zu (zR (zz n 0) (en0 3 [s])):=fun s=>rfl
  have e2:∀ s u,zz (n+2) 2 [s,u]=zu (Z7 (zz (n+1) 1) (en0 2 [s,u])):=fun s u=>rfl
  rw [e,Wh]
  cases k with
  | whole lo hi=>
   obtain ⟨h1,h2,h3⟩:=h
   rw [wV]
   simp only [Kd.t]
   rw [zP (t:= .int ((hi+1 - lo).toNat:Int))]
   ·rfl
   ·rw [wv (by rw [cs0,beq_self_eq_true]),zw]
    show R.ok (T.int (hi - lo+1))=_
    congr 2; omega
  | pick cs=>
   rw [Y7]
   simp only [Kd.t]
   rw [zf (zv (by rw [cs0]; rfl)),zP (t:= .int (cs.length:Int))]
   ·rfl
   ·rw [wv (by rw [cs0,beq_self_eq_true]),zw]
    show R.ok (T.int ((cs.map uN).length:Int))=_
    rw [List.length_map]
  | row ks=>
   obtain ⟨h1,h2,h3⟩:=h
   rw [ui]
   simp only [Kd.t]
   rw [Kd.ts_map,zf (zv (by rw [cs0]; rfl)),zf (zv (by rw [cs0]; rfl)),zP (t:= .int ((prd (ks.map fun k=>k.all.length):Nat):Int))]
   ·rfl
   ·rw [wv (by rw [cs0,beq_self_eq_true]),zw]
    show zc 1 _ _ [.vl (.tup [.str "row", .tup (ks.map Kd.t)])]=_
    rw [Z8,U2,bOk,e1]
    have hl:=Wq (d+1) (.row ks) ⟨h1,h2,h3⟩
    rw [ui] at hl
    exact UK ks rfl (fun k hk=>⟨ih1 k (h3 k hk),JU d k (h3 k hk)⟩) (z15 hl hd)
  | many k lo hi=>
   obtain ⟨h1,h2,h3⟩:=h
   rw [Wk,Kw]
   simp only [Kd.t]
   rw [zf (zv (by rw [cs0]; rfl)),zf (zv (by rw [cs0]; rfl)),zf (zv (by rw [cs0]; rfl)),zw (t:= .int ((shr k.all.length lo (hi+1 - lo):Nat):Int))]
   ·rfl
   ·show zc 2 _ _ [.vl (mt k.t lo hi)]=_
    rw [ZJ,v0,bOk,xU z13,bOk,e2,show (hi:Int)+1=((lo+(hi+1 - lo):Nat):Int) by omega]
    refine Xa (by omega) fun m hm=> ?_
    have hp:prd ((List.replicate m k).map fun k=>k.all.length)=k.all.length ^ m:=by rw [uf,wU]
    rw [e1',← hp]
    have hd1:1<=d:=by
     cases d with
     | zero=>exact h3.elim
     | succ d=>omega
    refine UK (List.replicate m k) (by rw [List.map_replicate]; rfl) (fun k' hk' => ?_) (by rw [hp]; exact Kx (Wq d k h3) (by omega) hm)
    rw [List.eq_of_mem_replicate hk']
    exact ⟨ih k h3,JU d k h3⟩
end G
namespace G
open PySem L2 PV
theorem Yb {d:Nat} (hd:d<=3) {k:Kd} (h:k.Ok d):je 20 [k.t]= .ok (.int (k.all.length:Int)):=vi d 20 (by omega) hd k h
theorem vj {d:Nat} (hd:d<=2) {k:Kd} (h:k.Ok d) {lo hi q:Nat} (h4:lo+q<=4):Z0 20 [mt k.t lo hi, .int ((lo+q:Nat):Int)]= .ok (.int ((shr k.all.length lo q:Nat):Int)):=by
 have e:Z0 20 [mt k.t lo hi, .int ((lo+q:Nat):Int)]=zu (Z7 (zz 19 1) (en0 2 [mt k.t lo hi, .int ((lo+q:Nat):Int)])):=rfl
 rw [e]
 refine Xa h4 fun m hm=> ?_
 have hp:prd ((List.replicate m k).map fun k=>k.all.length)=k.all.length ^ m:=by rw [uf,wU]
 have e1:∀ s,zz 19 1 [s]=zu (zR (zz 18 0) (en0 3 [s])):=fun s=>rfl
 rw [e1,← hp]
 refine UK (List.replicate m k) (by rw [List.map_replicate]; rfl) (fun k' hk' => ?_) (by rw [hp]; exact Kx (Wq d k h) hd hm)
 rw [List.eq_of_mem_replicate hk']
 exact ⟨vi d 18 (by omega) (by omega) k h,JU d k h⟩
noncomputable abbrev paB (cc cw:List T->R T):En->RS:=zI (Zf 5 (zc 1 cc (z9 (vE 4) (zj))))
  (zI (kj 2 (zc 2 cw (z9 (vE 4) (z9 (zg Wo (vE 3) (vE 5)) (zj)))))
  (Zf 3 (zg Us (vE 3) (vE 5))))
structure AtOk (cc cw:List T->R T) (k:Kd):Prop where
 cnt:cc [k.t]= .ok (.int (k.all.length:Int))
 at_:∀ (i:Nat) x,k.all[i]? =some x->cw [k.t, .int (i:Int)]= .ok x
 pos:1<=k.all.length
 le:k.all.length < 1000000
theorem v5' {t:T} {a b c d e:Sl} {ρ:En}:vE 5 (a :: b :: c :: d :: e :: .vl t :: ρ)= .ok t:=rfl
theorem Ky {n c:Nat} (h:1<=c):Wo (.int (n:Int)) (.int (c:Int))= .ok (.int ((n % c:Nat):Int)):=by
 unfold Wo; dsimp only; rw [if_pos (by omega)]; rfl
theorem Gu {n c:Nat} (h:1<=c) (h' :c < 1000000):Us (.int (n:Int)) (.int (c:Int))= .ok (.int ((n / c:Nat):Int)):=by
 unfold Us; dsimp only; rw [if_pos (by omega)]; rfl
theorem z1b {i:Nat} {f:En->R T} {ρ:En} {ts:List T} {t:T} (hi:ρ[i]? =some (.ow ts)) (hl:ts.length < bnd) (h:f ρ= .ok t):kj i f ρ= .nx (ρ.set i (.ow (ts++[t]))):=by
 unfold kj; rw [hi]; dsimp only; rw [h,Ja,if_pos hl]
theorem Xb {cc cw:List T->R T} {S N:Sl}:∀ (rs:List Kd) (acc:List T) (n:Nat) (x y:Sl),(∀ k∈rs,AtOk cc cw k)->n < prd (rs.map fun k=>k.all.length)->acc.length+rs.length<=1000->
  ∃ xs r x' y',(Je [[]] (rs.reverse.map Kd.all))[n]? =some xs/\JA (zD 4) (paB cc cw) (rs.map Kd.t) [S,N, .ow acc, .vl (.int (n:Int)),x,y]= .nx [S,N, .ow (acc++xs.reverse),r,x',y']
 | [],acc,n,x,y,_,hn,_=>⟨[], .vl (.int (n:Int)),x,y,by
   have:n=0:=by simp [prd] at hn; exact hn
   subst this; rfl,by simp [JA]⟩
 | k :: rs,acc,n,x,y,H,hn,hl=>by
  obtain ⟨hc,hw,h1,hle⟩:=H k List.mem_cons_self
  rw [List.map_cons,prd] at hn
  rw [List.length_cons] at hl
  have hb:bnd=16777216:=rfl
  have hmod:n % k.all.length < k.all.length:=Nat.mod_lt _ h1
  obtain ⟨v,hv⟩:=vg hmod
  have hdiv:n / k.all.length < prd (rs.map fun k=>k.all.length):=Nat.div_lt_of_lt_mul hn
  obtain ⟨xs,r,x',y',e1,e2⟩:=Xb (cc:=cc) (cw:=cw) (S:=S) (N:=N) rs (acc++[v]) (n / k.all.length) (.vl k.t) (.vl (.int (k.all.length:Int))) (fun k' hk' =>H k' (List.mem_cons_of_mem _ hk')) hdiv (by rw [List.length_append,List.length_singleton]; omega)
  have b1:Zf 5 (zc 1 cc (z9 (vE 4) (zj))) [S,N, .ow acc, .vl (.int (n:Int)), .vl k.t,y]= .nx [S,N, .ow acc, .vl (.int (n:Int)), .vl k.t, .vl (.int (k.all.length:Int))]:=by
   rw [Zk (t:= .int (k.all.length:Int))]
   ·rfl
   ·rw [Z8,v4,bOk,hc]
  have b2:kj 2 (zc 2 cw (z9 (vE 4) (z9 (zg Wo (vE 3) (vE 5)) (zj)))) [S,N, .ow acc, .vl (.int (n:Int)), .vl k.t, .vl (.int (k.all.length:Int))]= .nx [S,N, .ow (acc++[v]), .vl (.int (n:Int)), .vl k.t, .vl (.int (k.all.length:Int))]:=by
   rw [z1b (ts:=acc) (t:=v) rfl (by omega)]
   ·rfl
   ·rw [ZJ,v4,bOk,zy,v3,bOk,v5',bOk,Ky h1,bOk,hw _ v hv]
  have b3:Zf 3 (zg Us (vE 3) (vE 5)) [S,N, .ow (acc++[v]), .vl (.int (n:Int)), .vl k.t, .vl (.int (k.all.length:Int))]= .nx [S,N, .ow (acc++[v]), .vl (.int ((n / k.all.length:Nat):Int)), .vl k.t, .vl (.int (k.all.length:Int))]:=by
   rw [Zk (t:= .int ((n / k.all.length:Nat):Int))]
   ·rfl
   ·rw [zy,v3,bOk,v5',bOk,Gu h1 hle]
  have eb:paB cc cw [S,N, .ow acc, .vl (.int (n:Int)), .vl k.t,y]= .nx [S,N, .ow (acc++[v]), .vl (.int ((n / k.all.length:Nat):Int)), .vl k.t, .vl (.int (k.all.length:Int))]:=by
   rw [paB,zf b1,zf b2,b3]
  refine ⟨xs++[v],r,x',y', ?_, ?_⟩
  ·have:=kT e1 hv
   rw [Nat.mul_comm,Nat.div_add_mod] at this
   rw [List.reverse_cons,List.map_append]
   exact this
  ·rw [List.map_cons,WZ (ρ1:=[S,N, .ow acc, .vl (.int (n:Int)), .vl k.t,y]) rfl eb,e2,List.reverse_append]
   simp
theorem Xc:∀ ns:List Nat,prd ns.reverse=prd ns
 | []=>rfl
 | n :: ns=>by rw [List.reverse_cons,vf,Xc ns,prd,Nat.mul_comm]
theorem UL {cc cw:List T->R T} {s:T} (ks:List Kd) (hs:Y0 s= .ok (ks.map Kd.t)) (hl:ks.length<=3) (H:∀ k∈ks,AtOk cc cw k) {n:Nat} {xs:List T} (hx:(Je [[]] (ks.map Kd.all))[n]? =some xs):
  zu (jF cc cw (en0 6 [s, .int (n:Int)]))= .ok (.tup xs):=by
 have hn:=(List.getElem?_eq_some_iff.mp hx).1
 rw [yE,List.map_map] at hn
 have hr:(ks.reverse.map fun k=>k.all.length)=(ks.map fun k=>k.all.length).reverse:=by rw [List.map_reverse]
 obtain ⟨ys,r,x',y',e1,e2⟩:=Xb (cc:=cc) (cw:=cw) (S:= .vl s) (N:= .vl (.int (n:Int))) ks.reverse [] n .un .un (fun k hk=>H k (List.mem_reverse.mp hk)) (by rw [hr,Xc]; exact hn) (by rw [List.length_reverse,List.length_nil]; omega)
 rw [List.reverse_reverse,hx] at e1
 cases e1
 rw [List.nil_append] at e2
 have e0:Vs 2 (zj) [.vl s, .vl (.int (n:Int)), .un, .un, .un, .un]= .nx [.vl s, .vl (.int (n:Int)), .ow [], .un, .un, .un]:=rfl
 have e3:Zf 3 (vE 1) [.vl s, .vl (.int (n:Int)), .ow [], .un, .un, .un]= .nx [.vl s, .vl (.int (n:Int)), .ow [], .vl (.int (n:Int)), .un, .un]:=rfl
 have e4:Wc (z2g (vE 0)) (zD 4) (paB cc cw) [.vl s, .vl (.int (n:Int)), .ow [], .vl (.int (n:Int)), .un, .un]= .nx [.vl s, .vl (.int (n:Int)), .ow xs.reverse,r,x',y']:=by
  show (((Y0 s).bind fun xs=>R.ok xs.reverse).s fun ts=>JA (zD 4) (paB cc cw) ts [.vl s, .vl (.int (n:Int)), .ow [], .vl (.int (n:Int)), .un, .un])=_
  rw [hs,bOk,Ja,← List.map_reverse]
  exact e2
 have hlen:xs.reverse.length<=bnd:=by
  have:∀ (ls made:List (List T)) (m:Nat),(∀ a∈made,a.length<=m)->∀ a∈Je made ls,a.length<=m+ls.length:=by
   intro ls
   induction ls with
   | nil=>intro made m h a ha; exact h a ha
   | cons l ls ih=>
    intro made m h a ha
    have:=ih (made.flatMap fun a=>l.map fun x=>a++[x]) (m+1) (fun b hb=>by
     obtain ⟨c,hc,hb⟩:=List.mem_flatMap.mp hb
     obtain ⟨z,_,rfl⟩:=List.mem_map.mp hb
     have:=h c hc
     rw [List.length_append,List.length_singleton]; omega) a ha
    rw [List.length_cons]; omega
  have h1:=this (ks.map Kd.all) [[]] 0 (fun a ha=>by rw [List.mem_singleton.mp ha]; exact Nat.le_refl _) xs (List.mem_of_getElem? hx)
  rw [List.length_map] at h1
  rw [List.length_reverse]
  have hb:bnd=16777216:=rfl
  omega
 show zu (jF cc cw [.vl s, .vl (.int (n:Int)), .un, .un, .un, .un])=_
 rw [jF,zf e0,zf e3,zf e4,zw (t:= .tup xs)]
 ·rfl
 ·show kD (.lst xs.reverse)=_
  unfold kD
  dsimp only
  rw [if_pos hlen,List.reverse_reverse]
noncomputable abbrev mtT:En->R Bool:=zK leC (zc 2 (Z0 20) (z9 (vE 0) (z9 (zg zL (vE 2) (cE (.int 1))) (zj)))) (vB 1)
noncomputable abbrev mtB:En->RS:=Zf 2 (zg zL (vE 2) (cE (.int 1)))
theorem w1n {t:T} {a:Sl} {ρ:En}:vB 1 (a :: .vl t :: ρ)= .ok t:=rfl
theorem Xd {d:Nat} (hd:d<=2) {k:Kd} (h:k.Ok d) {lo hi n:Nat} (h1:lo<=hi) (h3:hi<=3) (hn:n < shr k.all.length lo (hi+1 - lo)):∀ (f q:Nat),q<=hi - lo->hi - lo - q < f->shr k.all.length lo q<=n->
  ∃ q',q' <=hi - lo/\shr k.all.length lo q' <=n/\n < shr k.all.length lo (q' +1)/\wb mtT mtB f [.vl (mt k.t lo hi), .vl (.int (n:Int)), .vl (.int ((lo+q:Nat):Int))]= .nx [.vl (mt k.t lo hi), .vl (.int (n:Int)), .vl (.int ((lo+q' :Nat):Int))]
 | 0,q,_,hf,_=>by omega
 | f+1,q,hq,hf,hs=>by
  have et:mtT [.vl (mt k.t lo hi), .vl (.int (n:Int)), .vl (.int ((lo+q:Nat):Int))]= .ok (decide (shr k.all.length lo (q+1)<=n)):=by
   rw [mtT,Z3,ZJ,v0,bOk,xU v2,bOk,show ((lo+q:Nat):Int)+1=((lo+(q+1):Nat):Int) by omega,vj hd h (by omega),bOk,w1n,bOk,qd,yC]
  have eu:wb mtT mtB (f+1) [.vl (mt k.t lo hi), .vl (.int (n:Int)), .vl (.int ((lo+q:Nat):Int))]=(mtT [.vl (mt k.t lo hi), .vl (.int (n:Int)), .vl (.int ((lo+q:Nat):Int))]).s fun k' =>if k' =true then match mtB [.vl (mt k.t lo hi), .vl (.int (n:Int)), .vl (.int ((lo+q:Nat):Int))] with
    | .nx ρ2=>wb mtT mtB f ρ2
    | .ct ρ2=>wb mtT mtB f ρ2
    | .bk ρ2=> .nx ρ2
    | r=>r
   else .nx [.vl (mt k.t lo hi), .vl (.int (n:Int)), .vl (.int ((lo+q:Nat):Int))]:=rfl
  rw [eu,et,Ja]
  by_cases hc:shr k.all.length lo (q+1)<=n
  ·rw [if_pos (decide_eq_true hc)]
   have hq2:q+1<=hi - lo:=by
    rcases Nat.lt_or_ge q (hi - lo) with z | z
    ·exact z
    ·have:q=hi - lo:=by omega
     rw [this,show hi - lo+1=hi+1 - lo by omega] at hc
     omega
   have eb:mtB [.vl (mt k.t lo hi), .vl (.int (n:Int)), .vl (.int ((lo+q:Nat):Int))]= .nx [.vl (mt k.t lo hi), .vl (.int (n:Int)), .vl (.int ((lo+(q+1):Nat):Int))]:=by
    rw [mtB,Zk (t:= .int ((lo+(q+1):Nat):Int))]
    ·rfl
    ·rw [xU v2,show ((lo+q:Nat):Int)+1=((lo+(q+1):Nat):Int) by omega]
   rw [eb]
   exact Xd hd h h1 h3 hn f (q+1) hq2 (by omega) hc
  ·rw [if_neg (by simpa using hc)]
   exact ⟨q,hq,hs,by omega,rfl⟩
end G
namespace G
open PySem L2 PV
theorem z1c {i j:Nat} (h:j<=i):Ub (.int (i:Int)) (.int (j:Int))= .ok (.int ((i - j:Nat):Int)):=by
 rw [jT]; congr 2; omega
theorem vX {d:Nat} (hd:d<=2) {k:Kd} (h:k.Ok d) {cp:List T->R T} {lo hi n:Nat} (h1:lo<=hi) (h3:hi<=3) (hn:n < shr k.all.length lo (hi+1 - lo))
  (H:∀ (m:Nat),m<=3->∀ (j:Nat) (xs:List T),(Je [[]] (List.replicate m k.all))[j]? =some xs->cp [.lst (List.replicate m k.t), .int (j:Int)]= .ok (.tup xs)):
  ∃ x,(Kd.many k lo hi).all[n]? =some x/\zu (wd (Z0 20) cp (en0 3 [mt k.t lo hi, .int (n:Int)]))= .ok x:=by
 obtain ⟨q,hq,hs,hs',e⟩:=Xd hd h h1 h3 hn 8 0 (by omega) (by omega) (by unfold shr; simp)
 rw [kU] at hs'
 have hj:n - shr k.all.length lo q < (Je [[]] (List.replicate (lo+q) k.all)).length:=by
  rw [yE,List.map_replicate,wU]; omega
 obtain ⟨xs,hx⟩:=vg hj
 have ha:=Gs (k:=k) (lo:=lo) (hi:=hi) (by omega) hx
 rw [show shr k.all.length lo q+(n - shr k.all.length lo q)=n by omega] at ha
 refine ⟨_,ha, ?_⟩
 have e0:Zf 2 (zg ixT (vE 0) (cE (.int 2))) [.vl (mt k.t lo hi), .vl (.int (n:Int)), .un]= .nx [.vl (mt k.t lo hi), .vl (.int (n:Int)), .vl (.int ((lo+0:Nat):Int))]:=rfl
 show zu (wd (Z0 20) cp [.vl (mt k.t lo hi), .vl (.int (n:Int)), .un])=_
 rw [wd,zf e0,zf e,zw (t:= .tup xs)]
 ·rfl
 ·show zc 2 cp _ [.vl (mt k.t lo hi), .vl (.int (n:Int)), .vl (.int ((lo+q:Nat):Int))]=_
  have em:zg ZE (w8 (z9 (zg ixT (vE 0) (cE (.int 1))) (zj))) (vE 2) [.vl (mt k.t lo hi), .vl (.int (n:Int)), .vl (.int ((lo+q:Nat):Int))]= .ok (.lst (List.replicate (lo+q) k.t)):=by
   rw [zy,Gn U2,bOk,v2,bOk,xW (by omega),Uh]
  rw [ZJ,em,bOk,zy,v1,bOk,ZJ,v0,bOk,v2,bOk,vj hd h (by omega),bOk,z1c hs,bOk,H (lo+q) (by omega) _ xs hx]
theorem Xe {d:Nat} (hd:d<=2) {k:Kd} (h:k.Ok d):k.all.length < 1000000:=by
 have h1:=Wq d k h
 have h2:mx d<=70644:=by
  have:d=0\/d=1\/d=2:=by omega
  rcases this with rfl | rfl | rfl <;> decide
 omega
theorem Wy:∀ (d n:Nat),3*d<=n->d<=3->∀ k:Kd,k.Ok d->∀ (i:Nat) (x:T),k.all[i]? =some x->zA n 0 [k.t, .int (i:Int)]= .ok x
 | 0,_,_,_,_,h=>h.elim
 | d+1,n+3,hn,hd,k,h=>by
  intro i x hx
  have ih:=Wy d n (by omega) (by omega)
  have ih1:=Wy d (n+1) (by omega) (by omega)
  have e:zA (n+3) 0 [k.t, .int (i:Int)]=zu (Wi ZP (zA (n+2) 1) (zA (n+2) 2) (en2 k.t (.int (i:Int)))):=rfl
  have e2:∀ s u,zA (n+2) 2 [s,u]=zu (jF (je 20) (zA (n+1) 0) (en0 6 [s,u])):=fun s u=>rfl
  have e2' :∀ s u,zA (n+1) 2 [s,u]=zu (jF (je 20) (zA n 0) (en0 6 [s,u])):=fun s u=>rfl
  have e1:∀ s u,zA (n+2) 1 [s,u]=zu (wd (Z0 20) (zA (n+1) 2) (en0 3 [s,u])):=fun s u=>rfl
  have hi' :=(List.getElem?_eq_some_iff.mp hx).1
  rw [e,Wi]
  cases k with
  | whole lo hi=>
   rw [Kd.all,List.getElem?_map] at hx
   rw [wV] at hi'
   rw [List.getElem?_range hi'] at hx
   cases hx
   simp only [Kd.t]
   rw [zP (t:= .int (lo+(i:Int)))]
   ·rfl
   ·rw [z2r,zw]; rfl
  | pick cs=>
   have hw:=kS cs h.2.1
   rw [Kd.all] at hx
   simp only [Kd.t] at hw ⊢
   rw [zf (GI (by decide)),zP (t:=x)]
   ·rfl
   ·rw [z2r,zw]
    show zg ixT _ _ (en2 _ _)=_
    rw [zy,Z8,v0,bOk,hw,bOk,v1,bOk]
    exact z19 hx
  | row ks=>
   obtain ⟨h1,h2,h3⟩:=h
   rw [Kd.all,Kd.alls_map,List.getElem?_map] at hx
   cases hr:(Je [[]] (ks.map Kd.all))[i]? with
   | none=>rw [hr] at hx; cases hx
   | some xs=>
    rw [hr] at hx
    cases hx
    simp only [Kd.t]
    rw [Kd.ts_map,zf (GI (by decide)),zf (GI (by decide)),zP (t:= .tup xs)]
    ·rfl
    ·rw [z2r,zw]
     show zc 2 _ _ (en2 _ _)=_
     rw [ZJ,U2,bOk,v1,bOk,e2]
     refine UL ks rfl h2 (fun k hk=>⟨Yb (by omega) (h3 k hk),ih1 k (h3 k hk),JU d k (h3 k hk),Xe (by omega) (h3 k hk)⟩) hr
  | many k lo hi=>
   obtain ⟨h1,h2,h3⟩:=h
   rw [Wk,Kw] at hi'
   obtain ⟨x',hx',hv⟩:=vX (cp:=zA (n+1) 2) (by omega:d<=2) h3 h1 h2 hi' (fun m hm j xs hr=>by
    rw [e2']
    refine UL (List.replicate m k) (by rw [List.map_replicate]; rfl) (by rw [List.length_replicate]; exact hm) (fun k' hk' => ?_) (by rw [List.map_replicate]; exact hr)
    rw [List.eq_of_mem_replicate hk']
    exact ⟨Yb (by omega) h3,ih k h3,JU d k h3,Xe (by omega) h3⟩)
   rw [hx] at hx'
   cases hx'
   simp only [Kd.t]
   rw [zf (GI (by decide)),zf (GI (by decide)),zf (GI (by decide)),zw (t:=x)]
   ·rfl
   ·show zc 2 _ _ (en2 _ _)=_
    rw [ZJ,v0,bOk,v1,bOk,e1]
    exact hv
theorem z1d {k:Kd} (h:k.Ok 3) {i:Nat} {x:T} (hx:k.all[i]? =some x):Jj 20 [k.t, .int (i:Int)]= .ok x:=Wy 3 20 (by omega) (by omega) k h i x hx
end G
namespace G
open PySem L2 PV
end G
namespace G
open PySem L2 PV
end G
namespace G
open PySem L2 PV
noncomputable def Pl:Nat->T->Prop
 | 0,_=>False
 | n+1, .tup xs=>∀ x∈xs,Pl n x
 | n+1, .lst xs=>∀ x∈xs,Pl n x
 | _+1, .fz _=>False
 | _+1,_=>True
theorem Ui {f:T->T->Option Bool}:∀ (xs ys:List T),(∀ x∈xs,∀ y,∃ b,f x y=some b)->∃ b,eqL f xs ys=some b
 | [],[],_=>⟨_,rfl⟩
 | [],_ :: _,_=>⟨_,rfl⟩
 | _ :: _,[],_=>⟨_,rfl⟩
 | x :: xs,y :: ys,h=>by
  obtain ⟨b,hb⟩:=h x List.mem_cons_self y
  obtain ⟨c,hc⟩:=Ui xs ys fun z hz=>h z (List.mem_cons_of_mem _ hz)
  exact ⟨b && c,by unfold eqL; rw [hb,hc]⟩
theorem jJ {f:T->T->Option Bool}:∀ (xs:List T),(∀ x∈xs,f x x=some true)->eqL f xs xs=some true
 | [],_=>rfl
 | x :: xs,h=>by
  unfold eqL
  rw [h x List.mem_cons_self,jJ xs fun z hz=>h z (List.mem_cons_of_mem _ hz)]
  rfl
theorem Uj:∀ (n:Nat) (y x:T),Pl n y->∃ b,eqF n y x=some b
 | 0,_,_,h=>h.elim
 | n+1,y,x,h=>by
  cases y with
  | tup xs=>
   have h:∀ x∈xs,Pl n x:=h
   cases x with
   | tup ys=>rw [eqF]; exact Ui xs ys fun z hz u=>Uj n z u (h z hz)
   | _=>exact ⟨false,by rw [eqF] <;> intros <;> first | rfl | contradiction | (intro z; cases z)⟩
  | lst xs=>
   have h:∀ x∈xs,Pl n x:=h
   cases x with
   | lst ys=>rw [eqF]; exact Ui xs ys fun z hz u=>Uj n z u (h z hz)
   | fz ys=>rw [eqF]; exact Ui xs ys fun z hz u=>Uj n z u (h z hz)
   | _=>exact ⟨false,by rw [eqF] <;> intros <;> first | rfl | contradiction | (intro z; cases z)⟩
  | fz xs=>exact h.elim
  | non=>cases x <;> exact ⟨_,rfl⟩
  | bl b=>cases x <;> exact ⟨_,rfl⟩
  | int i=>cases x <;> exact ⟨_,rfl⟩
  | str i=>cases x <;> exact ⟨_,rfl⟩
theorem jp:∀ (n:Nat) (y:T),Pl n y->eqF n y y=some true
 | 0,_,h=>h.elim
 | n+1,y,h=>by
  cases y with
  | tup xs=>rw [eqF]; exact jJ xs fun z hz=>jp n z ((show ∀ x∈xs,Pl n x from h) z hz)
  | lst xs=>rw [eqF]; exact jJ xs fun z hz=>jp n z ((show ∀ x∈xs,Pl n x from h) z hz)
  | fz xs=>exact h.elim
  | non=>rfl
  | bl b=>show some (b == b)=_; simp
  | int i=>show some (i == i)=_; simp
  | str i=>show some (i == i)=_; simp
theorem Pl.up:∀ (n:Nat) (y:T),Pl n y->Pl (n+1) y
 | 0,_,h=>h.elim
 | n+1,y,h=>by
  cases y with
  | tup xs=>exact fun z hz=>Pl.up n z ((show ∀ x∈xs,Pl n x from h) z hz)
  | lst xs=>exact fun z hz=>Pl.up n z ((show ∀ x∈xs,Pl n x from h) z hz)
  | fz xs=>exact h.elim
  | _=>exact trivial
theorem Pl.le {n m:Nat} {y:T} (hm:n<=m) (h:Pl n y):Pl m y:=by
 obtain ⟨j,rfl⟩:∃ j,m=n+j:=⟨m - n,by omega⟩
 clear hm
 induction j with
 | zero=>exact h
 | succ j ih=>exact Pl.up _ _ ih
theorem qr {f:T->Option Bool}:∀ (ts:List T),(∀ t∈ts,∃ b,f t=some b)->∃ b,ya f ts=some b/\(b=false->∀ t∈ts,f t=some false)
 | [],_=>⟨false,rfl,fun _ _ h=>nomatch h⟩
 | t :: ts,h=>by
  obtain ⟨b,hb⟩:=h t List.mem_cons_self
  obtain ⟨c,hc,h'⟩:=qr ts fun u hu=>h u (List.mem_cons_of_mem _ hu)
  refine ⟨b || c,by unfold ya; rw [hb,hc],fun e u hu=> ?_⟩
  rw [Bool.or_eq_false_iff] at e
  rcases List.mem_cons.mp hu with rfl | hu
  ·rw [hb,e.1]
  ·exact h' e.2 u hu
theorem Gv {k:Kd} (hk:k.Ok 3):jE [k.t]= .ok .non:=by
 have hi:=X7 3 k hk
 rw [qp _ (Y6 3 _ hi).so,if_pos hi]
theorem uk {f:En->R T} {ρ:En} {t:T} (h:f ρ= .ok t):Uv f ρ= .nx ρ:=by unfold Uv; rw [h,Ja]
theorem all_map (k:Kd):((rng 0 k.all.length).map fun t=>match t with | .int i=>(k.all[i.toNat]?).getD .non | y=>y)=k.all:=by
 unfold rng
 rw [List.map_map]
 refine List.ext_getElem? fun i=> ?_
 rw [List.getElem?_map]
 by_cases hi:i < k.all.length
 ·rw [List.getElem?_range hi]
  show some ((k.all[((0:Int)+(i:Int)).toNat]?).getD .non)=_
  rw [show ((0:Int)+(i:Int)).toNat=i by omega]
  obtain ⟨x,hx⟩:=vg hi
  rw [hx]; rfl
 ·rw [List.getElem?_eq_none (by simpa using hi),List.getElem?_eq_none (by omega)]; rfl
theorem Xf {f:En->R T} {ρ:En} {j:Int} (hf:f ρ= .ok (.int j)) (h: -1000000 < j/\j < 1000000):Jz f ρ= .ok (rng 0 j.toNat):=by
 unfold Jz
 rw [hf,bOk]
 exact if_pos h
theorem Gw {i j:Int}:gtC (.int i) (.int j)= .ok (decide (j < i)):=rfl
theorem Yc {k:Kd} (hk:k.Ok 3) (h5:k.all.length<=500):JN [k.t]= .ok (.lst k.all):=by
 show zu (JM jE (je 20) (Jj 20) [.vl k.t, .un])=_
 have e1:Zf 1 (zc 1 (je 20) (z9 (vE 0) (zj))) [.vl k.t, .un]= .nx (en2 k.t (.int (k.all.length:Int))):=by
  rw [Zk (t:= .int (k.all.length:Int))]
  ·rfl
  ·rw [Z8,v0,bOk,Yb (by omega) hk]
 have e2:zK gtC (vB 1) (cE (.int 500)) (en2 k.t (.int (k.all.length:Int)))= .ok false:=by
  rw [Z3,w1,bOk,Zw,bOk,Gw,decide_eq_false (by omega)]
 have er:Jz (vE 1) (en2 k.t (.int (k.all.length:Int)))= .ok (rng 0 k.all.length):=by
  rw [Xf (j:=(k.all.length:Int)) rfl ⟨by omega,by omega⟩,Int.toNat_natCast]
 have ec:zG (zD 0) ZI (zc 2 (Jj 20) (z9 (vE 1) (z9 (vE 0) (zj)))) 1 [0] (en2 k.t (.int (k.all.length:Int))) (rng 0 k.all.length)= .ok ((rng 0 k.all.length).map fun t=>match t with | .int i=>(k.all[i.toNat]?).getD .non | y=>y):=
  ZQ _ (by unfold rng; rw [List.length_map,List.length_range]; have:bnd=16777216:=rfl; omega) fun t ht=>by
   unfold rng at ht
   obtain ⟨i,hi,rfl⟩:=List.mem_map.mp ht
   obtain ⟨x,hx⟩:=vg (List.mem_range.mp hi)
   show zc 2 _ _ (en2 (.int ((0:Int)+(i:Int))) k.t)=R.ok ((k.all[((0:Int)+(i:Int)).toNat]?).getD .non)
   rw [show ((0:Int)+(i:Int))=(i:Int) by omega,ZJ,v1,bOk,v0,bOk,z1d hk hx,Int.toNat_natCast,hx]
   rfl
 have e3:z1u (Jz (vE 1)) (zD 0) (ZI) (zc 2 (Jj 20) (z9 (vE 1) (z9 (vE 0) (zj)))) 1 [0] (en2 k.t (.int (k.all.length:Int)))= .rf k.all:=by
  show ((Jz (vE 1) (en2 k.t (.int (k.all.length:Int)))).s fun ts=>(zG _ _ _ _ _ (en2 k.t (.int (k.all.length:Int))) ts).s fun vs=>RS.rf vs)=_
  rw [er,Ja,ec,Ja,all_map]
 rw [JM,zf (uk (t:= .non) (by rw [Z8,v0,bOk,Gv hk])),zf e1,zf (zv e2),e3]
 rfl
end G
namespace G
open PySem L2 PV
inductive W:Nat->T->Prop where
 | int (d:Nat) (i:Int):W d (.int i)
 | str (d:Nat) (s:Str):W d (.str s)
 | tup {d:Nat} {xs:List T} (h:xs.length<=3) (r:∀ x∈xs,W d x):W (d+1) (.tup xs)
theorem z2s:∀ (d:Nat) (k:Kd) (x:T),k.Ok (d+1)->k.has x=true->W d x
 | d, .whole lo hi,x,_,h=>by
  cases x <;> first | exact .int _ _ | (simp [Kd.has,inR] at h)
 | d, .pick cs,x,_,h=>by
  cases x <;> first | exact .str _ _ | (simp [Kd.has] at h)
 | 0, .row ks,x,hk,h=>by
  obtain ⟨h1,h3,hk⟩:=hk
  match ks,h1,hk with
  | k :: _,_,hk=>exact (hk k List.mem_cons_self).elim
 | 0, .many k lo hi,x,hk,h=>hk.2.2.elim
 | d+1, .row ks,x,hk,h=>by
  obtain ⟨h1,h3,hk⟩:=hk
  cases x with
  | tup xs=>
   rw [Kd.has] at h
   simp only [Bool.and_eq_true,beq_iff_eq] at h
   obtain ⟨hl,hh⟩:=h
   refine .tup (by omega) fun x hx=> ?_
   obtain ⟨k,hm,hx'⟩:=vd ks xs hl hh x hx
   exact z2s d k x (hk k hm) hx'
  | _=>simp [Kd.has] at h
 | d+1, .many k lo hi,x,hk,h=>by
  obtain ⟨h1,h3,hk⟩:=hk
  cases x with
  | tup xs=>
   rw [Kd.has] at h
   simp only [Bool.and_eq_true,decide_eq_true_eq,List.all_eq_true] at h
   obtain ⟨⟨hl,hl'⟩,hh⟩:=h
   refine .tup (by omega) fun x hx=> ?_
   exact z2s d k x hk (hh x hx)
  | _=>simp [Kd.has] at h
mutual
noncomputable def lv:T->List T
 | .tup xs=>lvs xs
 | .non=>[.non]
 | .bl b=>[.bl b]
 | .int b=>[.int b]
 | .str b=>[.str b]
 | .lst b=>[.lst b]
 | .fz b=>[.fz b]
noncomputable def lvs:List T->List T
 | []=>[]
 | x :: xs=>lv x++lvs xs
end
theorem vk (xs:List T):lv (.tup xs)=lvs xs:=by rw [lv]
theorem vm (i:Int):lv (.int i)=[.int i]:=by rw [lv]
theorem vn (i:Str):lv (.str i)=[.str i]:=by rw [lv]
theorem Uk (x:T) (xs:List T):lvs (x :: xs)=lv x++lvs xs:=by rw [lvs]
theorem Yd:lvs []=[]:=by rw [lvs]
theorem Xg {n:Nat}:∀ xs:List T,(∀ x∈xs,(lv x).length<=n)->(lvs xs).length<=xs.length*n
 | [],_=>by rw [Yd]; exact Nat.zero_le _
 | x :: xs,h=>by
  rw [Uk,List.length_append,List.length_cons,Nat.succ_mul]
  have h1:=h x List.mem_cons_self
  have h2:=Xg xs fun y hy=>h y (List.mem_cons_of_mem _ hy)
  omega
theorem pow3 (d:Nat):1<=3 ^ d:=Nat.one_le_pow _ _ (by omega)
theorem Xh {d:Nat} {x:T} (h:W d x):(lv x).length<=3 ^ d:=by
 induction h with
 | int d i=>rw [vm]; exact pow3 d
 | str d i=>rw [vn]; exact pow3 d
 | @tup d xs h r ih=>
  rw [vk]
  have:=Xg (n:=3 ^ d) xs ih
  have h3:=Nat.mul_le_mul_right (3 ^ d) h
  rw [Nat.pow_succ]
  omega
inductive Lf:T->Prop where
 | int (i:Int):Lf (.int i)
 | str (i:Str):Lf (.str i)
theorem Kz:∀ (xs:List T),(∀ x∈xs,∀ y∈lv x,Lf y)->∀ y∈lvs xs,Lf y
 | [],_,y,hy=>by rw [Yd] at hy; cases hy
 | x :: xs,h,y,hy=>by
  rw [Uk] at hy
  rcases List.mem_append.mp hy with hy | hy
  ·exact h x List.mem_cons_self y hy
  ·exact Kz xs (fun z hz=>h z (List.mem_cons_of_mem _ hz)) y hy
theorem z2t {d:Nat} {x:T} (h:W d x):∀ y∈lv x,Lf y:=by
 induction h with
 | int d i=>intro y hy; rw [vm] at hy; rw [List.mem_singleton.mp hy]; exact .int _
 | str d i=>intro y hy; rw [vn] at hy; rw [List.mem_singleton.mp hy]; exact .str _
 | @tup d xs h r ih=>intro y hy; rw [vk] at hy; exact Kz xs ih y hy
theorem z1e {i:Nat} {f:En->R T} {ρ:En} {ts us:List T} (hi:ρ[i]? =some (.ow ts)) (h:f ρ= .ok (.lst us)) (hl:ts.length+us.length<=bnd):XJ i f ρ= .nx (ρ.set i (.ow (ts++us))):=by
 unfold XJ
 rw [hi]
 dsimp only
 rw [h,Ja]
 dsimp only
 rw [if_pos hl]
noncomputable abbrev loB (c:List T->R T):En->RS:=XJ 1 (zc 1 c (z9 (vE 2) (zj)))
theorem Xi {c:List T->R T} {n:Nat} (hn:n<=1000) {a:Sl}:∀ (xs:List T) (acc:List T) (x:Sl),(∀ x∈xs,c [x]= .ok (.lst (lv x))/\(lv x).length<=n)->acc.length+xs.length*n<=1000000->
  ∃ x',JA (zD 2) (loB c) xs [a, .ow acc,x]= .nx [a, .ow (acc++lvs xs),x']
 | [],acc,x,_,_=>⟨x,by rw [Yd,List.append_nil]; rfl⟩
 | y :: xs,acc,x,H,hb=>by
  obtain ⟨e,hl⟩:=H y List.mem_cons_self
  rw [List.length_cons,Nat.succ_mul] at hb
  have hB:bnd=16777216:=rfl
  obtain ⟨x',h⟩:=Xi hn (a:=a) xs (acc++lv y) (.vl y) (fun z hz=>H z (List.mem_cons_of_mem _ hz)) (by rw [List.length_append]; omega)
  refine ⟨x', ?_⟩
  have s2:zD 2 y [a, .ow acc,x]= .ok [a, .ow acc, .vl y]:=rfl
  have b2:loB c [a, .ow acc, .vl y]= .nx [a, .ow (acc++lv y), .vl y]:=by
   have z:zc 1 c (z9 (vE 2) (zj)) [a, .ow acc, .vl y]= .ok (.lst (lv y)):=by rw [Z8,v2,bOk,e]
   exact z1e (i:=1) (ts:=acc) (us:=lv y) rfl z (by omega)
  rw [WZ s2 b2,h,Uk,List.append_assoc]
theorem yF {x:T} {r:En}:YN (wG (ap1 (yS "tuple") (vB 0))) (.vl x :: r)= .ok (!(match x with | .tup _=>true | _=>false)):=by
 rw [yz,Wp,wt,w0,bOk,xP,bOk,wT,bOk]
 all_goals (cases x <;> rfl)
theorem UM:∀ (n d:Nat),d < n->d<=3->∀ x:T,W d x->j7 n 0 [x]= .ok (.lst (lv x))
 | 0,d,h,_,_,_=>absurd h (Nat.not_lt_zero _)
 | n+1,d,h,h3,x,hx=>by
  show zu (wo (j7 n 0) [.vl x, .un, .un])=_
  rw [wo]
  cases hx with
  | int d i=>
   rw [zP (by rw [wv yF]; exact zw (Gn v0)),vm]
   rfl
  | str d i=>
   rw [zP (by rw [wv yF]; exact zw (Gn v0)),vn]
   rfl
  | @tup d xs hl r=>
   have hp:3 ^ d<=27:=Nat.pow_le_pow_right (n:=3) (by omega) (show d<=3 by omega)
   obtain ⟨x',el⟩:=Xi (c:=j7 n 0) (n:=3 ^ d) (by omega) (a:= .vl (.tup xs)) xs [] .un (fun y hy=>⟨UM n d (by omega) (by omega) y (r y hy),Xh (r y hy)⟩) (by have:=Nat.mul_le_mul hl hp; simp; omega)
   have e1:Vs 1 zj [.vl (.tup xs), .un, .un]= .nx [.vl (.tup xs), .ow [], .un]:=rfl
   have e2:Wc (Jh (vE 0)) (zD 2) (loB (j7 n 0)) [.vl (.tup xs), .ow [], .un]= .nx [.vl (.tup xs), .ow ([]++lvs xs),x']:=by
    unfold Wc
    rw [jS,v0,bOk]
    exact el
   rw [zf (zv yF),zf e1,zf e2,List.nil_append,vk]
   rfl
noncomputable abbrev llB (c:List T->R T):En->RS:=Zf 1 (zg zL (vE 1) (zc 1 c (z9 (vE 2) (zj))))
theorem z1f {xs ys:List T} (h:xs.length+ys.length<=1000000):zL (.lst xs) (.lst ys)= .ok (.lst (xs++ys)):=by
 unfold zL
 dsimp only
 rw [if_pos (by have hB:bnd=16777216:=rfl; omega)]
theorem Xj {c:List T->R T} {n:Nat} (hn:n<=1000) {a:Sl}:∀ (xs:List T) (acc:List T) (x:Sl),(∀ x∈xs,c [x]= .ok (.lst (lv x))/\(lv x).length<=n)->acc.length+xs.length*n<=1000000->
  ∃ x',JA (zD 2) (llB c) xs [a, .vl (.lst acc),x]= .nx [a, .vl (.lst (acc++lvs xs)),x']
 | [],acc,x,_,_=>⟨x,by rw [Yd,List.append_nil]; rfl⟩
 | y :: xs,acc,x,H,hb=>by
  obtain ⟨e,hl⟩:=H y List.mem_cons_self
  rw [List.length_cons,Nat.succ_mul] at hb
  obtain ⟨x',h⟩:=Xj hn (a:=a) xs (acc++lv y) (.vl y) (fun z hz=>H z (List.mem_cons_of_mem _ hz)) (by rw [List.length_append]; omega)
  refine ⟨x', ?_⟩
  have s2:zD 2 y [a, .vl (.lst acc),x]= .ok [a, .vl (.lst acc), .vl y]:=rfl
  have b2:llB c [a, .vl (.lst acc), .vl y]= .nx [a, .vl (.lst (acc++lv y)), .vl y]:=by
   have z:zg zL (vE 1) (zc 1 c (z9 (vE 2) (zj))) [a, .vl (.lst acc), .vl y]= .ok (.lst (acc++lv y)):=by rw [zy,v1,bOk,Z8,v2,bOk,e,bOk,z1f (by omega)]
   exact Zk (i:=1) z
  rw [WZ s2 b2,h,Uk,List.append_assoc]
theorem vo:∀ (n d:Nat),d < n->d<=3->∀ x:T,W d x->Zu n 0 [x]= .ok (.lst (lv x))
 | 0,d,h,_,_,_=>absurd h (Nat.not_lt_zero _)
 | n+1,d,h,h3,x,hx=>by
  show zu (Jd (Zu n 0) [.vl x, .un, .un])=_
  rw [Jd]
  cases hx with
  | int d i=>
   rw [zP (by rw [wv yF]; exact zw (Gn v0)),vm]
   rfl
  | str d i=>
   rw [zP (by rw [wv yF]; exact zw (Gn v0)),vn]
   rfl
  | @tup d xs hl r=>
   have hp:3 ^ d<=27:=Nat.pow_le_pow_right (n:=3) (by omega) (show d<=3 by omega)
   obtain ⟨x',el⟩:=Xj (c:=Zu n 0) (n:=3 ^ d) (by omega) (a:= .vl (.tup xs)) xs [] .un (fun y hy=>⟨vo n d (by omega) (by omega) y (r y hy),Xh (r y hy)⟩) (by have:=Nat.mul_le_mul hl hp; simp; omega)
   have e1:Zf 1 (w8 zj) [.vl (.tup xs), .un, .un]= .nx [.vl (.tup xs), .vl (.lst []), .un]:=rfl
   have e2:Wc (Jh (vE 0)) (zD 2) (llB (Zu n 0)) [.vl (.tup xs), .vl (.lst []), .un]= .nx [.vl (.tup xs), .vl (.lst ([]++lvs xs)),x']:=by
    unfold Wc
    rw [jS,v0,bOk]
    exact el
   rw [zf (zv yF),zf e1,zf e2,List.nil_append,vk]
   rfl
end G
namespace G
open PySem L2 PV
theorem jh {ft:En->R Bool} {p:T->Bool} {k:Nat} {js:List Nat} {ρ:En} {fe:En->R T} (ts:List T) (hl:ts.length<=bnd) (H:∀ t∈ts,ft ((qV k js ρ).set 0 (.vl t))= .ok (p t)/\fe ((qV k js ρ).set 0 (.vl t))= .ok t):zG (zD 0) ft fe k js ρ ts= .ok (ts.filter p):=by
 unfold zG
 rw [if_pos hl,wR (p:=p) (h:=id) ts _ fun t ht=>⟨(H t ht).1,fun _=>(H t ht).2⟩,List.map_id]
 rfl
noncomputable def JB:List T->List Int
 | []=>[]
 | .int i :: r=>i :: JB r
 | .non :: r=>JB r
 | .bl _ :: r=>JB r
 | .str _ :: r=>JB r
 | .tup _ :: r=>JB r
 | .lst _ :: r=>JB r
 | .fz _ :: r=>JB r
theorem UN:∀ ts:List T,ts.filter isW=(JB ts).map T.int
 | []=>rfl
 | t :: ts=>by
  have ih:=UN ts
  rw [List.filter_cons,ih]
  cases t <;> rfl
theorem Qi:∀ is:List Int,JD (is.map T.int)=some is
 | []=>rfl
 | i :: is=>by
  have e:JD ((i :: is).map T.int)=match JD (is.map T.int) with | some l=>some (i :: l) | none=>none:=rfl
  rw [e,Qi is]
theorem Ye:∀ ts:List T,(JB ts).length<=ts.length
 | []=>Nat.le_refl _
 | t :: ts=>by
  have ih:=Ye ts
  cases t <;> simp only [JB,List.length_cons] <;> omega
theorem w9 {d:Nat} {x:T} (hd:d<=2) (h:W d x):(lv x).length<=9:=Nat.le_trans (Xh h) (Nat.pow_le_pow_right (n:=3) (by omega) hd)
theorem vY {d:Nat} (hd:d<=2) {x:T} (h:W d x):JL [x]= .ok (.lst ((JB (lv x)).map T.int)):=by
 show zu (JK Zj (j8 8) [.vl x])=_
 have hl:=w9 hd h
 have ec:zG (zD 0) (wG (zc 1 Zj (z9 (vE 0) (zj)))) (vE 0) 1 [] [.vl x] (lv x)= .ok ((lv x).filter isW):=
  jh _ (by have hB:bnd=16777216:=rfl; omega) fun t _=>⟨by
   show wG _ [.vl t]=_
   rw [Wp,Z8,v0,bOk,Y3,bOk,wT],rfl⟩
 rw [JK,zw (t:= .lst ((JB (lv x)).map T.int))]
 ·rfl
 ·show Z9 _ _ _ _ _ _ [.vl x]=_
  have hv:j8 8 [x]= .ok (.lst (lv x)):=UM 8 d (by omega) (by omega) x h
  rw [Z4,jS,Z8,v0,bOk,hv,bOk]
  show ((zG _ _ _ _ _ _ (lv x)).bind _)=_
  rw [ec,bOk,UN]
noncomputable def asc (is:List Int):Bool:=(is.zip (is.drop 1)).all fun q=>decide (q.1<=q.2)
theorem Xk:∀ (qs:List (Int×Int)) (x y:Sl),Z5 (jq 0 1) ZI (jZ leC (vB 0) (vB 1)) (qs.map fun q=>T.tup [.int q.1, .int q.2]) [x,y]= .ok (qs.map fun q=>T.bl (decide (q.1<=q.2)))
 | [],_,_=>rfl
 | q :: qs,x,y=>by
  have ih:=Xk qs (.vl (.int q.1)) (.vl (.int q.2))
  have e0:Z5 (jq 0 1) ZI (jZ leC (vB 0) (vB 1)) ((q :: qs).map fun q=>T.tup [.int q.1, .int q.2]) [x,y]=
   (R.ok (T.bl (decide (q.1<=q.2)))).bind fun v=>(Z5 (jq 0 1) ZI (jZ leC (vB 0) (vB 1)) (qs.map fun q=>T.tup [.int q.1, .int q.2]) [.vl (.int q.1), .vl (.int q.2)]).bind fun vs=> .ok (v :: vs):=rfl
  rw [e0,bOk,ih,bOk,List.map_cons]
theorem Gx (xs:List T):cut xs (some ((1:Nat):Int)) none=xs.drop 1:=by
 unfold cut
 rw [HT.sIx_nat,HT.sIx_none]
 by_cases h:1<=xs.length
 ·rw [Nat.min_eq_left h,List.take_of_length_le (by rw [List.length_drop]; omega)]
 ·have:xs=[]:=List.length_eq_zero_iff.mp (by omega)
  subst this; rfl
theorem Xl (is:List Int) (hl:is.length<=100):JJ [.lst (is.map T.int)]= .ok (.bl (asc is)):=by
 show zu (JI [.vl (.lst (is.map T.int))])=_
 have hz:z2b (vE 0) (slE (vE 0) (ug (cE (.int 1))) (noO)) [.vl (.lst (is.map T.int))]= .ok ((is.zip (is.drop 1)).map fun q=>T.tup [.int q.1, .int q.2]):=by
  show R.ok (kv (is.map T.int) (cut (is.map T.int) (some ((1:Nat):Int)) none))=_
  rw [Gx,← List.map_drop]
  unfold kv
  rw [List.zip_map,List.map_map]
  rfl
 have ec:zG (jq 0 1) ZI (jZ leC (vB 0) (vB 1)) 2 [] [.vl (.lst (is.map T.int))] ((is.zip (is.drop 1)).map fun q=>T.tup [.int q.1, .int q.2])= .ok ((is.zip (is.drop 1)).map fun q=>T.bl (decide (q.1<=q.2))):=by
  unfold zG
  rw [if_pos (by rw [List.length_map,List.length_zip]; have hB:bnd=16777216:=rfl; omega)]
  show quiet (Z5 _ _ _ _ [.un, .un])=_
  rw [Xk]
  rfl
 rw [JI,zw (t:= .bl (asc is))]
 ·rfl
 ·show ap1 xb _ [.vl (.lst (is.map T.int))]=_
  rw [wt,Z4,hz,bOk,ec,bOk,bOk]
  show (match YQ _ with | some k=>R.ok (T.bl k) | none=> .bad)=_
  rw [vc (fun q:Int×Int=>decide (q.1<=q.2))]
  rfl
theorem jU (x y:Int) (r:List Int):asc (x :: y :: r)=(decide (x<=y) && asc (y :: r)):=by
 unfold asc
 rw [List.drop_succ_cons,List.drop_zero,List.zip_cons_cons,List.all_cons,List.drop_succ_cons,List.drop_zero]
theorem Xm (x:Int):∀ l:List Int,asc l=true->asc (Qa x l)=true/\∀ y,(∀ z∈l,y<=z)->y<=x->∀ z∈Qa x l,y<=z
 | [],_=>⟨rfl,fun y _ h z hz=>by rw [Qa] at hz; rw [List.mem_singleton.mp hz]; exact h⟩
 | [a],_=>by
  rw [Qa]
  split
  ·rename_i h
   exact ⟨by rw [jU,decide_eq_true h]; rfl,fun y h1 h2 z hz=>by
    rcases List.mem_cons.mp hz with rfl | hz
    ·exact h2
    ·exact h1 z hz⟩
  ·rename_i h
   rw [Qa]
   exact ⟨by rw [jU,decide_eq_true (by omega)]; rfl,fun y h1 h2 z hz=>by
    rcases List.mem_cons.mp hz with rfl | hz
    ·exact h1 _ List.mem_cons_self
    ·rw [List.mem_singleton.mp hz]; exact h2⟩
 | a :: b :: r,h=>by
  rw [jU,Bool.and_eq_true,decide_eq_true_eq] at h
  obtain ⟨ih1,ih2⟩:=Xm x (b :: r) h.2
  rw [Qa]
  split
  ·rename_i hx
   exact ⟨by rw [jU,decide_eq_true hx,jU,decide_eq_true h.1,h.2]; rfl,fun y h1 h2 z hz=>by
    rcases List.mem_cons.mp hz with rfl | hz
    ·exact h2
    ·exact h1 z hz⟩
  ·rename_i hx
   refine ⟨?_,fun y h1 h2 z hz=>by
    rcases List.mem_cons.mp hz with rfl | hz
    ·exact h1 _ List.mem_cons_self
    ·exact ih2 y (fun w hw=>h1 w (List.mem_cons_of_mem _ hw)) h2 z hz⟩
   rw [Qa] at ih1 ⊢
   split
   ·rename_i hb
    rw [if_pos hb] at ih1
    rw [jU,decide_eq_true (by omega),ih1]; rfl
   ·rename_i hb
    rw [if_neg hb] at ih1
    rw [jU,decide_eq_true h.1,ih1]; rfl
theorem Xn:∀ l:List Int,asc (qW l)=true
 | []=>rfl
 | x :: l=>by rw [qW]; exact (Xm x _ (Xn l)).1
theorem Xo:∀ l:List Int,asc l=true->qW l=l
 | [],_=>rfl
 | [x],_=>rfl
 | x :: y :: r,h=>by
  rw [jU,Bool.and_eq_true,decide_eq_true_eq] at h
  rw [qW,Xo (y :: r) h.2,Qa,if_pos h.1]
theorem vp {n:Nat}:∀ xs ys:List Int,∃ b,eqL (eqF n) (xs.map T.int) (ys.map T.int)=some b/\(b=true↔xs=ys)
 | [],[]=>⟨true,rfl,by simp⟩
 | [],y :: ys=>⟨false,rfl,by simp⟩
 | x :: xs,[]=>⟨false,rfl,by simp⟩
 | x :: xs,y :: ys=>by
  obtain ⟨b,e,h⟩:=vp (n:=n) xs ys
  have e0:eqL (eqF n) ((x :: xs).map T.int) ((y :: ys).map T.int)=match eqF n (.int x) (.int y) with
   | none=>none
   | some b=>match eqL (eqF n) (xs.map T.int) (ys.map T.int) with
    | none=>none
    | some c=>some (b && c):=rfl
  have e1:eqF n (.int x) (.int y)=some (x == y):=by cases n <;> rfl
  refine ⟨(x == y) && b,by rw [e0,e1,e], ?_⟩
  rw [Bool.and_eq_true,beq_iff_eq,h,List.cons.injEq]
theorem Xp (is:List Int):eqC (.lst (is.map T.int)) (.lst ((qW is).map T.int))= .ok (asc is):=by
 obtain ⟨b,e,h⟩:=vp (n:=29) is (qW is)
 have e0:eqF 30 (.lst (is.map T.int)) (.lst ((qW is).map T.int))=some b:=e
 unfold eqC
 rw [e0]
 show R.ok b=_
 congr 1
 cases hb:b with
 | true=>
  have:=h.mp hb
  rw [this]
  exact (Xn is).symm
 | false=>
  cases ha:asc is with
  | false=>rfl
  | true=>rw [hb] at h; exact absurd (h.mpr (Xo is ha).symm) Bool.false_ne_true
theorem Gy (is:List Int) (hl:is.length<=60):kE (.lst (is.map T.int))= .ok (.lst ((qW is).map T.int)):=by
 unfold kE
 dsimp only
 rw [Qi]
 dsimp only
 rw [if_pos (by rw [List.length_map]; omega)]
theorem z1g (is:List Int):G4 (.lst (is.map T.int))= .ok (.int is.sum):=by
 unfold G4
 dsimp only
 rw [Qi]
end G
namespace G
open PySem L2 PV
noncomputable def inB (xs:List T) (x:T):Bool:=(ya (fun y=>eqF 30 y x) xs).getD false
theorem z1h {xs:List T} (x:T) (h:∀ y∈xs,Pl 30 y):ya (fun y=>eqF 30 y x) xs=some (inB xs x):=by
 obtain ⟨b,e,_⟩:=qr (f:=fun y=>eqF 30 y x) xs fun t ht=>Uj 30 t x (h t ht)
 unfold inB
 rw [e]
 rfl
theorem W.pl {d:Nat} {x:T} (h:W d x):Pl (d+1) x:=by
 induction h with
 | int d i=>exact trivial
 | str d i=>exact trivial
 | @tup d xs h r ih=>exact ih
theorem W.pl30 {d:Nat} {x:T} (h:W d x) (hd:d<=2):Pl 30 x:=h.pl.le (by omega)
noncomputable def ja:T->List T
 | .tup xs=>xs
 | .non=>[.non]
 | .bl b=>[.bl b]
 | .int b=>[.int b]
 | .str b=>[.str b]
 | .lst b=>[.lst b]
 | .fz b=>[.fz b]
theorem kW {d:Nat} {x:T} (h:W d x):Wg [x]= .ok (.tup (ja x)):=by cases h <;> rfl
theorem qt {d:Nat} {x:T} (h:W d x):(ja x).length<=3:=by
 cases h with
 | int=>exact (by decide:1<=3)
 | str=>exact (by decide:1<=3)
 | tup h _=>exact h
theorem vq {d:Nat} {x:T} (h:W d x) (hd:d<=2):∀ y∈ja x,Pl 30 y:=by
 cases h with
 | int=>intro y hy; rw [List.mem_singleton.mp hy]; exact trivial
 | str=>intro y hy; rw [List.mem_singleton.mp hy]; exact trivial
 | @tup d xs h r=>intro y hy; exact (r y hy).pl30 (by omega)
noncomputable def un (ps:List T):Bool:= !(ps.zipIdx.any fun p=>inB (ps.take p.2) p.1)
theorem qu {xs:List T} {k:Nat}:slT (.tup xs) none (some (k:Int))= .ok (.tup (xs.take k)):=by
 show R.ok (T.tup (cut xs none (some (k:Int))))=_
 have:cut xs none (some (k:Int))=xs.take k:=by
  unfold cut
  rw [HT.sIx_none,HT.sIx_nat]
  simp only [List.drop_zero,Nat.sub_zero]
  rw [List.take_eq_take_iff]
  omega
 rw [this]
theorem Xq {ps:List T} (h:∀ y∈ps,Pl 30 y) (k:Nat) (x:T):inC x (.tup (ps.take k))= .ok (inB (ps.take k) x):=by
 show (match ya (fun y=>eqF 30 y x) (ps.take k) with | some b=>R.ok b | none=> .bad)=_
 rw [z1h x fun y hy=>h y (List.mem_of_mem_take hy)]
noncomputable abbrev ulE:En->R T:=jZ inC (vB 1) (slE (vE 2) (noO) (ug (vE 0)))
theorem Xr {ps:List T} (h:∀ y∈ps,Pl 30 y):∀ (qs:List (T×Nat)) (x y:Sl),Z5 (jq 0 1) ZI ulE (qs.map fun p=>T.tup [.int (p.2:Nat),p.1]) [x,y, .vl (.tup ps)]= .ok (qs.map fun p=>T.bl (inB (ps.take p.2) p.1))
 | [],_,_=>rfl
 | q :: qs,x,y=>by
  have ih:=Xr h qs (.vl (.int (q.2:Nat))) (.vl q.1)
  have e:ulE [.vl (.int (q.2:Nat)), .vl q.1, .vl (.tup ps)]= .ok (.bl (inB (ps.take q.2) q.1)):=by
   have e2:slE (vE 2) noO (ug (vE 0)) [.vl (.int (q.2:Nat)), .vl q.1, .vl (.tup ps)]=slT (.tup ps) none (some (q.2:Int)):=rfl
   unfold ulE
   rw [ZV,w1,bOk,e2,qu,bOk,Xq h,bOk]
  have e0:Z5 (jq 0 1) ZI ulE ((q :: qs).map fun p=>T.tup [.int (p.2:Nat),p.1]) [x,y, .vl (.tup ps)]=
   (ulE [.vl (.int (q.2:Nat)), .vl q.1, .vl (.tup ps)]).bind fun v=>(Z5 (jq 0 1) ZI ulE (qs.map fun p=>T.tup [.int (p.2:Nat),p.1]) [.vl (.int (q.2:Nat)), .vl q.1, .vl (.tup ps)]).bind fun vs=> .ok (v :: vs):=rfl
  rw [e0,e,bOk,ih,bOk,List.map_cons]
theorem qv {α:Type} (p:α->Bool):∀ qs:List α,yf (qs.map fun q=>T.bl (p q))=some (qs.any p)
 | []=>rfl
 | q :: qs=>by
  have e:yf ((q :: qs).map fun q=>T.bl (p q))=match yf (qs.map fun q=>T.bl (p q)) with | some j=>some (p q || j) | none=>none:=rfl
  rw [e,qv p qs]
  rfl
theorem Xs {ps:List T} (h:∀ y∈ps,Pl 30 y) (hl:ps.length<=100):JH [.tup ps]= .ok (.bl (un ps)):=by
 show zu (JG [.vl (.tup ps)])=_
 have ec:zG (jq 0 1) ZI ulE 2 [0] [.vl (.tup ps)] (wP ps)= .ok (ps.zipIdx.map fun p=>T.bl (inB (ps.take p.2) p.1)):=by
  unfold zG
  rw [if_pos (by unfold wP; rw [List.length_map,List.length_zipIdx]; have hB:bnd=16777216:=rfl; omega)]
  show quiet (Z5 _ _ _ _ [.un, .un, .vl (.tup ps)])=_
  unfold wP
  rw [Xr h]
  rfl
 rw [JG,zw (t:= .bl (un ps))]
 ·rfl
 ·have e1:Z9 (QZ (vE 0)) (jq 0 1) ZI ulE 2 [0] [.vl (.tup ps)]= .ok (.lst (ps.zipIdx.map fun p=>T.bl (inB (ps.take p.2) p.1))):=by
   rw [Z4]
   show ((R.ok (wP ps)).bind _)=_
   rw [bOk,ec,bOk]
  have e2:ap1 z2i (Z9 (QZ (vE 0)) (jq 0 1) ZI ulE 2 [0]) [.vl (.tup ps)]= .ok (.bl (ps.zipIdx.any fun p=>inB (ps.take p.2) p.1)):=by
   rw [wt,e1,bOk]
   show (match yf _ with | some k=>R.ok (T.bl k) | none=> .bad)=_
   rw [qv (fun p:T×Nat=>inB (ps.take p.2) p.1)]
  show XI _ [.vl (.tup ps)]=_
  unfold XI
  rw [e2,bOk]
  rfl
theorem kX {ps:List T} (h:∀ y∈ps,Pl 30 y) (hl:ps.length<=100) {a b c:Sl} {ρ:En}:∃ r,zG (zD 0) (zK inC (zg ixT (vE 1) (vE 0)) (slE (vE 1) (noO) (ug (vE 0)))) (vE 0) 1 [3] (a :: b :: c :: .vl (.tup ps) :: ρ) (rng 0 ps.length)= .ok r/\r.isEmpty=un ps:=by
 let p:T->Bool:=fun t=>match t with
  | .int i=>match ps[i.toNat]? with | some w=>inB (ps.take i.toNat) w | none=>false
  | _=>false
 refine ⟨(rng 0 ps.length).filter p,jh _ (by unfold rng; rw [List.length_map,List.length_range]; have hB:bnd=16777216:=rfl; omega) fun t ht=> ?_, ?_⟩
 ·unfold rng at ht
  obtain ⟨k,hk,rfl⟩:=List.mem_map.mp ht
  have hk' :k < ps.length:=List.mem_range.mp hk
  refine ⟨?_,rfl⟩
  show zK inC (zg ixT (vE 1) (vE 0)) (slE (vE 1) noO (ug (vE 0))) [.vl (.int (0+(k:Int))), .vl (.tup ps)]=_
  rw [show (0:Int)+(k:Int)=(k:Int) by omega]
  have e1:ixT (.tup ps) (.int k)= .ok ps[k]:=by
   show atT ps k=_
   unfold atT
   rw [wJ (List.getElem?_eq_getElem hk')]
  have e2:slE (vE 1) noO (ug (vE 0)) [.vl (.int (k:Int)), .vl (.tup ps)]=slT (.tup ps) none (some (k:Int)):=rfl
  rw [Z3,zy,v1,bOk,v0,bOk,e1,bOk,e2,qu,bOk,Xq h]
  show _=R.ok (match ps[((k:Int)).toNat]? with | some w=>inB (ps.take ((k:Int)).toNat) w | none=>false)
  rw [Int.toNat_natCast,List.getElem?_eq_getElem hk']
 ·rw [Bool.eq_iff_iff,List.isEmpty_iff,List.filter_eq_nil_iff]
  unfold un
  rw [Bool.not_eq_true',List.any_eq_false]
  constructor
  ·intro H q hq
   obtain ⟨x,k⟩:=q
   have hk:=List.mem_zipIdx' hq
   have:=H (.int (0+(k:Int))) (by unfold rng; exact List.mem_map.mpr ⟨k,List.mem_range.mpr hk.1,rfl⟩)
   intro hb
   apply this
   show (match ps[((0:Int)+(k:Int)).toNat]? with | some w=>inB (ps.take ((0:Int)+(k:Int)).toNat) w | none=>false)=true
   rw [show ((0:Int)+(k:Int)).toNat=k by omega,List.getElem?_eq_getElem hk.1,← hk.2]
   exact hb
  ·intro H t ht hb
   unfold rng at ht
   obtain ⟨k,hk,rfl⟩:=List.mem_map.mp ht
   have hk' :k < ps.length:=List.mem_range.mp hk
   have hb:(match ps[((0:Int)+(k:Int)).toNat]? with | some w=>inB (ps.take ((0:Int)+(k:Int)).toNat) w | none=>false)=true:=hb
   rw [show ((0:Int)+(k:Int)).toNat=k by omega,List.getElem?_eq_getElem hk'] at hb
   exact H (ps[k],k) (List.mk_mem_zipIdx_iff_getElem?.mpr (List.getElem?_eq_getElem hk')) hb
noncomputable def XO (w:Str):T->Bool
 | .str x=>x == w
 | _=>false
theorem z1i (w:Str) (n:Nat):∀ t:T,eqF n t (.str w)=some (XO w t)
 | .str x=>by cases n <;> rfl
 | .non=>by cases n <;> rfl
 | .bl _=>by cases n <;> rfl
 | .int _=>by cases n <;> rfl
 | .tup _=>by cases n <;> rfl
 | .lst _=>by cases n <;> rfl
 | .fz _=>by cases n <;> rfl
theorem Xt (w:Str):∀ ts:List T,ya (fun y=>eqF 30 y (.str w)) ts=some (ts.any (XO w))
 | []=>rfl
 | t :: ts=>by
  have e:ya (fun y=>eqF 30 y (.str w)) (t :: ts)=match eqF 30 t (.str w) with
   | none=>none
   | some b=>match ya (fun y=>eqF 30 y (.str w)) ts with
    | none=>none
    | some d=>some (b || d):=rfl
  rw [e,z1i,Xt w ts]
  rfl
theorem Gz (w:Str) (ts:List T):(ts.filter (XO w)).isEmpty= !(ts.any (XO w)):=by
 induction ts with
 | nil=>rfl
 | cons t ts ih=>
  rw [List.filter_cons,List.any_cons]
  cases XO w t with
  | true=>rfl
  | false=>rw [if_neg Bool.false_ne_true,ih,Bool.false_or]
end G
namespace G
open PySem L2 PV
inductive Ru where
 | sum (a b:Int) | size (a b:Int) | word (w:Str) | rising | unlike | no (r:Ru) | all (r s:Ru) | some (r s:Ru)
noncomputable def Ru.t:Ru->T
 | .sum a b=> .tup [.str "sum", .int a, .int b]
 | .size a b=> .tup [.str "size", .int a, .int b]
 | .word w=> .tup [.str "word", .str w]
 | .rising=> .tup [.str "rising"]
 | .unlike=> .tup [.str "unlike"]
 | .no r=> .tup [.str "no",r.t]
 | .all r s=> .tup [.str "all",r.t,s.t]
 | .some r s=> .tup [.str "some",r.t,s.t]
inductive JV:Nat->Ru->Prop where
 | sum {d:Nat} {a b:Int} (ha: -50<=a/\a<=50) (hb: -50<=b/\b<=50):JV (d+1) (.sum a b)
 | size {d:Nat} {a b:Int} (ha: -50<=a/\a<=50) (hb: -50<=b/\b<=50):JV (d+1) (.size a b)
 | word {d:Nat} {w:Str} (h:jv (.str w)=true):JV (d+1) (.word w)
 | rising {d:Nat}:JV (d+1) .rising
 | unlike {d:Nat}:JV (d+1) .unlike
 | no {d:Nat} {r:Ru} (h:JV d r):JV (d+1) (.no r)
 | all {d:Nat} {r s:Ru} (h:JV d r) (h' :JV d s):JV (d+1) (.all r s)
 | some {d:Nat} {r s:Ru} (h:JV d r) (h' :JV d s):JV (d+1) (.some r s)
theorem JV.up {d:Nat} {r:Ru} (h:JV d r):JV (d+1) r:=by
 induction h with
 | sum ha hb=>exact .sum ha hb
 | size ha hb=>exact .size ha hb
 | word h=>exact .word h
 | rising=>exact .rising
 | unlike=>exact .unlike
 | no h ih=>exact .no ih
 | all h h' ih ih' =>exact .all ih ih'
 | some h h' ih ih' =>exact .some ih ih'
theorem JV.le {d e:Nat} {r:Ru} (h:JV d r) (hd:d<=e):JV e r:=by
 induction hd with
 | refl=>exact h
 | step _ ih=>exact ih.up
noncomputable def kp:Ru->T->Bool
 | .sum a b,x=>decide (a<=(JB (lv x)).sum) && decide ((JB (lv x)).sum<=b)
 | .size a b,x=>decide (a<=((ja x).length:Int)) && decide (((ja x).length:Int)<=b)
 | .word w,x=>(lv x).any (XO w)
 | .rising,x=>asc (JB (lv x))
 | .unlike,x=>un (ja x)
 | .no r,x=> !kp r x
 | .all r s,x=>kp r x && kp s x
 | .some r s,x=>kp r x || kp s x
theorem Ul {i:Int} (h: -50<=i/\i<=50):Wf [.int i]= .ok (.bl true):=by
 show zu (We Zj [.vl (.int i)])=_
 rw [We,zw (t:= .bl true)]
 ·rfl
 ·show Wv _ _ [.vl (.int i)]=_
  rw [yy,Z8,v0,bOk,Y3,J6,if_pos (show isW (.int i)=true from rfl),kJ,Kr,Zw,bOk]
  show ((R.ok (T.int (-50))).bind _)=_
  rw [bOk,w0,bOk,qd,decide_eq_true h.1,bOk,if_pos rfl,bOk,qd,decide_eq_true h.2]
  rfl
theorem ji {x w:Str} {r:List T} {ρ:En} (b:Bool) (h:(x == w)=b):zK eqC (zg ixT (vE 0) (cE (.int 0))) (cE (.str w)) (.vl (.tup (.str x :: r)) :: ρ)= .ok b:=by rw [cs0,h]
theorem qY {f g:En->R Bool} {ρ:En} {b:Bool} (h:f ρ= .ok false) (h' :g ρ= .ok b):orT f g ρ= .ok b:=by rw [xJ,h,bOk,if_neg Bool.false_ne_true,h']
theorem z2u {f g:En->R Bool} {ρ:En} (h:f ρ= .ok true):orT f g ρ= .ok true:=by rw [xJ,h,bOk,if_pos rfl]
theorem yi {f g:En->R T} {ρ:En} {r:R T} (h:f ρ= .ok (.bl true)) (h' :g ρ=r):Wv f g ρ=r:=by rw [yy,h,J6,if_pos rfl,h']
theorem KA {xs:List T} {ρ:En} {n:Int} (h:((xs.length:Int) == n)=true):jZ eqC (ap1 wO (vB 0)) (cE (.int n)) (.vl (.tup xs) :: ρ)= .ok (.bl true):=by
 rw [ZV,wt,w0,bOk,Qb,bOk,Zw,bOk,eqI,h,bOk]
theorem wW {xs:List T} {d:Nat} {x:T}:orT (zK eqC (vB 1) (cE (.int 0))) (orT (YN (wG (ap1 (yS "tuple") (vB 0)))) (zK eqC (ap1 wO (vB 0)) (cE (.int 0)))) (en2 (.tup (x :: xs)) (.int ((d+1:Nat):Int)))= .ok false:=by
 refine qY ?_ (qY ?_ ?_)
 ·rw [Z3,w1,bOk,Zw,bOk,eqI,beq_eq_false_iff_ne.mpr (by omega)]
 ·rw [yz,Wp,wt,w0,bOk,xP,bOk,wT,bOk]; rfl
 ·rw [Z3,wt,w0,bOk,Qb,bOk,Zw,bOk,eqI,beq_eq_false_iff_ne.mpr (by rw [List.length_cons]; omega)]
theorem kY {w:Str} (h:jv (.str w)=true):Gf (.str w):=by
 have h:(decide (1<=w.length) && decide (w.length<=3) && w.cps.toList.all jg)=true:=h
 simp only [Bool.and_eq_true,decide_eq_true_eq] at h
 show w.length<=bnd
 exact Nat.le_trans h.1.2 (by decide)
theorem ul:∀ (n d:Nat),d<=n->∀ r:Ru,JV d r->Zz n 0 [r.t, .int (d:Int)]= .ok (.bl true)
 | 0,d,h,r,hr=>by
  have:d=0:=by omega
  subst this; cases hr
 | n+1,d,h,r,hr=>by
  show zu (ZZ jQ (Zz n 0) Wf (en2 r.t (.int (d:Int))))=_
  rw [ZZ]
  cases hr with
  | @sum d a b ha hb=>
   rw [Ru.t,zf (zv wW),zP (t:= .bl true)]
   ·rfl
   ·rw [wv (z2u (ji true (by decide)))]
    exact zw (yi (KA rfl) (yi (by show zc 1 _ _ (en2 _ _)=_; rw [Z8,U2,bOk,Ul ha]) (by show zc 1 _ _ (en2 _ _)=_; rw [Z8,Qg,bOk,Ul hb])))
  | @size d a b ha hb=>
   rw [Ru.t,zf (zv wW),zP (t:= .bl true)]
   ·rfl
   ·rw [wv (qY (ji false (by decide)) (ji true (by decide)))]
    exact zw (yi (KA rfl) (yi (by show zc 1 _ _ (en2 _ _)=_; rw [Z8,U2,bOk,Ul ha]) (by show zc 1 _ _ (en2 _ _)=_; rw [Z8,Qg,bOk,Ul hb])))
  | @word d w hw=>
   rw [Ru.t,zf (zv wW),zf (zv (qY (ji false (by decide)) (ji false (by decide)))),zP (t:= .bl true)]
   ·rfl
   ·rw [wv (ji true (by decide))]
    exact zw (yi (KA rfl) (by show zc 1 _ _ (en2 _ _)=_; rw [Z8,U2,bOk,xH _ (kY hw),hw]))
  | rising=>
   rw [Ru.t,zf (zv wW),zf (zv (qY (ji false (by decide)) (ji false (by decide)))),zf (zv (ji false (by decide))),zP (t:= .bl true)]
   ·rfl
   ·rw [wv (z2u (ji true (by decide)))]
    exact zw (KA rfl)
  | unlike=>
   rw [Ru.t,zf (zv wW),zf (zv (qY (ji false (by decide)) (ji false (by decide)))),zf (zv (ji false (by decide))),zP (t:= .bl true)]
   ·rfl
   ·rw [wv (qY (ji false (by decide)) (ji true (by decide)))]
    exact zw (KA rfl)
  | @no d r hr=>
   have ih:=ul n d (by omega) r hr
   rw [Ru.t,zf (zv wW),zf (zv (qY (ji false (by decide)) (ji false (by decide)))),zf (zv (ji false (by decide))),zf (zv (qY (ji false (by decide)) (ji false (by decide)))),zP (t:= .bl true)]
   ·rfl
   ·rw [wv (ji true (by decide))]
    exact zw (yi (KA rfl) (by show zc 2 _ _ (en2 _ _)=_; rw [ZJ,U2,bOk,zy,v1,bOk,Zw,bOk,jT,bOk,show ((d+1:Nat):Int) - 1=(d:Int) by omega,ih]))
  | @all d r s hr hs=>
   have ih:=ul n d (by omega) r hr
   have ih' :=ul n d (by omega) s hs
   rw [Ru.t,zf (zv wW),zf (zv (qY (ji false (by decide)) (ji false (by decide)))),zf (zv (ji false (by decide))),zf (zv (qY (ji false (by decide)) (ji false (by decide)))),zf (zv (ji false (by decide))),zP (t:= .bl true)]
   ·rfl
   ·rw [wv (z2u (ji true (by decide)))]
    exact zw (yi (KA rfl) (yi (by show zc 2 _ _ (en2 _ _)=_; rw [ZJ,U2,bOk,zy,v1,bOk,Zw,bOk,jT,bOk,show ((d+1:Nat):Int) - 1=(d:Int) by omega,ih]) (by show zc 2 _ _ (en2 _ _)=_; rw [ZJ,Qg,bOk,zy,v1,bOk,Zw,bOk,jT,bOk,show ((d+1:Nat):Int) - 1=(d:Int) by omega,ih'])))
  | @some d r s hr hs=>
   have ih:=ul n d (by omega) r hr
   have ih' :=ul n d (by omega) s hs
   rw [Ru.t,zf (zv wW),zf (zv (qY (ji false (by decide)) (ji false (by decide)))),zf (zv (ji false (by decide))),zf (zv (qY (ji false (by decide)) (ji false (by decide)))),zf (zv (ji false (by decide))),zP (t:= .bl true)]
   ·rfl
   ·rw [wv (qY (ji false (by decide)) (ji true (by decide)))]
    exact zw (yi (KA rfl) (yi (by show zc 2 _ _ (en2 _ _)=_; rw [ZJ,U2,bOk,zy,v1,bOk,Zw,bOk,jT,bOk,show ((d+1:Nat):Int) - 1=(d:Int) by omega,ih]) (by show zc 2 _ _ (en2 _ _)=_; rw [ZJ,Qg,bOk,zy,v1,bOk,Zw,bOk,jT,bOk,show ((d+1:Nat):Int) - 1=(d:Int) by omega,ih'])))
theorem wX {r:Ru} (h:JV 3 r):j6 [r.t]= .ok .non:=by
 have e:WP [r.t]= .ok (.bl true):=by
  show zu (WO (J0 8) [.vl r.t])=_
  rw [WO,zw (t:= .bl true)]
  ·rfl
  ·show zc 2 _ _ [.vl r.t]=_
   rw [ZJ,v0,bOk,Zw,bOk]
   exact ul 8 3 (by omega) r h
 show zu (wn WP [.vl r.t])=_
 rw [wn,if_f (by rw [yz,Wp,Z8,v0,bOk,e,bOk,wT,bOk]; rfl)]
 rfl
theorem u6 {r s:Ru} (h:JV 3 r) (h' :JV 3 s):Zn [.tup [r.t,s.t]]= .ok .non:=by
 show zu (JF j6 [.vl (.tup [r.t,s.t]), .un])=_
 have e1:YN (wG (ap1 (Gb "list" "tuple") (vE 0))) [.vl (.tup [r.t,s.t]), .un]= .ok false:=rfl
 have e2:Wc (Jh (vE 0)) (zD 1) (Uv (zc 1 j6 (z9 (vE 1) (zj)))) [.vl (.tup [r.t,s.t]), .un]= .nx [.vl (.tup [r.t,s.t]), .vl s.t]:=by
  unfold Wc
  rw [jS,v0,bOk,show uG (T.tup [r.t,s.t])= .ok [r.t,s.t] from rfl,Ja]
  rw [WZ (setg 1 r.t _) (uk (t:= .non) (by show zc 1 _ _ [.vl (.tup [r.t,s.t]), .vl r.t]=_; rw [Z8,v1,bOk,wX h]))]
  rw [WZ (setg 1 s.t _) (uk (t:= .non) (by show zc 1 _ _ [.vl (.tup [r.t,s.t]), .vl s.t]=_; rw [Z8,v1,bOk,wX h']))]
  rfl
 rw [JF,zf (zv e1),e2]
 rfl
end G
namespace G
open PySem L2 PV
theorem z1j {f g h:En->R T} {ρ:En} {i j k:Int} (hf:f ρ= .ok (.int i)) (hg:g ρ= .ok (.int j)) (hh:h ρ= .ok (.int k)):chE leC leC f g h ρ= .ok (.bl (decide (i<=j) && decide (j<=k))):=by
 rw [kJ,hf,bOk,hg,bOk,qd,bOk]
 cases decide (i<=j) with
 | true=>rw [if_pos rfl,hh,bOk,qd,bOk,Bool.true_and]
 | false=>rw [if_neg Bool.false_ne_true,Bool.false_and]
theorem Xu {r:Ru} {x:T} {d:Nat} (hd:d<=2) (h:W d x) (b:Bool) (hr:(match r with | .no _=>False | .all _ _=>False | .some _ _=>False | _=>True)):ZA [r.t,x]= .ok (.bl (kp r x)):=by
 have hn:=vY hd h
 have hp:=kW h
 have hv:j8 8 [x]= .ok (.lst (lv x)):=UM 8 d (by omega) (by omega) x h
 have hi:(JB (lv x)).length<=9:=Nat.le_trans (Ye _) (w9 hd h)
 show zu (j0 Wg (j8 8) JL JJ JH (en2 r.t x))=_
 rw [j0]
 cases r with
 | sum a b=>
  rw [Ru.t,zP (t:= .bl (kp (.sum a b) x))]
  ·rfl
  ·rw [wv (ji true (by decide))]
   refine zw ?_
   show chE _ _ _ _ _ (en2 _ x)=_
   exact z1j U2 (by rw [wt,Z8,v1,bOk,hn,bOk,z1g]) Qg
 | size a b=>
  rw [Ru.t,zf (zv (ji false (by decide))),zP (t:= .bl (kp (.size a b) x))]
  ·rfl
  ·rw [wv (ji true (by decide))]
   refine zw ?_
   show chE _ _ _ _ _ (en2 _ x)=_
   exact z1j U2 (by rw [wt,Z8,v1,bOk,hp,bOk,Qb]) Qg
 | word w=>
  rw [Ru.t,zf (zv (ji false (by decide))),zf (zv (ji false (by decide))),zP (t:= .bl (kp (.word w) x))]
  ·rfl
  ·rw [wv (ji true (by decide))]
   refine zw ?_
   show jZ _ _ _ (en2 _ x)=_
   rw [ZV,U2,bOk,Z8,v1,bOk,hv,bOk]
   show ((match ya (fun y=>eqF 30 y (.str w)) (lv x) with | some b=>R.ok b | none=> .bad).bind _)=_
   rw [Xt]
   rfl
 | rising=>
  rw [Ru.t,zf (zv (ji false (by decide))),zf (zv (ji false (by decide))),zf (zv (ji false (by decide))),zP (t:= .bl (kp .rising x))]
  ·rfl
  ·rw [wv (ji true (by decide))]
   refine zw ?_
   show zc 1 _ _ (en2 _ x)=_
   rw [Z8,Z8,v1,bOk,hn,bOk,Xl _ (by omega)]
   rfl
 | unlike=>
  rw [Ru.t,zf (zv (ji false (by decide))),zf (zv (ji false (by decide))),zf (zv (ji false (by decide))),zf (zv (ji false (by decide))),zw (t:= .bl (kp .unlike x))]
  ·rfl
  ·show zc 1 _ _ (en2 _ x)=_
   rw [Z8,Z8,v1,bOk,hp,bOk,Xs (vq h hd) (Nat.le_trans (qt h) (by omega))]
   rfl
 | no=>exact hr.elim
 | all=>exact hr.elim
 | some=>exact hr.elim
theorem Xv {f:En->R T} {ρ:En} {b:Bool} (h:f ρ= .ok (.bl b)):XI f ρ= .ok (.bl (!b)):=by unfold XI; rw [h]; rfl
theorem Yf {f g:En->R T} {ρ:En} {a b:Bool} (h:f ρ= .ok (.bl a)) (h' :g ρ= .ok (.bl b)):Wv f g ρ= .ok (.bl (a && b)):=by
 rw [yy,h,h',J6]; cases a <;> rfl
theorem KC {f g:En->R T} {ρ:En} {a b:Bool} (h:f ρ= .ok (.bl a)) (h' :g ρ= .ok (.bl b)):orE f g ρ= .ok (.bl (a || b)):=by
 unfold orE; rw [h,bOk]; cases a with
 | true=>rfl
 | false=>exact h'
theorem um {x:T} {e:Nat} (he:e<=2) (hx:W e x):∀ (n d:Nat),d<=n->∀ r:Ru,JV d r->ZX n 0 [r.t,x]= .ok (.bl (kp r x))
 | 0,d,h,r,hr=>by
  have:d=0:=by omega
  subst this; cases hr
 | n+1,d,h,r,hr=>by
  show zu (WQ (ZX n 0) ZA (en2 r.t x))=_
  rw [WQ]
  have fin:∀ (r:Ru) (s:Str) (q:List T),r.t= .tup (.str s :: q)->(s == "no")=false->(s == "all")=false->(s == "some")=false->(match r with | .no _=>False | .all _ _=>False | .some _ _=>False | _=>True)->
    zu (zI (ifS (zK eqC (zg ixT (vE 0) (cE (.int 0))) (cE (.str "no"))) (zX (XI (zc 2 (ZX n 0) (z9 (zg ixT (vE 0) (cE (.int 1))) (z9 (vE 1) (zj)))))) (nxS))
  (zI (ifS (zK eqC (zg ixT (vE 0) (cE (.int 0))) (cE (.str "all"))) (zX (Wv (zc 2 (ZX n 0) (z9 (zg ixT (vE 0) (cE (.int 1))) (z9 (vE 1) (zj)))) (zc 2 (ZX n 0) (z9 (zg ixT (vE 0) (cE (.int 2))) (z9 (vE 1) (zj)))))) (nxS))
  (zI (ifS (zK eqC (zg ixT (vE 0) (cE (.int 0))) (cE (.str "some"))) (zX (orE (zc 2 (ZX n 0) (z9 (zg ixT (vE 0) (cE (.int 1))) (z9 (vE 1) (zj)))) (zc 2 (ZX n 0) (z9 (zg ixT (vE 0) (cE (.int 2))) (z9 (vE 1) (zj)))))) (nxS))
  (zX (zc 2 ZA (z9 (vE 0) (z9 (vE 1) (zj))))))) (en2 r.t x))= .ok (.bl (kp r x)):=by
   intro r s q e h1 h2 h3 hm
   have hs:=Xu he hx true hm
   rw [e] at hs ⊢
   rw [zf (zv (ji false h1)),zf (zv (ji false h2)),zf (zv (ji false h3)),zw (t:= .bl (kp r x))]
   ·rfl
   ·show zc 2 _ _ (en2 _ x)=_
    rw [ZJ,v0,bOk,v1,bOk,hs]
  cases hr with
  | @sum d a b ha hb=>exact fin (.sum a b) "sum" _ rfl (by decide) (by decide) (by decide) trivial
  | @size d a b ha hb=>exact fin (.size a b) "size" _ rfl (by decide) (by decide) (by decide) trivial
  | @word d w hw=>exact fin (.word w) "word" _ rfl (by decide) (by decide) (by decide) trivial
  | rising=>exact fin .rising "rising" _ rfl (by decide) (by decide) (by decide) trivial
  | unlike=>exact fin .unlike "unlike" _ rfl (by decide) (by decide) (by decide) trivial
  | @no d r hr=>
   have ih:=um he hx n d (by omega) r hr
   rw [Ru.t,zP (t:= .bl (kp (.no r) x))]
   ·rfl
   ·rw [wv (ji true (by decide))]
    exact zw (Xv (by show zc 2 _ _ (en2 _ x)=_; rw [ZJ,U2,bOk,v1,bOk,ih]))
  | @all d r s hr hs=>
   have ih:=um he hx n d (by omega) r hr
   have ih' :=um he hx n d (by omega) s hs
   rw [Ru.t,zf (zv (ji false (by decide))),zP (t:= .bl (kp (.all r s) x))]
   ·rfl
   ·rw [wv (ji true (by decide))]
    exact zw (Yf (by show zc 2 _ _ (en2 _ x)=_; rw [ZJ,U2,bOk,v1,bOk,ih]) (by show zc 2 _ _ (en2 _ x)=_; rw [ZJ,Qg,bOk,v1,bOk,ih']))
  | @some d r s hr hs=>
   have ih:=um he hx n d (by omega) r hr
   have ih' :=um he hx n d (by omega) s hs
   rw [Ru.t,zf (zv (ji false (by decide))),zf (zv (ji false (by decide))),zP (t:= .bl (kp (.some r s) x))]
   ·rfl
   ·rw [wv (ji true (by decide))]
    exact zw (KC (by show zc 2 _ _ (en2 _ x)=_; rw [ZJ,U2,bOk,v1,bOk,ih]) (by show zc 2 _ _ (en2 _ x)=_; rw [ZJ,Qg,bOk,v1,bOk,ih']))
end G
namespace G
open PySem L2 PV
noncomputable abbrev lk (r x a b:T):En:=[.vl r, .vl x, .vl a, .vl b, .un, .un, .un]
theorem lk0 {x w:Str} {r:List T} {y a b:T} (c:Bool) (h:(x == w)=c):zK eqC (zg ixT (vE 0) (cE (.int 0))) (cE (.str w)) (lk (.tup (.str x :: r)) y a b)= .ok c:=ji c h
theorem vt {r x a b:T} {z:Sl}:∀ (is:List Int) (m:Int) (y:Sl),∃ y',JA (zD 5) (Zf 4 (zg zL (vE 4) (vE 5))) (is.map T.int) [.vl r, .vl x, .vl a, .vl b, .vl (.int m),y,z]= .nx [.vl r, .vl x, .vl a, .vl b, .vl (.int (m+is.sum)),y',z]
 | [],m,y=>⟨y,by rw [List.sum_nil,Int.add_zero]; rfl⟩
 | i :: is,m,y=>by
  obtain ⟨y',h⟩:=vt (r:=r) (x:=x) (a:=a) (b:=b) (z:=z) is (m+i) (.vl (.int i))
  refine ⟨y', ?_⟩
  have s2:zD 5 (.int i) [.vl r, .vl x, .vl a, .vl b, .vl (.int m),y,z]= .ok [.vl r, .vl x, .vl a, .vl b, .vl (.int m), .vl (.int i),z]:=rfl
  have b2:Zf 4 (zg zL (vE 4) (vE 5)) [.vl r, .vl x, .vl a, .vl b, .vl (.int m), .vl (.int i),z]= .nx [.vl r, .vl x, .vl a, .vl b, .vl (.int (m+i)), .vl (.int i),z]:=rfl
  rw [List.map_cons,WZ s2 b2,h,List.sum_cons,Int.add_assoc]
theorem z2v {f g:En->R T} {ρ:En} {i j:Int} (hf:f ρ= .ok (.int i)) (hg:g ρ= .ok (.int j)):jZ leC f g ρ= .ok (.bl (decide (i<=j))):=by rw [ZV,hf,bOk,hg,bOk,qd,bOk]
theorem ge_E {f g:En->R T} {ρ:En} {i j:Int} (hf:f ρ= .ok (.int i)) (hg:g ρ= .ok (.int j)):jZ geC f g ρ= .ok (.bl (decide (j<=i))):=by
 rw [ZV,hf,bOk,hg,bOk]; rfl
theorem qw {r x a b:T}:frz (lk r x a b)=lk r x a b:=rfl
theorem Wl {x:T} {e:Nat} (he:e<=2) (hx:W e x):∀ (n d:Nat),d<=n->∀ r:Ru,JV d r->zx n 0 [r.t,x]= .ok (.bl (kp r x))
 | 0,d,h,r,hr=>by
  have:d=0:=by omega
  subst this; cases hr
 | n+1,d,h,r,hr=>by
  show zu (JO (ju 8) (zx n 0) [.vl r.t, .vl x, .un, .un, .un, .un, .un])=_
  have hv:ju 8 [x]= .ok (.lst (lv x)):=vo 8 e (by omega) (by omega) x hx
  have hl:=w9 he hx
  have hB:bnd=16777216:=rfl
  have hi:(JB (lv x)).length<=9:=Nat.le_trans (Ye _) hl
  have e1:Zf 2 (Z9 (Jh (zc 1 (ju 8) (z9 (vE 1) (zj)))) (zD 0) (wG (ap1 (yS "int") (vB 0))) (vE 0) 1 []) [.vl r.t, .vl x, .un, .un, .un, .un, .un]= .nx [.vl r.t, .vl x, .vl (.lst ((JB (lv x)).map T.int)), .un, .un, .un, .un]:=by
   have ec:zG (zD 0) (wG (ap1 (yS "int") (vB 0))) (vE 0) 1 [] [.vl r.t, .vl x, .un, .un, .un, .un, .un] (lv x)= .ok ((lv x).filter isW):=
    jh _ (by omega) fun t ht=>⟨by cases z2t hx t ht <;> rfl,rfl⟩
   rw [Zk (t:= .lst ((JB (lv x)).map T.int))]
   ·rfl
   ·rw [Z4,jS,Z8,v1,bOk,hv,bOk]
    show ((zG _ _ _ _ _ _ (lv x)).bind _)=_
    rw [ec,bOk,UN]
  have e2:Zf 3 (ifE (wG (ap1 (yS "tuple") (vB 1))) (vE 1) (jo (z9 (vE 1) (zj)))) [.vl r.t, .vl x, .vl (.lst ((JB (lv x)).map T.int)), .un, .un, .un, .un]= .nx (lk r.t x (.lst ((JB (lv x)).map T.int)) (.tup (ja x))):=by
   cases hx <;> rfl
  rw [JO,zf e1,zf e2]
  cases hr with
  | @sum d a b ha hb=>
   obtain ⟨y',el⟩:=vt (r:=(Ru.sum a b).t) (x:=x) (a:= .lst ((JB (lv x)).map T.int)) (b:= .tup (ja x)) (z:= .un) (JB (lv x)) 0 .un
   rw [Int.zero_add] at el
   have e3:Zf 4 (cE (.int 0)) (lk (Ru.sum a b).t x (.lst ((JB (lv x)).map T.int)) (.tup (ja x)))= .nx [.vl (Ru.sum a b).t, .vl x, .vl (.lst ((JB (lv x)).map T.int)), .vl (.tup (ja x)), .vl (.int 0), .un, .un]:=rfl
   have e4:Wc (Jh (vE 2)) (zD 5) (Zf 4 (zg zL (vE 4) (vE 5))) [.vl (Ru.sum a b).t, .vl x, .vl (.lst ((JB (lv x)).map T.int)), .vl (.tup (ja x)), .vl (.int 0), .un, .un]= .nx [.vl (Ru.sum a b).t, .vl x, .vl (.lst ((JB (lv x)).map T.int)), .vl (.tup (ja x)), .vl (.int (JB (lv x)).sum),y', .un]:=by
    unfold Wc
    rw [jS,v2,bOk]
    exact el
   rw [zP (t:= .bl (kp (.sum a b) x))]
   ·rfl
   ·rw [wv (by rw [Ru.t]; exact lk0 true (by decide)),zf e3,zf e4,zw (t:= .bl (kp (.sum a b) x))]
    show Wv _ _ [.vl (Ru.sum a b).t, .vl x, .vl (.lst ((JB (lv x)).map T.int)), .vl (.tup (ja x)), .vl (.int (JB (lv x)).sum),z26 y', .un]=_
    rw [Ru.t]
    exact Yf (z2v U2 rfl) (z2v rfl Qg)
  | @size d a b ha hb=>
   rw [Ru.t,zf (zv (lk0 false (by decide))),zP (t:= .bl (kp (.size a b) x))]
   ·rfl
   ·rw [wv (lk0 true (by decide)),zw (t:= .bl (kp (.size a b) x))]
    rw [qw]
    exact Yf (ge_E (i:=((ja x).length:Int)) rfl U2) (z2v (i:=((ja x).length:Int)) rfl Qg)
  | @word d w hw=>
   rw [Ru.t,zf (zv (lk0 false (by decide))),zf (zv (lk0 false (by decide))),zP (t:= .bl (kp (.word w) x))]
   ·rfl
   ·rw [wv (lk0 true (by decide)),zw (t:= .bl (kp (.word w) x))]
    rw [qw]
    have ec:zG (zD 0) (zK eqC (vB 0) (zg ixT (vE 1) (cE (.int 1)))) (vE 0) 1 [0] (lk (.tup [.str "word", .str w]) x (.lst ((JB (lv x)).map T.int)) (.tup (ja x))) (lv x)= .ok ((lv x).filter (XO w)):=
     jh _ (by omega) fun t ht=>⟨by
      show zK eqC (vB 0) (zg ixT (vE 1) (cE (.int 1))) [.vl t, .vl (.tup [.str "word", .str w])]=_
      rw [Z3,w0,bOk,zy,v1,bOk,Zw,bOk,at1,bOk]
      unfold eqC
      rw [z1i],rfl⟩
    rw [ZV,Z4,jS,Z8,v1,bOk,hv,bOk]
    show (((zG _ _ _ _ _ _ (lv x)).bind _).bind _)=_
    rw [ec,bOk,bOk,show w8 zj (lk (.tup [.str "word", .str w]) x (.lst ((JB (lv x)).map T.int)) (.tup (ja x)))= .ok (.lst []) from rfl,bOk]
    have en:neC (.lst ((lv x).filter (XO w))) (.lst [])= .ok (!((lv x).filter (XO w)).isEmpty):=by cases (lv x).filter (XO w) <;> rfl
    rw [en,bOk,Gz,Bool.not_not]
    rfl
  | rising=>
   rw [Ru.t,zf (zv (lk0 false (by decide))),zf (zv (lk0 false (by decide))),zf (zv (lk0 false (by decide))),zP (t:= .bl (kp .rising x))]
   ·rfl
   ·rw [wv (lk0 true (by decide)),zw (t:= .bl (kp .rising x))]
    rw [qw,ZV,wt,w2,bOk,bOk,Gy _ (by omega),bOk,Xp,bOk]
    rfl
  | unlike=>
   rw [Ru.t,zf (zv (lk0 false (by decide))),zf (zv (lk0 false (by decide))),zf (zv (lk0 false (by decide))),zf (zv (lk0 false (by decide))),zP (t:= .bl (kp .unlike x))]
   ·rfl
   ·rw [wv (lk0 true (by decide)),zw (t:= .bl (kp .unlike x))]
    rw [qw]
    have hp3:=qt hx
    obtain ⟨q,eq,hq⟩:=kX (vq hx he) (by omega) (a:= .vl (.tup [.str "unlike"])) (b:= .vl x) (c:= .vl (.lst ((JB (lv x)).map T.int))) (ρ:=[.un, .un, .un])
    have er:Jz (ap1 wO (vB 3)) (lk (.tup [.str "unlike"]) x (.lst ((JB (lv x)).map T.int)) (.tup (ja x)))= .ok (rng 0 (ja x).length):=by
     rw [Xf (j:=((ja x).length:Int)) rfl ⟨by omega,by omega⟩,Int.toNat_natCast]
    rw [ZV,Z4,er,bOk,eq,bOk,bOk,show w8 zj (lk (.tup [.str "unlike"]) x (.lst ((JB (lv x)).map T.int)) (.tup (ja x)))= .ok (.lst []) from rfl,bOk,xN,bOk,hq]
    rfl
  | @no d r hr=>
   have ih:=Wl he hx n d (by omega) r hr
   rw [Ru.t,zf (zv (lk0 false (by decide))),zf (zv (lk0 false (by decide))),zf (zv (lk0 false (by decide))),zf (zv (lk0 false (by decide))),zf (zv (lk0 false (by decide))),zP (t:= .bl (kp (.no r) x))]
   ·rfl
   ·rw [wv (lk0 true (by decide)),zw (t:= .bl (kp (.no r) x))]
    rw [qw]
    exact Xv (by rw [ZJ,U2,bOk,v1,bOk,ih])
  | @all d r s hr hs=>
   have ih:=Wl he hx n d (by omega) r hr
   have ih' :=Wl he hx n d (by omega) s hs
   have e3:Zf 6 (Z9 (Jh (slE (vE 0) (ug (cE (.int 1))) (noO))) (zD 0) (ZI) (zc 2 (zx n 0) (z9 (vE 0) (z9 (vE 1) (zj)))) 1 [1]) (lk (.tup [.str "all",r.t,s.t]) x (.lst ((JB (lv x)).map T.int)) (.tup (ja x)))= .nx [.vl (.tup [.str "all",r.t,s.t]), .vl x, .vl (.lst ((JB (lv x)).map T.int)), .vl (.tup (ja x)), .un, .un, .vl (.lst [.bl (kp r x), .bl (kp s x)])]:=by
    rw [Zk (t:= .lst [.bl (kp r x), .bl (kp s x)])]
    ·rfl
    ·rw [Z4]
     show ((zG (zD 0) ZI (zc 2 (zx n 0) (z9 (vE 0) (z9 (vE 1) (zj)))) 1 [1] (lk (.tup [.str "all",r.t,s.t]) x (.lst ((JB (lv x)).map T.int)) (.tup (ja x))) [r.t,s.t]).bind _)=_
     have ec:zG (zD 0) ZI (zc 2 (zx n 0) (z9 (vE 0) (z9 (vE 1) (zj)))) 1 [1] (lk (.tup [.str "all",r.t,s.t]) x (.lst ((JB (lv x)).map T.int)) (.tup (ja x))) [r.t,s.t]= .ok [.bl (kp r x), .bl (kp s x)]:=by
      unfold zG
      rw [if_pos (by show 2<=bnd; omega)]
      have c1:zc 2 (zx n 0) (z9 (vE 0) (z9 (vE 1) (zj))) [.vl r.t, .vl x]= .ok (.bl (kp r x)):=by rw [ZJ,v0,bOk,v1,bOk,ih]
      have c2:zc 2 (zx n 0) (z9 (vE 0) (z9 (vE 1) (zj))) [.vl s.t, .vl x]= .ok (.bl (kp s x)):=by rw [ZJ,v0,bOk,v1,bOk,ih']
      show quiet ((zc 2 (zx n 0) (z9 (vE 0) (z9 (vE 1) (zj))) [.vl r.t, .vl x]).bind fun v=>((zc 2 (zx n 0) (z9 (vE 0) (z9 (vE 1) (zj))) [.vl s.t, .vl x]).bind fun v=>(R.ok []).bind fun vs=> .ok (v :: vs)).bind fun vs=> .ok (v :: vs))=_
      rw [c1,c2]
      rfl
     rw [ec,bOk]
   rw [Ru.t,zf (zv (lk0 false (by decide))),zf (zv (lk0 false (by decide))),zf (zv (lk0 false (by decide))),zf (zv (lk0 false (by decide))),zf (zv (lk0 false (by decide))),zf (zv (lk0 false (by decide))),zf e3,zw (t:= .bl (kp (.all r s) x))]
   ·rfl
   ·show ifE _ _ _ [.vl (.tup [.str "all",r.t,s.t]), .vl x, .vl (.lst ((JB (lv x)).map T.int)), .vl (.tup (ja x)), .un, .un, .vl (.lst [.bl (kp r x), .bl (kp s x)])]=_
    unfold ifE
    rw [ji true (by decide),bOk,if_pos rfl]
    exact Yf rfl rfl
  | @some d r s hr hs=>
   have ih:=Wl he hx n d (by omega) r hr
   have ih' :=Wl he hx n d (by omega) s hs
   have e3:Zf 6 (Z9 (Jh (slE (vE 0) (ug (cE (.int 1))) (noO))) (zD 0) (ZI) (zc 2 (zx n 0) (z9 (vE 0) (z9 (vE 1) (zj)))) 1 [1]) (lk (.tup [.str "some",r.t,s.t]) x (.lst ((JB (lv x)).map T.int)) (.tup (ja x)))= .nx [.vl (.tup [.str "some",r.t,s.t]), .vl x, .vl (.lst ((JB (lv x)).map T.int)), .vl (.tup (ja x)), .un, .un, .vl (.lst [.bl (kp r x), .bl (kp s x)])]:=by
    rw [Zk (t:= .lst [.bl (kp r x), .bl (kp s x)])]
    ·rfl
    ·rw [Z4]
     show ((zG (zD 0) ZI (zc 2 (zx n 0) (z9 (vE 0) (z9 (vE 1) (zj)))) 1 [1] (lk (.tup [.str "some",r.t,s.t]) x (.lst ((JB (lv x)).map T.int)) (.tup (ja x))) [r.t,s.t]).bind _)=_
     have ec:zG (zD 0) ZI (zc 2 (zx n 0) (z9 (vE 0) (z9 (vE 1) (zj)))) 1 [1] (lk (.tup [.str "some",r.t,s.t]) x (.lst ((JB (lv x)).map T.int)) (.tup (ja x))) [r.t,s.t]= .ok [.bl (kp r x), .bl (kp s x)]:=by
      unfold zG
      rw [if_pos (by show 2<=bnd; omega)]
      have c1:zc 2 (zx n 0) (z9 (vE 0) (z9 (vE 1) (zj))) [.vl r.t, .vl x]= .ok (.bl (kp r x)):=by rw [ZJ,v0,bOk,v1,bOk,ih]
      have c2:zc 2 (zx n 0) (z9 (vE 0) (z9 (vE 1) (zj))) [.vl s.t, .vl x]= .ok (.bl (kp s x)):=by rw [ZJ,v0,bOk,v1,bOk,ih']
      show quiet ((zc 2 (zx n 0) (z9 (vE 0) (z9 (vE 1) (zj))) [.vl r.t, .vl x]).bind fun v=>((zc 2 (zx n 0) (z9 (vE 0) (z9 (vE 1) (zj))) [.vl s.t, .vl x]).bind fun v=>(R.ok []).bind fun vs=> .ok (v :: vs)).bind fun vs=> .ok (v :: vs))=_
      rw [c1,c2]
      rfl
     rw [ec,bOk]
   rw [Ru.t,zf (zv (lk0 false (by decide))),zf (zv (lk0 false (by decide))),zf (zv (lk0 false (by decide))),zf (zv (lk0 false (by decide))),zf (zv (lk0 false (by decide))),zf (zv (lk0 false (by decide))),zf e3,zw (t:= .bl (kp (.some r s) x))]
   ·rfl
   ·show ifE _ _ _ [.vl (.tup [.str "some",r.t,s.t]), .vl x, .vl (.lst ((JB (lv x)).map T.int)), .vl (.tup (ja x)), .un, .un, .vl (.lst [.bl (kp r x), .bl (kp s x)])]=_
    unfold ifE
    rw [ji false (by decide),bOk,if_neg Bool.false_ne_true]
    exact KC rfl rfl
end G
namespace G
open PySem L2 PV
noncomputable abbrev lr (ns:List Int) (k:Int) (d:Nat) (p:Int) (a b:Sl):En:=[.vl (scr ns), .vl (.int k), .vl (.int (d:Int)), .vl (.int p),a,b]
theorem Xw {ns:List Int} {k:Int} {d:Nat} {p:Int} {a b:Sl} {j m q:Int} (h:zo [scr ns, .int (k+j), .int m]= .ok (.int q)):zc 3 zo (z9 (vE 0) (z9 (zg zL (vE 1) (cE (.int j))) (z9 (cE (.int m)) (zj)))) (lr ns k d p a b)= .ok (.int q):=by
 rw [jw,v0,bOk,zy,v1,bOk,Zw,bOk,ZR,bOk,Zw,bOk,h]
theorem Um (ns:List Int):∀ (n d:Nat),d<=n->1<=d->∀ k:Int,0<=k->∃ r:Ru,ZO n 0 [scr ns, .int k, .int (d:Int)]= .ok r.t/\JV d r
 | 0,d,h,h1,k,hk=>by omega
 | n+1,d,h,h1,k,hk=>by
  obtain ⟨p,hp,p0,p9⟩:=Za ns k 9 hk (by omega)
  have e1:Zf 3 (zc 3 zo (z9 (vE 0) (z9 (vE 1) (z9 (cE (.int 9)) (zj))))) [.vl (scr ns), .vl (.int k), .vl (.int (d:Int)), .un, .un, .un]= .nx (lr ns k d p .un .un):=by
   rw [Zk (t:= .int p)]
   ·rfl
   ·rw [jw,v0,bOk,v1,bOk,Zw,bOk,hp]
  have e:ZO (n+1) 0 [scr ns, .int k, .int (d:Int)]=zu (wm zo (ZO n 0) [.vl (scr ns), .vl (.int k), .vl (.int (d:Int)), .un, .un, .un]):=rfl
  rw [e,wm,zf e1]
  have et:gB (zK gtC (vB 2) (cE (.int 1))) (zK gtC (vB 3) (cE (.int 5))) (lr ns k d p .un .un)= .ok (decide (1 < d) && decide (5 < p)):=by
   rw [xO,Z3,w2,bOk,Zw,bOk,Gw,bOk,show decide ((1:Int) < (d:Int))=decide (1 < d) by rw [Bool.eq_iff_iff,decide_eq_true_eq,decide_eq_true_eq]; omega]
   cases decide (1 < d) with
   | true=>rw [if_pos rfl,Z3,w3,bOk,Zw,bOk,Gw,Bool.true_and]
   | false=>rfl
  by_cases hb:1 < d/\5 < p
  ·rw [decide_eq_true hb.1,decide_eq_true hb.2] at et
   obtain ⟨d,rfl⟩:∃ d',d=d' +1:=⟨d - 1,by omega⟩
   obtain ⟨r1,hr1,o1⟩:=Um ns n d (by omega) (by omega) (2*k+11) (by omega)
   obtain ⟨r2,hr2,o2⟩:=Um ns n d (by omega) (by omega) (2*k+24) (by omega)
   have m2:ZE (.int 2) (.int k)= .ok (.int (2*k)):=xQ _ _ (.inl ⟨by decide,by decide⟩)
   have e2:Zf 4 (zc 3 (ZO n 0) (z9 (vE 0) (z9 (zg zL (zg ZE (cE (.int 2)) (vE 1)) (cE (.int 11))) (z9 (zg Ub (vE 2) (cE (.int 1))) (zj))))) (lr ns k (d+1) p .un .un)= .nx (lr ns k (d+1) p (.vl r1.t) .un):=by
    rw [Zk (t:=r1.t)]
    ·rfl
    ·rw [jw,v0,bOk,zy,zy,Zw,bOk,v1,bOk,m2,bOk,Zw,bOk,ZR,bOk,zy,v2,bOk,Zw,bOk,jT,bOk,show ((d+1:Nat):Int) - 1=(d:Int) by omega,hr1]
   have c2:zc 3 (ZO n 0) (z9 (vE 0) (z9 (zg zL (zg ZE (cE (.int 2)) (vE 1)) (cE (.int 24))) (z9 (zg Ub (vE 2) (cE (.int 1))) (zj)))) (lr ns k (d+1) p (.vl r1.t) .un)= .ok r2.t:=by
    rw [jw,v0,bOk,zy,zy,Zw,bOk,v1,bOk,m2,bOk,Zw,bOk,ZR,bOk,zy,v2,bOk,Zw,bOk,jT,bOk,show ((d+1:Nat):Int) - 1=(d:Int) by omega,hr2]
   by_cases h6:p=6
   ·subst h6
    refine ⟨.no r1, ?_, .no o1⟩
    rw [zP (t:=(Ru.no r1).t)]
    ·rfl
    ·rw [wv et,zf e2,zP (t:=(Ru.no r1).t)]
     rw [wv rfl,Ru.t]
     exact zw (Vv rfl rfl)
   ·have h6' :zK eqC (vB 3) (cE (.int 6)) (lr ns k (d+1) p (.vl r1.t) .un)= .ok false:=by
     rw [Z3,w3,bOk,Zw,bOk,eqI,beq_eq_false_iff_ne.mpr h6]
    by_cases h7:p=7
    ·subst h7
     refine ⟨.all r1 r2, ?_, .all o1 o2⟩
     rw [zP (t:=(Ru.all r1 r2).t)]
     ·rfl
     ·rw [wv et,zf e2,zf (zv h6'),Ru.t]
      exact zw (z0X rfl rfl c2)
    ·have h8:p=8:=by omega
     subst h8
     refine ⟨.some r1 r2, ?_, .some o1 o2⟩
     rw [zP (t:=(Ru.some r1 r2).t)]
     ·rfl
     ·rw [wv et,zf e2,zf (zv h6'),Ru.t]
      exact zw (z0X rfl rfl c2)
  ·have et:gB (zK gtC (vB 2) (cE (.int 1))) (zK gtC (vB 3) (cE (.int 5))) (lr ns k d p .un .un)= .ok false:=by
    rw [et]
    congr 1
    rw [Bool.and_eq_false_iff,decide_eq_false_iff_not,decide_eq_false_iff_not]
    omega
   obtain ⟨d,rfl⟩:∃ d',d=d' +1:=⟨d - 1,by omega⟩
   obtain ⟨q,hq,q0,q9⟩:=Za ns (k+1) 9 (by omega) (by omega)
   have e2:Zf 5 (zg Ub (zc 3 zo (z9 (vE 0) (z9 (zg zL (vE 1) (cE (.int 1))) (z9 (cE (.int 9)) (zj))))) (cE (.int 4))) (lr ns k (d+1) p .un .un)= .nx (lr ns k (d+1) p .un (.vl (.int (q - 4)))):=by
    rw [Zk (t:= .int (q - 4))]
    ·rfl
    ·rw [zy,Xw hq,bOk,Zw,bOk,jT]
   rw [zf (zv et),zf e2]
   have hm:∃ m:Nat,m < 6/\zg Wo (vE 3) (cE (.int 6)) (lr ns k (d+1) p .un (.vl (.int (q - 4))))= .ok (.int (m:Int)):=by
    obtain ⟨w,rfl⟩:=Int.eq_ofNat_of_zero_le p0
    exact ⟨w % 6,Nat.mod_lt _ (by omega),by rw [zy,v3,bOk,Zw,bOk]; exact Ky (c:=6) (by omega)⟩
   obtain ⟨m,m6,hm⟩:=hm
   have t2:zK ltC (zg Wo (vE 3) (cE (.int 6))) (cE (.int 2)) (lr ns k (d+1) p .un (.vl (.int (q - 4))))= .ok (decide (m < 2)):=by
    rw [Z3,hm,bOk,Zw,bOk,ltI]; congr 1; rw [Bool.eq_iff_iff,decide_eq_true_eq,decide_eq_true_eq]; omega
   have tk:∀ j:Nat,zK eqC (zg Wo (vE 3) (cE (.int 6))) (cE (.int (j:Int))) (lr ns k (d+1) p .un (.vl (.int (q - 4))))= .ok (m == j):=fun j=>by
    rw [Z3,hm,bOk,Zw,bOk,eqI,X0]
   have tk2:zK eqC (zg Wo (vE 3) (cE (.int 6))) (cE (.int 2)) (lr ns k (d+1) p .un (.vl (.int (q - 4))))= .ok (m == 2):=tk 2
   have tk3:zK eqC (zg Wo (vE 3) (cE (.int 6))) (cE (.int 3)) (lr ns k (d+1) p .un (.vl (.int (q - 4))))= .ok (m == 3):=tk 3
   have tk4:zK eqC (zg Wo (vE 3) (cE (.int 6))) (cE (.int 4)) (lr ns k (d+1) p .un (.vl (.int (q - 4))))= .ok (m == 4):=tk 4
   by_cases h2:m < 2
   ·obtain ⟨u,hu,u0,u5⟩:=Za ns (k+2) 5 (by omega) (by omega)
    refine ⟨.sum (q - 4) (q - 4+u - 1), ?_, .sum ⟨by omega,by omega⟩ ⟨by omega,by omega⟩⟩
    rw [zP (t:=(Ru.sum (q - 4) (q - 4+u - 1)).t)]
    ·rfl
    ·rw [wv (by rw [t2,decide_eq_true h2]),Ru.t]
     refine zw (z0X rfl rfl ?_)
     show zg Ub _ _ (lr ns k (d+1) p .un (.vl (.int (q - 4))))=_
     rw [zy,zy,Xw hu,show vE 5 (lr ns k (d+1) p .un (.vl (.int (q - 4))))= .ok (.int (q - 4)) from rfl,bOk,bOk,ZR,bOk,Zw,bOk,jT]
   rw [zf (zv (by rw [t2,decide_eq_false h2]))]
   by_cases h3:m=2
   ·subst h3
    obtain ⟨q',hq',q'0,q'3⟩:=Za ns (k+1) 3 (by omega) (by omega)
    obtain ⟨u,hu,u0,u4⟩:=Za ns (k+2) 4 (by omega) (by omega)
    refine ⟨.size q' u, ?_, .size ⟨by omega,by omega⟩ ⟨by omega,by omega⟩⟩
    rw [zP (t:=(Ru.size q' u).t)]
    ·rfl
    ·rw [wv tk2,Ru.t]
     exact zw (z0X rfl (Xw hq') (Xw hu))
   rw [zf (zv (by rw [tk2,beq_eq_false_iff_ne.mpr h3]))]
   by_cases h4:m=3
   ·subst h4
    obtain ⟨q',hq',q'0,q'3⟩:=Za ns (k+1) 4 (by omega) (by omega)
    have hw:∃ w:Str,jv (.str w)=true/\ixT (.lst [.str "a", .str "b", .str "ab", .str "zz"]) (.int q')= .ok (.str w):=by
     have hq4:q' =0\/q' =1\/q' =2\/q' =3:=by omega
     rcases hq4 with rfl | rfl | rfl | rfl
     ·exact ⟨"a",by decide,rfl⟩
     ·exact ⟨"b",by decide,rfl⟩
     ·exact ⟨"ab",by decide,rfl⟩
     ·exact ⟨"zz",by decide,rfl⟩
    obtain ⟨w,hw,hx⟩:=hw
    refine ⟨.word w, ?_, .word hw⟩
    rw [zP (t:=(Ru.word w).t)]
    ·rfl
    ·rw [wv tk3,Ru.t]
     refine zw (Vv rfl ?_)
     show zg ixT _ _ (lr ns k (d+1) p .un (.vl (.int (q - 4))))=_
     rw [zy,Xw hq']
     exact hx
   rw [zf (zv (by rw [tk3,beq_eq_false_iff_ne.mpr h4]))]
   by_cases h5:m=4
   ·subst h5
    refine ⟨.rising, ?_, .rising⟩
    rw [zw (t:=Ru.rising.t)]
    ·rfl
    ·show ifE _ _ _ (lr ns k (d+1) p .un (.vl (.int (q - 4))))=_
     unfold ifE
     rw [tk4,bOk]
     rfl
   ·refine ⟨.unlike, ?_, .unlike⟩
    rw [zw (t:=Ru.unlike.t)]
    ·rfl
    ·show ifE _ _ _ (lr ns k (d+1) p .un (.vl (.int (q - 4))))=_
     unfold ifE
     rw [tk4,bOk,beq_eq_false_iff_ne.mpr h5]
     rfl
end G
namespace G
open PySem L2 PV
theorem GA {f:T->T->Option Bool}:∀ xs ys:List T,(∀ x∈xs,∀ y∈ys,∃ b,f x y=some b/\(b=true↔x=y))->∃ b,eqL f xs ys=some b/\(b=true↔xs=ys)
 | [],[],_=>⟨true,rfl,by simp⟩
 | [],y :: ys,_=>⟨false,rfl,by simp⟩
 | x :: xs,[],_=>⟨false,rfl,by simp⟩
 | x :: xs,y :: ys,H=>by
  obtain ⟨b,e,h⟩:=H x List.mem_cons_self y List.mem_cons_self
  obtain ⟨c,e',h'⟩:=GA xs ys fun u hu v hv=>H u (List.mem_cons_of_mem _ hu) v (List.mem_cons_of_mem _ hv)
  have e0:eqL f (x :: xs) (y :: ys)=match f x y with
   | none=>none
   | some b=>match eqL f xs ys with
    | none=>none
    | some c=>some (b && c):=rfl
  refine ⟨b && c,by rw [e0,e,e'], ?_⟩
  rw [Bool.and_eq_true,h,h',List.cons.injEq]
theorem z1k:∀ (n d e:Nat) (x y:T),d<=n->W d x->W e y->∃ b,eqF n x y=some b/\(b=true↔x=y):=by
 intro n d e x y hn hx
 induction hx generalizing n e y with
 | int d i=>
  intro hy
  cases hy with
  | int e j=>exact ⟨i == j,by cases n <;> rfl,by rw [beq_iff_eq,T.int.injEq]⟩
  | str e j=>exact ⟨false,by cases n <;> rfl,by simp⟩
  | tup h r=>exact ⟨false,by cases n <;> rfl,by simp⟩
 | str d i=>
  intro hy
  cases hy with
  | int e j=>exact ⟨false,by cases n <;> rfl,by simp⟩
  | str e j=>exact ⟨i == j,by cases n <;> rfl,by rw [beq_iff_eq,T.str.injEq]⟩
  | tup h r=>exact ⟨false,by cases n <;> rfl,by simp⟩
 | @tup d xs h r ih=>
  intro hy
  obtain ⟨n,rfl⟩:∃ m,n=m+1:=⟨n - 1,by omega⟩
  cases hy with
  | int e j=>exact ⟨false,rfl,by simp⟩
  | str e j=>exact ⟨false,rfl,by simp⟩
  | @tup e ys h' r' =>
   obtain ⟨b,e1,h1⟩:=GA (f:=eqF n) xs ys fun u hu v hv=>ih u hu n e v (by omega) (r' v hv)
   exact ⟨b,e1,by rw [h1,T.tup.injEq]⟩
theorem vv {xs ys:List T} (hx:∀ x∈xs,W 2 x) (hy:∀ y∈ys,W 2 y):∃ b,eqC (.lst xs) (.lst ys)= .ok b/\(b=true↔xs=ys):=by
 obtain ⟨b,e,h⟩:=GA (f:=eqF 29) xs ys fun u hu v hv=>z1k 29 2 2 u v (by omega) (hx u hu) (hy v hv)
 have e0:eqF 30 (.lst xs) (.lst ys)=some b:=e
 exact ⟨b,by unfold eqC; rw [e0],h⟩
theorem KD {x:T} (hx:W 2 x):∀ ys:List T,(∀ y∈ys,W 2 y)->∃ b,ya (fun y=>eqF 30 y x) ys=some b/\(b=true↔x∈ys)
 | [],_=>⟨false,rfl,by simp⟩
 | y :: ys,H=>by
  obtain ⟨b,e,h⟩:=z1k 30 2 2 y x (by omega) (H y List.mem_cons_self) hx
  obtain ⟨c,e',h'⟩:=KD hx ys fun v hv=>H v (List.mem_cons_of_mem _ hv)
  have e0:ya (fun y=>eqF 30 y x) (y :: ys)=match eqF 30 y x with
   | none=>none
   | some b=>match ya (fun y=>eqF 30 y x) ys with
    | none=>none
    | some d=>some (b || d):=rfl
  refine ⟨b || c,by rw [e0,e,e'], ?_⟩
  rw [Bool.or_eq_true,h,h',List.mem_cons]
  exact ⟨fun q=>q.elim (fun z=> .inl z.symm) .inr,fun q=>q.elim (fun z=> .inl z.symm) .inr⟩
theorem z2w {x:T} (hx:W 2 x) {ys:List T} (hy:∀ y∈ys,W 2 y) {b:Bool} (h:b=true↔x∈ys):QN x (.lst ys)= .ok (!b):=by
 obtain ⟨c,e,h'⟩:=KD hx ys hy
 have hc:c=b:=by rw [Bool.eq_iff_iff,h,h']
 subst hc
 show ((match ya (fun y=>eqF 30 y x) ys with | some b=>R.ok b | none=> .bad).bind fun b=>R.ok (!b))=_
 rw [e]
 rfl
theorem kZ {k:Kd} (hk:k.Ok 3) {x:T} (hx:x∈k.all):W 2 x:=z2s 2 k x hk ((Ya k x).mp hx)
noncomputable abbrev fl (k:Kd) (r:Ru):List T:=k.all.filter (kp r)
theorem GB {k:Kd} (hk:k.Ok 3) (r:Ru):∀ x∈fl k r,W 2 x:=fun x hx=>kZ hk (List.mem_filter.mp hx).1
theorem KF (k:Kd) (r:Ru) (h5:k.all.length<=500):(fl k r).length<=bnd:=Nat.le_trans (List.length_filter_le _ _) (Nat.le_trans h5 (by decide))
theorem yG {x:T} (hx:W 2 x) {r:Ru} (hr:JV 3 r):jR 8 [r.t,x]= .ok (.bl (kp r x)):=um (by omega) hx 8 3 (by omega) r hr
theorem uo {k:Kd} (hk:k.Ok 3) (h5:k.all.length<=500) {r:Ru} (hr:JV 3 r):we [k.t,r.t]= .ok (.lst (fl k r)):=by
 show zu (WV JN j6 (jR 8) (en2 k.t r.t))=_
 have ec:zG (zD 0) (wG (zc 2 (jR 8) (z9 (vE 1) (z9 (vE 0) (zj))))) (vE 0) 1 [1] (en2 k.t r.t) k.all= .ok (fl k r):=
  jh _ (Nat.le_trans h5 (by decide)) fun t ht=>⟨by
   show wG _ (en2 t r.t)=_
   rw [Wp,ZJ,v1,bOk,v0,bOk,yG (kZ hk ht) hr,bOk,wT],rfl⟩
 rw [WV,zf (uk (t:= .non) (by rw [Z8,v1,bOk,wX hr])),zw (t:= .lst (fl k r))]
 ·rfl
 ·show Z9 _ _ _ _ _ _ (en2 k.t r.t)=_
  rw [Z4,jS,Z8,v0,bOk,Yc hk h5,bOk]
  show ((zG _ _ _ _ _ _ k.all).bind _)=_
  rw [ec,bOk]
noncomputable def imp (k:Kd) (r s:Ru):Bool:=(fl k r).all (kp s)
theorem vZ {k:Kd} (hk:k.Ok 3) (h5:k.all.length<=500) {r s:Ru} (hr:JV 3 r) (hs:JV 3 s):Zd [k.t,r.t,s.t]= .ok (.bl (imp k r s)):=by
 show zu (WW (jR 8) we Zn [.vl k.t, .vl r.t, .vl s.t])=_
 have en:Uv (zc 1 Zn (z9 (jo (z9 (vE 1) (z9 (vE 2) (zj)))) (zj))) [.vl k.t, .vl r.t, .vl s.t]= .nx [.vl k.t, .vl r.t, .vl s.t]:=uk (t:= .non) (by
  rw [Z8,Vv v1 v2,bOk,u6 hr hs])
 have ec:zG (zD 0) ZI (zc 2 (jR 8) (z9 (vE 1) (z9 (vE 0) (zj)))) 1 [2] [.vl k.t, .vl r.t, .vl s.t] (fl k r)= .ok ((fl k r).map fun t=> .bl (kp s t)):=
  ZQ _ (KF k r h5) fun t ht=>by
   show zc 2 _ _ (en2 t s.t)=_
   rw [ZJ,v1,bOk,v0,bOk,yG (GB hk r t ht) hs]
 rw [WW,zf en,zw (t:= .bl (imp k r s))]
 ·rfl
 ·show ap1 xb _ [.vl k.t, .vl r.t, .vl s.t]=_
  rw [wt,Z4,jS,ZJ,v0,bOk,v1,bOk,uo hk h5 hr,bOk]
  show (((zG _ _ _ _ _ _ (fl k r)).bind _).bind _)=_
  rw [ec,bOk,bOk]
  show (match YQ _ with | some k=>R.ok (T.bl k) | none=> .bad)=_
  rw [WX]
  rfl
theorem K0 {k:Kd} (hk:k.Ok 3) (h5:k.all.length<=500) {r s:Ru} (hr:JV 3 r) (hs:JV 3 s):∃ b,jf [k.t,r.t,s.t]= .ok (.bl b)/\(b=true↔fl k r=fl k s):=by
 obtain ⟨b,e,h⟩:=vv (GB hk r) (GB hk s)
 refine ⟨b, ?_,h⟩
 show zu (Wj we Zn [.vl k.t, .vl r.t, .vl s.t])=_
 have en:Uv (zc 1 Zn (z9 (jo (z9 (vE 1) (z9 (vE 2) (zj)))) (zj))) [.vl k.t, .vl r.t, .vl s.t]= .nx [.vl k.t, .vl r.t, .vl s.t]:=uk (t:= .non) (by
  rw [Z8,Vv v1 v2,bOk,u6 hr hs])
 rw [Wj,zf en,zw (t:= .bl b)]
 ·rfl
 ·show jZ eqC _ _ [.vl k.t, .vl r.t, .vl s.t]=_
  rw [ZV,ZJ,v0,bOk,v1,bOk,uo hk h5 hr,bOk,ZJ,v0,bOk,v2,bOk,uo hk h5 hs,bOk,e,bOk]
theorem ww {k:Kd} {r s:Ru}:imp k r s=true↔∀ x∈k.all,kp r x=true->kp s x=true:=by
 unfold imp
 rw [List.all_eq_true]
 exact ⟨fun h x hx hr=>h x (List.mem_filter.mpr ⟨hx,hr⟩),fun h x hx=>h x (List.mem_filter.mp hx).1 (List.mem_filter.mp hx).2⟩
theorem V0 {k:Kd} {r s:Ru}:imp k r (.some r s)=true:=ww.mpr fun x _ h=>by rw [kp,h]; rfl
theorem K1 {k:Kd} {r s:Ru}:imp k (.all r s) s=true:=ww.mpr fun x _ h=>by rw [kp,Bool.and_eq_true] at h; exact h.2
theorem K2 {k:Kd} {r:Ru}:imp k r r=true:=ww.mpr fun x _ h=>h
theorem Xx {k:Kd} {r:Ru}:imp k r (.no r)=(fl k r).isEmpty:=by
 rw [Bool.eq_iff_iff,ww,List.isEmpty_iff,List.filter_eq_nil_iff]
 exact ⟨fun h x hx hr=>by have:=h x hx hr; rw [kp,hr] at this; exact absurd this (by decide),fun h x hx hr=>absurd hr (h x hx)⟩
theorem V1 {k:Kd} {r s:Ru}:imp k (.no s) (.no r)=imp k r s:=by
 rw [Bool.eq_iff_iff,ww,ww]
 constructor
 ·intro h x hx hr
  cases hs:kp s x with
  | true=>rfl
  | false=>have:=h x hx (by rw [kp,hs]; rfl); rw [kp,hr] at this; exact absurd this (by decide)
 ·intro h x hx hs
  rw [kp] at hs ⊢
  cases hr:kp r x with
  | false=>rfl
  | true=>rw [h x hx hr] at hs; exact absurd hs (by decide)
theorem Qj {k:Kd} {r s:Ru}:imp k (.some r s) r=imp k s r:=by
 rw [Bool.eq_iff_iff,ww,ww]
 constructor
 ·intro h x hx hs
  exact h x hx (by rw [kp,hs,Bool.or_true])
 ·intro h x hx hs
  rw [kp,Bool.or_eq_true] at hs
  exact hs.elim id (h x hx)
theorem GC {k:Kd} {r s:Ru}:fl k (.all r s)=fl k r↔imp k r s=true:=by
 rw [ww]
 constructor
 ·intro h x hx hr
  have:x∈fl k (.all r s):=by rw [h]; exact List.mem_filter.mpr ⟨hx,hr⟩
  have:=(List.mem_filter.mp this).2
  rw [kp,Bool.and_eq_true] at this
  exact this.2
 ·intro h
  refine List.filter_congr fun x hx=> ?_
  rw [kp]
  cases hr:kp r x with
  | true=>rw [h x hx hr]; rfl
  | false=>rfl
theorem GD {k:Kd} {r:Ru}:fl k (.no (.no r))=fl k r:=by
 refine List.filter_congr fun x _=> ?_
 rw [kp,kp,Bool.not_not]
end G
namespace G
open PySem L2 PV
noncomputable abbrev e42 (ns:List Int) (k:Kd) (d:Nat) (r s:Ru) (a b c e:Sl):En:=[.vl (scr ns), .vl k.t, .vl (.int (d:Int)), .vl r.t, .vl s.t, .vl (.lst k.all),a,b,c,e, .un]
noncomputable abbrev f42 (ns:List Int) (k:Kd) (d:Nat) (r s:Ru):En:=[.vl (scr ns), .vl k.t, .vl (.int (d:Int)), .vl r.t, .vl s.t, .vl (.lst k.all), .vl (.lst (fl k r)), .vl (.lst (fl k s)), .vl (Ru.some r s).t, .vl (Ru.all r s).t, .vl (Ru.no r).t]
theorem z2x {f g h:En->R T} {ρ:En} {x y z:T} (hf:f ρ= .ok x) (hg:g ρ= .ok y) (hh:h ρ= .ok z):w8 (z9 f (z9 g (z9 h zj))) ρ= .ok (.lst [x,y,z]):=by
 unfold w8 z9
 rw [hf,bOk,hg,bOk,hh,bOk]
 rfl
theorem V2 {f g:En->R T} {ρ:En} {a b:Bool} (hf:f ρ= .ok (.bl a)) (hg:g ρ= .ok (.bl b)) (h:a=b):zK neC f g ρ= .ok false:=by
 subst h
 rw [Z3,hf,bOk,hg,bOk]
 cases a <;> rfl
theorem XQ {k:Kd} (hk:k.Ok 3) (h5:k.all.length<=500) {r s:Ru} (hr:JV 3 r) (hs:JV 3 s) {f g:En->R T} {ρ:En} (h1:vE 1 ρ= .ok k.t) (hf:f ρ= .ok r.t) (hg:g ρ= .ok s.t):zc 3 Zd (z9 (vE 1) (z9 f (z9 g zj))) ρ= .ok (.bl (imp k r s)):=by
 rw [jw,h1,bOk,hf,bOk,hg,bOk,vZ hk h5 hr hs]
theorem z1A {k:Kd} (hk:k.Ok 3) (h5:k.all.length<=500) {r s:Ru} (hr:JV 3 r) (hs:JV 3 s) {f g:En->R T} {ρ:En} (h1:vE 1 ρ= .ok k.t) (hf:f ρ= .ok r.t) (hg:g ρ= .ok s.t):∃ b,zc 3 jf (z9 (vE 1) (z9 f (z9 g zj))) ρ= .ok (.bl b)/\(b=true↔fl k r=fl k s):=by
 obtain ⟨b,e,h⟩:=K0 hk h5 hr hs
 exact ⟨b,by rw [jw,h1,bOk,hf,bOk,hg,bOk,e],h⟩
theorem Xy {x:T} (hx:W 2 x) {d:Nat} (hd:d<=3) {r:Ru} (hr:JV d r):Zo 8 [r.t,x]= .ok (.bl (kp r x)):=Wl (by omega) hx 8 d (by omega) r hr
theorem law_ok (ns:List Int) (hn:ns.length<=63):Y2 [.fz (ns.map T.int)]= .ok (.bl true):=by
 obtain ⟨k,hk,hl,hs0⟩:=kR ns 0 (by omega) 60 (by omega)
 have h5:k.all.length<=500:=by omega
 have hall:zJ 8 [k.t]= .ok (.lst k.all):=xY 3 8 (by omega) (by omega) k hk (by omega)
 obtain ⟨p,hp,p0,p2⟩:=Za ns 2999 2 (by omega) (by omega)
 obtain ⟨d,hd⟩:∃ d:Nat,1+p=(d:Int):=⟨(1+p).toNat,by omega⟩
 have hd1:1<=d:=by omega
 have hd2:d<=2:=by omega
 obtain ⟨r,er,hr⟩:=Um ns 8 d (by omega) hd1 3000 (by omega)
 obtain ⟨s,es,hs⟩:=Um ns 8 d (by omega) hd1 3200 (by omega)
 have hr3:JV 3 r:=hr.le (by omega)
 have hs3:JV 3 s:=hs.le (by omega)
 have ho3:JV 3 (.some r s):= .some (hr.le (by omega)) (hs.le (by omega))
 have ha3:JV 3 (.all r s):= .all (hr.le (by omega)) (hs.le (by omega))
 have hnr3:JV 3 (.no r):= .no (hr.le (by omega))
 have hns3:JV 3 (.no s):= .no (hs.le (by omega))
 show zu (kI zo (zJ 8) jd (j5 8) (Zo 8) Zd jf [.vl (scr ns), .un, .un, .un, .un, .un, .un, .un, .un, .un, .un])=_
 have e1:Zf 1 (zc 3 jd (z9 (vE 0) (z9 (cE (.int 0)) (z9 (cE (.int 60)) (zj))))) [.vl (scr ns), .un, .un, .un, .un, .un, .un, .un, .un, .un, .un]= .nx [.vl (scr ns), .vl k.t, .un, .un, .un, .un, .un, .un, .un, .un, .un]:=by
  rw [Zk (t:=k.t)]
  ·rfl
  ·rw [jw,v0,bOk,Zw,bOk,Zw,bOk]; exact hs0
 have e2:Zf 2 (zg zL (cE (.int 1)) (zc 3 zo (z9 (vE 0) (z9 (cE (.int 2999)) (z9 (cE (.int 2)) (zj)))))) [.vl (scr ns), .vl k.t, .un, .un, .un, .un, .un, .un, .un, .un, .un]= .nx [.vl (scr ns), .vl k.t, .vl (.int (d:Int)), .un, .un, .un, .un, .un, .un, .un, .un]:=by
  rw [Zk (t:= .int (d:Int))]
  ·rfl
  ·rw [zy,Zw,bOk,jw,v0,bOk,Zw,bOk,Zw,bOk,hp,bOk,ZR,hd]
 have e3:z1v (jo (z9 (zc 3 (j5 8) (z9 (vE 0) (z9 (cE (.int 3000)) (z9 (vE 2) (zj))))) (z9 (zc 3 (j5 8) (z9 (vE 0) (z9 (cE (.int 3200)) (z9 (vE 2) (zj))))) (zj)))) (jq 3 4) [.vl (scr ns), .vl k.t, .vl (.int (d:Int)), .un, .un, .un, .un, .un, .un, .un, .un]= .nx [.vl (scr ns), .vl k.t, .vl (.int (d:Int)), .vl r.t, .vl s.t, .un, .un, .un, .un, .un, .un]:=by
  have c1:zc 3 (j5 8) (z9 (vE 0) (z9 (cE (.int 3000)) (z9 (vE 2) (zj)))) [.vl (scr ns), .vl k.t, .vl (.int (d:Int)), .un, .un, .un, .un, .un, .un, .un, .un]= .ok r.t:=by
   rw [jw,v0,bOk,Zw,bOk,v2,bOk]; exact er
  have c2:zc 3 (j5 8) (z9 (vE 0) (z9 (cE (.int 3200)) (z9 (vE 2) (zj)))) [.vl (scr ns), .vl k.t, .vl (.int (d:Int)), .un, .un, .un, .un, .un, .un, .un, .un]= .ok s.t:=by
   rw [jw,v0,bOk,Zw,bOk,v2,bOk]; exact es
  unfold z1v
  rw [Vv c1 c2,Ja]
  rfl
 have e4:Zf 5 (zc 1 (zJ 8) (z9 (vE 1) (zj))) [.vl (scr ns), .vl k.t, .vl (.int (d:Int)), .vl r.t, .vl s.t, .un, .un, .un, .un, .un, .un]= .nx (e42 ns k d r s .un .un .un .un):=by
  rw [Zk (t:= .lst k.all)]
  ·rfl
  ·rw [Z8,v1,bOk,hall]
 have e5:Zf 6 (Z9 (Jh (vE 5)) (zD 0) (wG (zc 2 (Zo 8) (z9 (vE 1) (z9 (vE 0) (zj))))) (vE 0) 1 [3]) (e42 ns k d r s .un .un .un .un)= .nx (e42 ns k d r s (.vl (.lst (fl k r))) .un .un .un):=by
  have ec:zG (zD 0) (wG (zc 2 (Zo 8) (z9 (vE 1) (z9 (vE 0) (zj))))) (vE 0) 1 [3] (e42 ns k d r s .un .un .un .un) k.all= .ok (fl k r):=
   jh _ (Nat.le_trans h5 (by decide)) fun t ht=>⟨by
    show wG _ (en2 t r.t)=_
    rw [Wp,ZJ,v1,bOk,v0,bOk,Xy (kZ hk ht) (by omega) hr,bOk,wT],rfl⟩
  rw [Zk (t:= .lst (fl k r))]
  ·rfl
  ·rw [Z4]
   show ((zG _ _ _ _ _ _ k.all).bind _)=_
   rw [ec,bOk]
 have e6:Zf 7 (Z9 (Jh (vE 5)) (zD 0) (wG (zc 2 (Zo 8) (z9 (vE 1) (z9 (vE 0) (zj))))) (vE 0) 1 [4]) (e42 ns k d r s (.vl (.lst (fl k r))) .un .un .un)= .nx (e42 ns k d r s (.vl (.lst (fl k r))) (.vl (.lst (fl k s))) .un .un):=by
  have ec:zG (zD 0) (wG (zc 2 (Zo 8) (z9 (vE 1) (z9 (vE 0) (zj))))) (vE 0) 1 [4] (e42 ns k d r s (.vl (.lst (fl k r))) .un .un .un) k.all= .ok (fl k s):=
   jh _ (Nat.le_trans h5 (by decide)) fun t ht=>⟨by
    show wG _ (en2 t s.t)=_
    rw [Wp,ZJ,v1,bOk,v0,bOk,Xy (kZ hk ht) (by omega) hs,bOk,wT],rfl⟩
  rw [Zk (t:= .lst (fl k s))]
  ·rfl
  ·rw [Z4]
   show ((zG _ _ _ _ _ _ k.all).bind _)=_
   rw [ec,bOk]
 have t1:zK neC (zc 3 Zd (z9 (vE 1) (z9 (vE 3) (z9 (vE 4) (zj))))) (jZ eqC (Z9 (Jh (vE 6)) (zD 0) (zK QN (vB 0) (vB 1)) (vE 0) 1 [7]) (w8 (zj))) (e42 ns k d r s (.vl (.lst (fl k r))) (.vl (.lst (fl k s))) .un .un)= .ok false:=by
  have ec:zG (zD 0) (zK QN (vB 0) (vB 1)) (vE 0) 1 [7] (e42 ns k d r s (.vl (.lst (fl k r))) (.vl (.lst (fl k s))) .un .un) (fl k r)= .ok ((fl k r).filter fun t=> !kp s t):=
   jh _ (KF k r h5) fun t ht=>⟨by
    show zK QN (vB 0) (vB 1) (en2 t (.lst (fl k s)))=_
    rw [Z3,w0,bOk,w1,bOk]
    exact z2w (GB hk r t ht) (GB hk s) (by rw [List.mem_filter]; exact ⟨fun z=>⟨(List.mem_filter.mp ht).1,z⟩,fun z=>z.2⟩),rfl⟩
  refine V2 (XQ hk h5 hr3 hs3 rfl rfl rfl) (b:=imp k r s) ?_ rfl
  rw [ZV,Z4]
  show (((zG _ _ _ _ _ _ (fl k r)).bind _).bind _)=_
  rw [ec,bOk,bOk]
  show ((eqC (.lst ((fl k r).filter fun t=> !kp s t)) (.lst [])).bind _)=_
  rw [xN,bOk,uL]
  rfl
 obtain ⟨b,eb,hb⟩:=vv (GB hk r) (GB hk s)
 have t2:orT (zK neC (zc 3 jf (z9 (vE 1) (z9 (vE 3) (z9 (vE 4) (zj))))) (jZ eqC (vB 6) (vB 7))) (zK neC (zc 3 jf (z9 (vE 1) (z9 (vE 4) (z9 (vE 3) (zj))))) (jZ eqC (vB 6) (vB 7))) (e42 ns k d r s (.vl (.lst (fl k r))) (.vl (.lst (fl k s))) .un .un)= .ok false:=by
  have hq:jZ eqC (vB 6) (vB 7) (e42 ns k d r s (.vl (.lst (fl k r))) (.vl (.lst (fl k s))) .un .un)= .ok (.bl b):=by
   rw [ZV]
   show ((eqC (.lst (fl k r)) (.lst (fl k s))).bind _)=_
   rw [eb,bOk]
  obtain ⟨b1,eb1,hb1⟩:=z1A hk h5 hr3 hs3 (f:=vE 3) (g:=vE 4) (ρ:=e42 ns k d r s (.vl (.lst (fl k r))) (.vl (.lst (fl k s))) .un .un) rfl rfl rfl
  obtain ⟨b2,eb2,hb2⟩:=z1A hk h5 hs3 hr3 (f:=vE 4) (g:=vE 3) (ρ:=e42 ns k d r s (.vl (.lst (fl k r))) (.vl (.lst (fl k s))) .un .un) rfl rfl rfl
  exact qY (V2 eb1 hq (by rw [Bool.eq_iff_iff,hb1,hb])) (V2 eb2 hq (by rw [Bool.eq_iff_iff,hb2,hb]; exact ⟨Eq.symm,Eq.symm⟩))
 have e7:Ga 8 9 10 (z9 (jo (z9 (cE (.str "some")) (z9 (vE 3) (z9 (vE 4) (zj))))) (z9 (jo (z9 (cE (.str "all")) (z9 (vE 3) (z9 (vE 4) (zj))))) (z9 (jo (z9 (cE (.str "no")) (z9 (vE 3) (zj)))) (zj)))) (e42 ns k d r s (.vl (.lst (fl k r))) (.vl (.lst (fl k s))) .un .un)= .nx (f42 ns k d r s):=rfl
 have t3:zK neC (w8 (z9 (zc 3 Zd (z9 (vE 1) (z9 (vE 3) (z9 (vE 8) (zj))))) (z9 (zc 3 Zd (z9 (vE 1) (z9 (vE 9) (z9 (vE 4) (zj))))) (z9 (zc 3 Zd (z9 (vE 1) (z9 (vE 3) (z9 (vE 3) (zj))))) (zj))))) (zg ZE (w8 (z9 (cE (.bl true)) (zj))) (cE (.int 3))) (f42 ns k d r s)= .ok false:=by
  have i1:=XQ hk h5 hr3 ho3 (f:=vE 3) (g:=vE 8) (ρ:=f42 ns k d r s) rfl rfl rfl
  have i2:=XQ hk h5 ha3 hs3 (f:=vE 9) (g:=vE 4) (ρ:=f42 ns k d r s) rfl rfl rfl
  have i3:=XQ hk h5 hr3 hr3 (f:=vE 3) (g:=vE 3) (ρ:=f42 ns k d r s) rfl rfl rfl
  rw [V0] at i1
  rw [K1] at i2
  rw [K2] at i3
  rw [Z3,z2x i1 i2 i3,bOk]
  rfl
 have t4:orT (gB (zK eqC (vB 2) (cE (.int 1))) (zK YM (zc 3 jf (z9 (vE 1) (z9 (jo (z9 (cE (.str "no")) (z9 (vE 10) (zj)))) (z9 (vE 3) (zj))))) (cE (.bl true)))) (zK neC (zc 3 Zd (z9 (vE 1) (z9 (vE 3) (z9 (vE 10) (zj))))) (jZ eqC (vB 6) (w8 (zj)))) (f42 ns k d r s)= .ok false:=by
  refine qY ?_ ?_
  ·rw [xO,Z3,w2,bOk,Zw,bOk,eqI,bOk]
   cases hd' :((d:Int) == 1) with
   | false=>rfl
   | true=>
    have hdd:d=1:=by have:=beq_iff_eq.mp hd'; omega
    subst hdd
    obtain ⟨b1,eb1,hb1⟩:=z1A hk h5 (r:= .no (.no r)) (s:=r) (.no (.no hr)) hr3 (f:=jo (z9 (cE (.str "no")) (z9 (vE 10) (zj)))) (g:=vE 3) (ρ:=f42 ns k 1 r s) rfl rfl rfl
    rw [hb1.mpr GD] at eb1
    rw [if_pos rfl,Z3,eb1,bOk]
    rfl
  ·refine V2 (XQ hk h5 hr3 hnr3 rfl rfl rfl) (b:=(fl k r).isEmpty) ?_ Xx
   rw [ZV]
   show ((eqC (.lst (fl k r)) (.lst [])).bind _)=_
   rw [xN,bOk]
 have t5:zK neC (zc 3 Zd (z9 (vE 1) (z9 (jo (z9 (cE (.str "no")) (z9 (vE 4) (zj)))) (z9 (vE 10) (zj))))) (zc 3 Zd (z9 (vE 1) (z9 (vE 3) (z9 (vE 4) (zj))))) (f42 ns k d r s)= .ok false:=
  V2 (XQ hk h5 hns3 hnr3 rfl rfl rfl) (XQ hk h5 hr3 hs3 rfl rfl rfl) V1
 have t6:zK neC (zc 3 Zd (z9 (vE 1) (z9 (vE 8) (z9 (vE 3) (zj))))) (zc 3 Zd (z9 (vE 1) (z9 (vE 4) (z9 (vE 3) (zj))))) (f42 ns k d r s)= .ok false:=
  V2 (XQ hk h5 ho3 hr3 rfl rfl rfl) (XQ hk h5 hs3 hr3 rfl rfl rfl) Qj
 rw [kI,zf e1,zf e2,zf e3,zf e4,zf e5,zf e6,zf (zv t1),zf (zv t2),zf e7,zf (zv t3),zf (zv t4),zf (zv t5),zf (zv t6),zw (t:= .bl true)]
 ·rfl
 ·show jZ eqC _ _ (f42 ns k d r s)=_
  obtain ⟨b1,eb1,hb1⟩:=z1A hk h5 ha3 hr3 (f:=vE 9) (g:=vE 3) (ρ:=f42 ns k d r s) rfl rfl rfl
  have hbb:b1=imp k r s:=by rw [Bool.eq_iff_iff,hb1,GC]
  subst hbb
  rw [ZV,eb1,bOk,XQ hk h5 hr3 hs3 rfl rfl rfl,bOk]
  cases imp k r s <;> rfl
end G
namespace G
open PySem PySem.Spec PyProof.Rows L2 PV
noncomputable def top (i:Nat):Stmt:=PySem.Challenge.pw_worthkinds_k42_whole_implied.main.body.getD i (.Pass ⟨0,0,0,0⟩)
noncomputable abbrev UO:Stmt:=top 47
noncomputable abbrev Qk:List Str:=["_law_script","_law_k"]
theorem qx:zr Qk ["_law_script","_law_k"] (ze UO):=by refine ⟨rfl,rfl,rfl, ?_,rfl, ?_, ?_⟩ <;> decide+kernel
noncomputable abbrev UP:Stmt:=top 48
noncomputable abbrev Ql:List Str:=["_law_script","_law_k","_law_many","_law_drawn"]
theorem uO:zr Ql ["_law_script","_law_k","_law_many"] (ze UP):=by refine ⟨rfl,rfl,rfl, ?_,rfl, ?_, ?_⟩ <;> decide+kernel
noncomputable abbrev JW:Stmt:=top 49
noncomputable abbrev Wr:List Str:=["_law_script","_law_at","_law_letters"]
theorem wY:zr Wr ["_law_script","_law_at"] (ze JW):=by refine ⟨rfl,rfl,rfl, ?_,rfl, ?_, ?_⟩ <;> decide+kernel
noncomputable abbrev J7:Stmt:=top 50
noncomputable abbrev wB:List Str:=["_law_script","_law_at","_law_low","_law_words","_law_k","_law_word"]
theorem Z6:zr wB ["_law_script","_law_at"] (ze J7):=by refine ⟨rfl,rfl,rfl, ?_,rfl, ?_, ?_⟩ <;> decide+kernel
noncomputable abbrev Wz:Stmt:=top 51
noncomputable abbrev UQ:List Str:=["_law_script","_law_at","_law_deep","_law_way","_law_some","_law_low"]
theorem JP:zr UQ ["_law_script","_law_at","_law_deep"] (ze Wz):=by refine ⟨rfl,rfl,rfl, ?_,rfl, ?_, ?_⟩ <;> decide+kernel
noncomputable abbrev JX:Stmt:=top 53
noncomputable abbrev Ws:List Str:=["_law_lists","_law_made","_law_some","_law_longer","_law_ahead"]
theorem Zl:zr Ws ["_law_lists"] (ze JX):=by refine ⟨rfl,rfl,rfl, ?_,rfl, ?_, ?_⟩ <;> decide+kernel
noncomputable abbrev Wm:Stmt:=top 52
noncomputable abbrev uq:List Str:=["_law_kind_here","_law_made","_law_size_here"]
theorem WA:zr uq ["_law_kind_here"] (ze Wm):=by refine ⟨rfl,rfl,rfl, ?_,rfl, ?_, ?_⟩ <;> decide+kernel
noncomputable abbrev WB:Stmt:=top 54
noncomputable abbrev UR:List Str:=["_law_kind_here","_law_sizes","_law_made","_law_size_here","_law_inner"]
theorem Ze:zr UR ["_law_kind_here"] (ze WB):=by refine ⟨rfl,rfl,rfl, ?_,rfl, ?_, ?_⟩ <;> decide+kernel
noncomputable abbrev uP:Stmt:=top 55
noncomputable abbrev qy:List Str:=["_law_script","_law_at","_law_most","_law_kind_here","_law_k"]
theorem Jf:zr qy ["_law_script","_law_at","_law_most"] (ze uP):=by refine ⟨rfl,rfl,rfl, ?_,rfl, ?_, ?_⟩ <;> decide+kernel
noncomputable abbrev US:Stmt:=top 56
noncomputable abbrev Qm:List Str:=["_law_script","_law_at","_law_deep","_law_way","_law_one","_law_low"]
theorem JQ:zr Qm ["_law_script","_law_at","_law_deep"] (ze US):=by refine ⟨rfl,rfl,rfl, ?_,rfl, ?_, ?_⟩ <;> decide+kernel
noncomputable abbrev yH:Stmt:=top 9
noncomputable abbrev V3:List Str:=["thing"]
theorem Qn:zr V3 ["thing"] (ze yH):=by refine ⟨rfl,rfl,rfl, ?_,rfl, ?_, ?_⟩ <;> decide+kernel
noncomputable abbrev yI:Stmt:=top 35
noncomputable abbrev V4:List Str:=["thing"]
theorem Qo:zr V4 ["thing"] (ze yI):=by refine ⟨rfl,rfl,rfl, ?_,rfl, ?_, ?_⟩ <;> decide+kernel
noncomputable abbrev UT:Stmt:=top 11
noncomputable abbrev qz:List Str:=["thing"]
theorem V5:zr qz ["thing"] (ze UT):=by refine ⟨rfl,rfl,rfl, ?_,rfl, ?_, ?_⟩ <;> decide+kernel
noncomputable abbrev wC:Stmt:=top 34
noncomputable abbrev U3:List Str:=["thing","levels"]
theorem ur:zr U3 ["thing","levels"] (ze wC):=by refine ⟨rfl,rfl,rfl, ?_,rfl, ?_, ?_⟩ <;> decide+kernel
noncomputable abbrev qA:Stmt:=top 30
noncomputable abbrev Xz:List Str:=["thing"]
theorem V6:zr Xz ["thing"] (ze qA):=by refine ⟨rfl,rfl,rfl, ?_,rfl, ?_, ?_⟩ <;> decide+kernel
noncomputable abbrev UU:Stmt:=top 32
noncomputable abbrev Qp:List Str:=["rule"]
theorem qB:zr Qp ["rule"] (ze UU):=by refine ⟨rfl,rfl,rfl, ?_,rfl, ?_, ?_⟩ <;> decide+kernel
noncomputable abbrev uQ:Stmt:=top 33
noncomputable abbrev qC:List Str:=["rules","rule"]
theorem u7:zr qC ["rules"] (ze uQ):=by refine ⟨rfl,rfl,rfl, ?_,rfl, ?_, ?_⟩ <;> decide+kernel
noncomputable abbrev wZ:Stmt:=top 42
noncomputable abbrev uR:List Str:=["parts"]
theorem Yg:zr uR ["parts"] (ze wZ):=by refine ⟨rfl,rfl,rfl, ?_,rfl, ?_, ?_⟩ <;> decide+kernel
noncomputable abbrev W0:Stmt:=top 41
noncomputable abbrev uS:List Str:=["numbers"]
theorem Yh:zr uS ["numbers"] (ze W0):=by refine ⟨rfl,rfl,rfl, ?_,rfl, ?_, ?_⟩ <;> decide+kernel
noncomputable abbrev yJ:Stmt:=top 38
noncomputable abbrev V7:List Str:=["worth"]
theorem Qq:zr V7 ["worth"] (ze yJ):=by refine ⟨rfl,rfl,rfl, ?_,rfl, ?_, ?_⟩ <;> decide+kernel
noncomputable abbrev UV:Stmt:=top 39
noncomputable abbrev Qr:List Str:=["worth","leaves","part"]
theorem W1:zr Qr ["worth"] (ze UV):=by refine ⟨rfl,rfl,rfl, ?_,rfl, ?_, ?_⟩ <;> decide+kernel
noncomputable abbrev W2:Stmt:=top 40
noncomputable abbrev uT:List Str:=["worth"]
theorem Yi:zr uT ["worth"] (ze W2):=by refine ⟨rfl,rfl,rfl, ?_,rfl, ?_, ?_⟩ <;> decide+kernel
noncomputable abbrev wD:Stmt:=top 37
noncomputable abbrev U4:List Str:=["rule","worth"]
theorem ut:zr U4 ["rule","worth"] (ze wD):=by refine ⟨rfl,rfl,rfl, ?_,rfl, ?_, ?_⟩ <;> decide+kernel
noncomputable abbrev qD:Stmt:=top 36
noncomputable abbrev XA:List Str:=["rule","worth"]
theorem V8:zr XA ["rule","worth"] (ze qD):=by refine ⟨rfl,rfl,rfl, ?_,rfl, ?_, ?_⟩ <;> decide+kernel
noncomputable abbrev qE:Stmt:=top 12
noncomputable abbrev XB:List Str:=["low","high","least","most"]
theorem V9:zr XB ["low","high","least","most"] (ze qE):=by refine ⟨rfl,rfl,rfl, ?_,rfl, ?_, ?_⟩ <;> decide+kernel
noncomputable abbrev u8:Stmt:=top 10
noncomputable abbrev Yj:List Str:=["thing","least","most"]
theorem yj:zr Yj ["thing","least","most"] (ze u8):=by refine ⟨rfl,rfl,rfl, ?_,rfl, ?_, ?_⟩ <;> decide+kernel
noncomputable abbrev UW:Stmt:=top 15
noncomputable abbrev Qs:List Str:=["thing"]
theorem qF:zr Qs ["thing"] (ze UW):=by refine ⟨rfl,rfl,rfl, ?_,rfl, ?_, ?_⟩ <;> decide+kernel
noncomputable abbrev Jg:Stmt:=top 14
noncomputable abbrev wx:List Str:=["thing","words"]
theorem Wt:zr wx ["thing"] (ze Jg):=by refine ⟨rfl,rfl,rfl, ?_,rfl, ?_, ?_⟩ <;> decide+kernel
noncomputable abbrev wE:Stmt:=top 13
noncomputable abbrev U5:List Str:=["thing","levels"]
theorem uu:zr U5 ["thing","levels"] (ze wE):=by refine ⟨rfl,rfl,rfl, ?_,rfl, ?_, ?_⟩ <;> decide+kernel
noncomputable abbrev jx:Stmt:=top 16
noncomputable abbrev JR:List Str:=["thing","levels"]
theorem WC:zr JR ["thing","levels"] (ze jx):=by refine ⟨rfl,rfl,rfl, ?_,rfl, ?_, ?_⟩ <;> decide+kernel
noncomputable abbrev qG:Stmt:=top 7
noncomputable abbrev XD:List Str:=["thing"]
theorem Va:zr XD ["thing"] (ze qG):=by refine ⟨rfl,rfl,rfl, ?_,rfl, ?_, ?_⟩ <;> decide+kernel
noncomputable abbrev UX:Stmt:=top 8
noncomputable abbrev Qt:List Str:=["kind"]
theorem qH:zr Qt ["kind"] (ze UX):=by refine ⟨rfl,rfl,rfl, ?_,rfl, ?_, ?_⟩ <;> decide+kernel
noncomputable abbrev yK:Stmt:=top 21
noncomputable abbrev Vb:List Str:=["kind"]
theorem Qu:zr Vb ["kind"] (ze yK):=by refine ⟨rfl,rfl,rfl, ?_,rfl, ?_, ?_⟩ <;> decide+kernel
noncomputable abbrev wF:Stmt:=top 22
noncomputable abbrev U6:List Str:=["kinds","count","kind"]
theorem ZT:zr U6 ["kinds"] (ze wF):=by refine ⟨rfl,rfl,rfl, ?_,rfl, ?_, ?_⟩ <;> decide+kernel
noncomputable abbrev Js:Stmt:=top 23
noncomputable abbrev W3:List Str:=["kind","length"]
theorem U7:zr W3 ["kind","length"] (ze Js):=by refine ⟨rfl,rfl,rfl, ?_,rfl, ?_, ?_⟩ <;> decide+kernel
noncomputable abbrev Jt:Stmt:=top 17
noncomputable abbrev W4:List Str:=["kind"]
theorem U8:zr W4 ["kind"] (ze Jt):=by refine ⟨rfl,rfl,rfl, ?_,rfl, ?_, ?_⟩ <;> decide+kernel
noncomputable abbrev yL:Stmt:=top 24
noncomputable abbrev Vc:List Str:=["kind","number"]
theorem Qv:zr Vc ["kind","number"] (ze yL):=by refine ⟨rfl,rfl,rfl, ?_,rfl, ?_, ?_⟩ <;> decide+kernel
noncomputable abbrev qI:Stmt:=top 25
noncomputable abbrev XE:List Str:=["kind","number","length"]
theorem uv:zr XE ["kind","number"] (ze qI):=by refine ⟨rfl,rfl,rfl, ?_,rfl, ?_, ?_⟩ <;> decide+kernel
noncomputable abbrev yM:Stmt:=top 26
noncomputable abbrev Vd:List Str:=["kinds","number","parts","rest","kind","count"]
theorem jG:zr Vd ["kinds","number"] (ze yM):=by refine ⟨rfl,rfl,rfl, ?_,rfl, ?_, ?_⟩ <;> decide+kernel
noncomputable abbrev W5:Stmt:=top 20
noncomputable abbrev uU:List Str:=["kind","count"]
theorem u9:zr uU ["kind"] (ze W5):=by refine ⟨rfl,rfl,rfl, ?_,rfl, ?_, ?_⟩ <;> decide+kernel
noncomputable abbrev UY:Stmt:=top 31
noncomputable abbrev qJ:List Str:=["kind","rule"]
theorem Ve:zr qJ ["kind","rule"] (ze UY):=by refine ⟨rfl,rfl,rfl, ?_,rfl, ?_, ?_⟩ <;> decide+kernel
noncomputable abbrev UZ:Stmt:=top 44
noncomputable abbrev qK:List Str:=["kind","one","other"]
theorem Vf:zr qK ["kind","one","other"] (ze UZ):=by refine ⟨rfl,rfl,rfl, ?_,rfl, ?_, ?_⟩ <;> decide+kernel
noncomputable abbrev yN:Stmt:=top 45
noncomputable abbrev Vg:List Str:=["kind","one","other"]
theorem Qw:zr Vg ["kind","one","other"] (ze yN):=by refine ⟨rfl,rfl,rfl, ?_,rfl, ?_, ?_⟩ <;> decide+kernel
noncomputable abbrev ua:Stmt:=top 57
noncomputable abbrev Yk:List Str:=["_law_worth","_law_made","_law_part"]
theorem jM:zr Yk ["_law_worth"] (ze ua):=by refine ⟨rfl,rfl,rfl, ?_,rfl, ?_, ?_⟩ <;> decide+kernel
noncomputable abbrev jj:Stmt:=top 58
noncomputable abbrev jV:List Str:=["_law_rule_here","_law_worth","_law_numbers","_law_parts","_law_total","_law_number","_law_some"]
theorem Zv:zr jV ["_law_rule_here","_law_worth"] (ze jj):=by refine ⟨rfl,rfl,rfl, ?_,rfl, ?_, ?_⟩ <;> decide+kernel
noncomputable abbrev XF:Stmt:=top 59
noncomputable abbrev K3:List Str:=["_law_script","_law_kind_here","_law_deep","_law_one","_law_other","_law_worths","_law_mine","_law_yours","_law_either","_law_both_of","_law_never"]
theorem uV:zr K3 ["_law_script"] (ze XF):=by refine ⟨rfl,rfl,rfl, ?_,rfl, ?_, ?_⟩ <;> decide+kernel
structure Fn (K:PySem.W.Frag) (mg:Str->Option Value) (x:Str) (st:Stmt) (ps:List Str) (f:Addr) (fd:FuncData):Prop where
 F:Fun K x x st f fd
 b:L2.Binds K fd ps []
 m:mg x=some (.ref f)
noncomputable abbrev GJ:List Value:=[.type "ValueError", .type "Exception", .type "BaseException", .type "object"]
set_option genInjectivity false in
set_option genSizeOf false in
structure Tx (K:PySem.W.Frag) (mg:Str->Option Value) where
 a__law_cell:Addr
 d__law_cell:FuncData
 C__law_cell:Fn K mg "_law_cell" UO ["_law_script","_law_k"] a__law_cell d__law_cell
 a__law_pick:Addr
 d__law_pick:FuncData
 C__law_pick:Fn K mg "_law_pick" UP ["_law_script","_law_k","_law_many"] a__law_pick d__law_pick
 a__law_word_of:Addr
 d__law_word_of:FuncData
 C__law_word_of:Fn K mg "_law_word_of" JW ["_law_script","_law_at"] a__law_word_of d__law_word_of
 a__law_leaf_kind:Addr
 d__law_leaf_kind:FuncData
 C__law_leaf_kind:Fn K mg "_law_leaf_kind" J7 ["_law_script","_law_at"] a__law_leaf_kind d__law_leaf_kind
 a__law_kind:Addr
 d__law_kind:FuncData
 C__law_kind:Fn K mg "_law_kind" Wz ["_law_script","_law_at","_law_deep"] a__law_kind d__law_kind
 a__law_rows_of:Addr
 d__law_rows_of:FuncData
 C__law_rows_of:Fn K mg "_law_rows_of" JX ["_law_lists"] a__law_rows_of d__law_rows_of
 a__law_all:Addr
 d__law_all:FuncData
 C__law_all:Fn K mg "_law_all" Wm ["_law_kind_here"] a__law_all d__law_all
 a__law_size:Addr
 d__law_size:FuncData
 C__law_size:Fn K mg "_law_size" WB ["_law_kind_here"] a__law_size d__law_size
 a__law_small:Addr
 d__law_small:FuncData
 C__law_small:Fn K mg "_law_small" uP ["_law_script","_law_at","_law_most"] a__law_small d__law_small
 a__law_rule:Addr
 d__law_rule:FuncData
 C__law_rule:Fn K mg "_law_rule" US ["_law_script","_law_at","_law_deep"] a__law_rule d__law_rule
 a_is_whole:Addr
 d_is_whole:FuncData
 C_is_whole:Fn K mg "is_whole" yH ["thing"] a_is_whole d_is_whole
 a_is_bound:Addr
 d_is_bound:FuncData
 C_is_bound:Fn K mg "is_bound" yI ["thing"] a_is_bound d_is_bound
 a_is_word:Addr
 d_is_word:FuncData
 C_is_word:Fn K mg "is_word" UT ["thing"] a_is_word d_is_word
 a_is_rule_within:Addr
 d_is_rule_within:FuncData
 C_is_rule_within:Fn K mg "is_rule_within" wC ["thing","levels"] a_is_rule_within d_is_rule_within
 a_is_rule:Addr
 d_is_rule:FuncData
 C_is_rule:Fn K mg "is_rule" qA ["thing"] a_is_rule d_is_rule
 a_need_rule:Addr
 d_need_rule:FuncData
 C_need_rule:Fn K mg "need_rule" UU ["rule"] a_need_rule d_need_rule
 a_need_rules:Addr
 d_need_rules:FuncData
 C_need_rules:Fn K mg "need_rules" uQ ["rules"] a_need_rules d_need_rules
 a_are_unlike:Addr
 d_are_unlike:FuncData
 C_are_unlike:Fn K mg "are_unlike" wZ ["parts"] a_are_unlike d_are_unlike
 a_are_rising:Addr
 d_are_rising:FuncData
 C_are_rising:Fn K mg "are_rising" W0 ["numbers"] a_are_rising d_are_rising
 a_parts_of:Addr
 d_parts_of:FuncData
 C_parts_of:Fn K mg "parts_of" yJ ["worth"] a_parts_of d_parts_of
 a_leaves_of:Addr
 d_leaves_of:FuncData
 C_leaves_of:Fn K mg "leaves_of" UV ["worth"] a_leaves_of d_leaves_of
 a_numbers_in:Addr
 d_numbers_in:FuncData
 C_numbers_in:Fn K mg "numbers_in" W2 ["worth"] a_numbers_in d_numbers_in
 a_is_single_kept:Addr
 d_is_single_kept:FuncData
 C_is_single_kept:Fn K mg "is_single_kept" wD ["rule","worth"] a_is_single_kept d_is_single_kept
 a_is_kept:Addr
 d_is_kept:FuncData
 C_is_kept:Fn K mg "is_kept" qD ["rule","worth"] a_is_kept d_is_kept
 a_is_span:Addr
 d_is_span:FuncData
 C_is_span:Fn K mg "is_span" qE ["low","high","least","most"] a_is_span d_is_span
 a_is_tuple_of:Addr
 d_is_tuple_of:FuncData
 C_is_tuple_of:Fn K mg "is_tuple_of" u8 ["thing","least","most"] a_is_tuple_of d_is_tuple_of
 a_is_choice:Addr
 d_is_choice:FuncData
 C_is_choice:Fn K mg "is_choice" UW ["thing"] a_is_choice d_is_choice
 a_are_choices:Addr
 d_are_choices:FuncData
 C_are_choices:Fn K mg "are_choices" Jg ["thing"] a_are_choices d_are_choices
 a_is_kind_within:Addr
 d_is_kind_within:FuncData
 C_is_kind_within:Fn K mg "is_kind_within" wE ["thing","levels"] a_is_kind_within d_is_kind_within
 a_are_kinds_within:Addr
 d_are_kinds_within:FuncData
 C_are_kinds_within:Fn K mg "are_kinds_within" jx ["thing","levels"] a_are_kinds_within d_are_kinds_within
 a_is_kind:Addr
 d_is_kind:FuncData
 C_is_kind:Fn K mg "is_kind" qG ["thing"] a_is_kind d_is_kind
 a_need_kind:Addr
 d_need_kind:FuncData
 C_need_kind:Fn K mg "need_kind" UX ["kind"] a_need_kind d_need_kind
 a_count_of:Addr
 d_count_of:FuncData
 C_count_of:Fn K mg "count_of" yK ["kind"] a_count_of d_count_of
 a_count_of_parts:Addr
 d_count_of_parts:FuncData
 C_count_of_parts:Fn K mg "count_of_parts" wF ["kinds"] a_count_of_parts d_count_of_parts
 a_count_shorter:Addr
 d_count_shorter:FuncData
 C_count_shorter:Fn K mg "count_shorter" Js ["kind","length"] a_count_shorter d_count_shorter
 a_words_of_pick:Addr
 d_words_of_pick:FuncData
 C_words_of_pick:Fn K mg "words_of_pick" Jt ["kind"] a_words_of_pick d_words_of_pick
 a_worth_at:Addr
 d_worth_at:FuncData
 C_worth_at:Fn K mg "worth_at" yL ["kind","number"] a_worth_at d_worth_at
 a_many_at:Addr
 d_many_at:FuncData
 C_many_at:Fn K mg "many_at" qI ["kind","number"] a_many_at d_many_at
 a_parts_at:Addr
 d_parts_at:FuncData
 C_parts_at:Fn K mg "parts_at" yM ["kinds","number"] a_parts_at d_parts_at
 a_all_worths:Addr
 d_all_worths:FuncData
 C_all_worths:Fn K mg "all_worths" W5 ["kind"] a_all_worths d_all_worths
 a_keepers:Addr
 d_keepers:FuncData
 C_keepers:Fn K mg "keepers" UY ["kind","rule"] a_keepers d_keepers
 a_implies:Addr
 d_implies:FuncData
 C_implies:Fn K mg "implies" UZ ["kind","one","other"] a_implies d_implies
 a_alike_on:Addr
 d_alike_on:FuncData
 C_alike_on:Fn K mg "alike_on" yN ["kind","one","other"] a_alike_on d_alike_on
 a__law_leaves:Addr
 d__law_leaves:FuncData
 C__law_leaves:Fn K mg "_law_leaves" ua ["_law_worth"] a__law_leaves d__law_leaves
 a__law_keeps:Addr
 d__law_keeps:FuncData
 C__law_keeps:Fn K mg "_law_keeps" jj ["_law_rule_here","_law_worth"] a__law_keeps d__law_keeps
 a_law:Addr
 d_law:FuncData
 C_law:Fn K mg "law" XF ["_law_script"] a_law d_law
 z_all:mg "all"=none
 z_any:mg "any"=none
 z_bool:mg "bool"=none
 z_enumerate:mg "enumerate"=none
 z_int:mg "int"=none
 z_isinstance:mg "isinstance"=none
 z_len:mg "len"=none
 z_list:mg "list"=none
 z_min:mg "min"=none
 z_range:mg "range"=none
 z_reversed:mg "reversed"=none
 z_set:mg "set"=none
 z_sorted:mg "sorted"=none
 z_str:mg "str"=none
 z_sum:mg "sum"=none
 z_tuple:mg "tuple"=none
 z_zip:mg "zip"=none
 c_DEEPEST:∃ u,mg "DEEPEST"=some u/\∃ t,u=Value.int 3 t
 c_DEEPEST_RULE:∃ u,mg "DEEPEST_RULE"=some u/\∃ t,u=Value.int 3 t
 c_FARTHEST_BOUND:∃ u,mg "FARTHEST_BOUND"=some u/\∃ t,u=Value.int 50 t
 c_MOST_TOLD:∃ u,mg "MOST_TOLD"=some u/\∃ t,u=Value.int 500 t
set_option genInjectivity false in
set_option genSizeOf false in
structure Tq (K:PySem.W.Frag) (mg:Str->Option Value) (base:Heap) (cl:Nat->Value) where
 q_NoKind:Addr
 q_NoRule:Addr
 q_TooMany:Addr
 l_NoKind:cl 0= .ref q_NoKind
 l_NoRule:cl 2= .ref q_NoRule
 l_TooMany:cl 3= .ref q_TooMany
 o_NoKind:OwnCls "NoKind" q_NoKind GJ "ValueError.__new__" mg base
 o_NoRule:OwnCls "NoRule" q_NoRule GJ "ValueError.__new__" mg base
 o_TooMany:OwnCls "TooMany" q_TooMany GJ "ValueError.__new__" mg base
section
variable (P:Program) (w:World) {K:PySem.W.Frag} {mg:Str->Option Value} (base:Heap) (cl:Nat->Value) (tx:Tx K mg) (k:Nat) (c:List T->R T)
noncomputable abbrev WD:Prop:=j2 P w K mg base CX0 k tx.a__law_cell tx.d__law_cell ["_law_script","_law_k"] (spP cl 2 c)
noncomputable abbrev jb:Prop:=j2 P w K mg base CX0 k tx.a__law_pick tx.d__law_pick ["_law_script","_law_k","_law_many"] (spP cl 3 c)
noncomputable abbrev JY:Prop:=j2 P w K mg base CX0 k tx.a__law_word_of tx.d__law_word_of ["_law_script","_law_at"] (spP cl 2 c)
noncomputable abbrev J8:Prop:=j2 P w K mg base CX0 k tx.a__law_leaf_kind tx.d__law_leaf_kind ["_law_script","_law_at"] (spP cl 2 c)
noncomputable abbrev Ju:Prop:=j2 P w K mg base CX0 k tx.a__law_kind tx.d__law_kind ["_law_script","_law_at","_law_deep"] (spP cl 3 c)
noncomputable abbrev JZ:Prop:=j2 P w K mg base CX0 k tx.a__law_rows_of tx.d__law_rows_of ["_law_lists"] (spP cl 1 c)
noncomputable abbrev Jk:Prop:=j2 P w K mg base CX0 k tx.a__law_all tx.d__law_all ["_law_kind_here"] (spP cl 1 c)
noncomputable abbrev Jv:Prop:=j2 P w K mg base CX0 k tx.a__law_size tx.d__law_size ["_law_kind_here"] (spP cl 1 c)
noncomputable abbrev W6:Prop:=j2 P w K mg base CX0 k tx.a__law_small tx.d__law_small ["_law_script","_law_at","_law_most"] (spP cl 3 c)
noncomputable abbrev Jw:Prop:=j2 P w K mg base CX0 k tx.a__law_rule tx.d__law_rule ["_law_script","_law_at","_law_deep"] (spP cl 3 c)
noncomputable abbrev Jl:Prop:=j2 P w K mg base CX0 k tx.a_is_whole tx.d_is_whole ["thing"] (spP cl 1 c)
noncomputable abbrev uw:Prop:=j2 P w K mg base CX0 k tx.a_is_bound tx.d_is_bound ["thing"] (spP cl 1 c)
noncomputable abbrev ub:Prop:=j2 P w K mg base CX0 k tx.a_is_word tx.d_is_word ["thing"] (spP cl 1 c)
noncomputable abbrev ZB:Prop:=j2 P w K mg base CX0 k tx.a_is_rule_within tx.d_is_rule_within ["thing","levels"] (spP cl 2 c)
noncomputable abbrev y0:Prop:=j2 P w K mg base CX0 k tx.a_is_rule tx.d_is_rule ["thing"] (spP cl 1 c)
noncomputable abbrev wy:Prop:=j2 P w K mg base (CX1 P w) k tx.a_need_rule tx.d_need_rule ["rule"] (spP cl 1 c)
noncomputable abbrev JS:Prop:=j2 P w K mg base (CX1 P w) k tx.a_need_rules tx.d_need_rules ["rules"] (spP cl 1 c)
noncomputable abbrev W7:Prop:=j2 P w K mg base CX0 k tx.a_are_unlike tx.d_are_unlike ["parts"] (spP cl 1 c)
noncomputable abbrev W8:Prop:=j2 P w K mg base CX0 k tx.a_are_rising tx.d_are_rising ["numbers"] (spP cl 1 c)
noncomputable abbrev ux:Prop:=j2 P w K mg base CX0 k tx.a_parts_of tx.d_parts_of ["worth"] (spP cl 1 c)
noncomputable abbrev jH:Prop:=j2 P w K mg base CX0 k tx.a_leaves_of tx.d_leaves_of ["worth"] (spP cl 1 c)
noncomputable abbrev W9:Prop:=j2 P w K mg base CX0 k tx.a_numbers_in tx.d_numbers_in ["worth"] (spP cl 1 c)
noncomputable abbrev J9:Prop:=j2 P w K mg base CX0 k tx.a_is_single_kept tx.d_is_single_kept ["rule","worth"] (spP cl 2 c)
noncomputable abbrev wf:Prop:=j2 P w K mg base CX0 k tx.a_is_kept tx.d_is_kept ["rule","worth"] (spP cl 2 c)
noncomputable abbrev y3:Prop:=j2 P w K mg base CX0 k tx.a_is_span tx.d_is_span ["low","high","least","most"] (spP cl 4 c)
noncomputable abbrev jy:Prop:=j2 P w K mg base CX0 k tx.a_is_tuple_of tx.d_is_tuple_of ["thing","least","most"] (spP cl 3 c)
noncomputable abbrev WF:Prop:=j2 P w K mg base CX0 k tx.a_is_choice tx.d_is_choice ["thing"] (spP cl 1 c)
noncomputable abbrev wz:Prop:=j2 P w K mg base CX0 k tx.a_are_choices tx.d_are_choices ["thing"] (spP cl 1 c)
noncomputable abbrev Zc:Prop:=j2 P w K mg base CX0 k tx.a_is_kind_within tx.d_is_kind_within ["thing","levels"] (spP cl 2 c)
noncomputable abbrev ZM:Prop:=j2 P w K mg base CX0 k tx.a_are_kinds_within tx.d_are_kinds_within ["thing","levels"] (spP cl 2 c)
noncomputable abbrev y6:Prop:=j2 P w K mg base CX0 k tx.a_is_kind tx.d_is_kind ["thing"] (spP cl 1 c)
noncomputable abbrev WG:Prop:=j2 P w K mg base (CX1 P w) k tx.a_need_kind tx.d_need_kind ["kind"] (spP cl 1 c)
noncomputable abbrev Jm:Prop:=j2 P w K mg base CX0 k tx.a_count_of tx.d_count_of ["kind"] (spP cl 1 c)
noncomputable abbrev ZC:Prop:=j2 P w K mg base CX0 k tx.a_count_of_parts tx.d_count_of_parts ["kinds"] (spP cl 1 c)
noncomputable abbrev ZS:Prop:=j2 P w K mg base CX0 k tx.a_count_shorter tx.d_count_shorter ["kind","length"] (spP cl 2 c)
noncomputable abbrev Jx:Prop:=j2 P w K mg base CX0 k tx.a_words_of_pick tx.d_words_of_pick ["kind"] (spP cl 1 c)
noncomputable abbrev wg:Prop:=j2 P w K mg base CX0 k tx.a_worth_at tx.d_worth_at ["kind","number"] (spP cl 2 c)
noncomputable abbrev uc:Prop:=j2 P w K mg base CX0 k tx.a_many_at tx.d_many_at ["kind","number"] (spP cl 2 c)
noncomputable abbrev wj:Prop:=j2 P w K mg base CX0 k tx.a_parts_at tx.d_parts_at ["kinds","number"] (spP cl 2 c)
noncomputable abbrev Wa:Prop:=j2 P w K mg base (CX1 P w) k tx.a_all_worths tx.d_all_worths ["kind"] (spP cl 1 c)
noncomputable abbrev ud:Prop:=j2 P w K mg base (CX1 P w) k tx.a_keepers tx.d_keepers ["kind","rule"] (spP cl 2 c)
noncomputable abbrev y7:Prop:=j2 P w K mg base (CX1 P w) k tx.a_implies tx.d_implies ["kind","one","other"] (spP cl 3 c)
noncomputable abbrev uy:Prop:=j2 P w K mg base (CX1 P w) k tx.a_alike_on tx.d_alike_on ["kind","one","other"] (spP cl 3 c)
noncomputable abbrev jz:Prop:=j2 P w K mg base CX0 k tx.a__law_leaves tx.d__law_leaves ["_law_worth"] (spP cl 1 c)
noncomputable abbrev jW:Prop:=j2 P w K mg base CX0 k tx.a__law_keeps tx.d__law_keeps ["_law_rule_here","_law_worth"] (spP cl 2 c)
noncomputable abbrev GE:Prop:=j2 P w K mg base (CX1 P w) k tx.a_law tx.d_law ["_law_script"] (spP cl 1 c)
end
theorem cZ {X:Cx} {Y:Fx} {cl:Nat->Value} {k j n:Nat} {f:Addr} {fd:FuncData} {ps:List Str} {g:List T->R T} {x:Str} {st:Stmt} {a:Expr} {es:List Expr} {ga:En->R (List T)} {p pos:Pos} (hy:Y.cl=cl) (F:j2 X.prog X.w X.K X.mg X.base CX0 j f fd ps (spP cl n g)) (hr:uW k X.A) (C:Fn X.K X.mg x st ps f fd) (ha:Q5 X Y (a :: es) ga) (hj:j<=k:=by omega) (gl:Gl X x:=by rfl) (hd:(x == ("__debug__":Str))=false:=by decide)
  (hs:starEach (a :: es) X.env=(false,eval a X.env) :: starEach es X.env:=by exact ZN rfl) (hz:((backTo pos (starEach es X.env)).any fun x=>x.fst)=false:=by exact JC rfl):Snd X Y (.Call (.Name x p) (a :: es) [] pos) (zc n g ga):=gP hy F hr hj gl C.m C.F.kp C.b ha hd hs hz
theorem cX {X:Cx} {Y:Fx} {cl:Nat->Value} {k j n:Nat} {f:Addr} {fd:FuncData} {ps:List Str} {g:List T->R T} {x:Str} {st:Stmt} {a:Expr} {es:List Expr} {ga:En->R (List T)} {p pos:Pos} (hy:Y.cl=cl) (hp:Up (CX1 X.prog X.w) X Y.E) (F:j2 X.prog X.w X.K X.mg X.base (CX1 X.prog X.w) j f fd ps (spP cl n g)) (hr:uW k X.A) (C:Fn X.K X.mg x st ps f fd) (ha:Q5 X Y (a :: es) ga) (hj:j<=k:=by omega) (gl:Gl X x:=by rfl) (hd:(x == ("__debug__":Str))=false:=by decide)
  (hs:starEach (a :: es) X.env=(false,eval a X.env) :: starEach es X.env:=by exact ZN rfl) (hz:((backTo pos (starEach es X.env)).any fun x=>x.fst)=false:=by exact JC rfl):Snd X Y (.Call (.Name x p) (a :: es) [] pos) (zc n g ga):=gR hy hp F hr hj gl C.m C.F.kp C.b ha hd hs hz
section
variable {P:Program} {w:World} {K:PySem.W.Frag} {mg:Str->Option Value} {base:Heap} {cl:Nat->Value} {tx:Tx K mg}
end
end G
namespace G
open PySem PySem.Spec PyProof.Rows L2 PV
section
variable {P:Program} {w:World} {K:PySem.W.Frag} {mg:Str->Option Value} {base:Heap} {cl:Nat->Value} {tx:Tx K mg}
theorem qL:WD P w base cl tx 1 (fun ts=>zu (UC  (en0 2 ts))):=by
 refine Zx tx.C__law_cell.F qx rfl (fun cdv A outer s H E Y hy hr=> ?_) (fun ts h=>rfl)
 refine zk ?_ ?_
 refine zN ?_ ?_ ?_
 exact zB kd QM (zp 1 (pv 1)) (Snd.b (Jy (by rfl) tx.z_len (zp 0 (pv 0)))) (zl _)
 exact zn (zt (zY (zb 0 (pv 0)) (zb 1 (pv 1))))
 exact zM
 refine zk ?_ ?_
 refine zN ?_ ?_ ?_
 exact zB zE (zq hr.units) (zp 0 (pv 0)) (Snd.b (wk zi)) (zl _)
 exact zn (zt zd)
 exact zM
 refine zn ?_
 refine zt ?_
 refine zZ ?_ ?_
 refine Jq ?_ ?_
 exact zY (zb 0 (pv 0)) (yR (zb 1 (pv 1)) (Jy (by rfl) tx.z_len (zp 0 (pv 0))))
 exact zd
 exact zb 1 (pv 1)
end
end G
namespace G
open PySem PySem.Spec PyProof.Rows L2 PV
section
variable {P:Program} {w:World} {K:PySem.W.Frag} {mg:Str->Option Value} {base:Heap} {cl:Nat->Value} {tx:Tx K mg}
theorem qM {c__law_cell:List T->R T} (O__law_cell:WD P w base cl tx 1 c__law_cell):jb P w base cl tx 2 (fun ts=>zu (UD c__law_cell (en0 4 ts))):=by
 refine Zx tx.C__law_pick.F uO rfl (fun cdv A outer s H E Y hy hr=> ?_) (fun ts h=>rfl)
 refine zk ?_ ?_
 refine ZH (i:=3) uO.nd (by rfl) (.inl (by rfl)) ?_
 refine yR ?_ ?_
 refine Jq ?_ ?_
 refine zZ ?_ ?_
 exact cZ hy O__law_cell hr tx.C__law_cell (za (zb 0 (pv 0)) (za (zb 1 (pv 1)) zi))
 exact Jq zd (zZ (zb 1 (pv 1)) zd)
 exact zd
 exact zd
 refine zn ?_
 refine zt ?_
 refine yR ?_ ?_
 refine yR ?_ ?_
 exact zZ (Jq (zb 3 (pv 3)) (zb 3 (pv 3))) (Kb (zb 3 (pv 3)) zd)
 exact zd
 exact zb 2 (pv 2)
end
end G
namespace G
open PySem PySem.Spec PyProof.Rows L2 PV
section
variable {P:Program} {w:World} {K:PySem.W.Frag} {mg:Str->Option Value} {base:Heap} {cl:Nat->Value} {tx:Tx K mg}
theorem y8 {c__law_pick:List T->R T} (O__law_pick:jb P w base cl tx 2 c__law_pick):JY P w base cl tx 3 (fun ts=>zu (jK c__law_pick (en0 3 ts))):=by
 refine Zx tx.C__law_word_of.F wY rfl (fun cdv A outer s H E Y hy hr=> ?_) (fun ts h=>rfl)
 refine zk ?_ ?_
 exact ZH (i:=2) wY.nd (by rfl) (.inr (by rfl)) zF
 refine zk ?_ ?_
 refine zN ?_ ?_ ?_
 refine zB VV YL ?_ ?_ (zl _)
 refine Snd.b ?_
 refine cZ hy O__law_pick hr tx.C__law_pick ?_
 exact za (zb 0 (pv 0)) (za (zb 1 (pv 1)) (za zd zi))
 exact Snd.b zd
 refine zn ?_
 refine zt ?_
 refine zY ?_ ?_
 refine wk ?_
 refine za ?_ ?_
 exact zF
 exact za zF (za zF (za zF zi))
 refine cZ hy O__law_pick hr tx.C__law_pick ?_
 refine za ?_ ?_
 exact zb 0 (pv 0)
 exact za (zZ (zb 1 (pv 1)) zd) (za zd zi)
 exact zM
 refine zn ?_
 refine zt ?_
 refine z0v ?_
 refine Snd.b ?_
 refine jc (Zm ["_law_k","_law_script","_law_at","_law_letters"] Wr (ze JW) (by rfl) (by rfl) (by decide+kernel) (by rfl) ?_ (fun _ _ _ _ _ _=>zH (show List.Nodup (["_law_k","_law_script","_law_at","_law_letters"]:List Str) by decide+kernel) (by rfl) (.inl (by rfl)) (.inr (by rfl))) (zU 0) (zV 0) (fun Y' hy' _ _ _ _ _ _=> ?_) (fun Y' hy' _ _ _ _ _ _=> ?_))
 refine yt (by rfl) tx.z_range ?_
 refine zZ ?_ ?_
 exact zd
 refine cZ hy O__law_pick hr tx.C__law_pick ?_
 refine za ?_ ?_
 exact zb 0 (pv 0)
 exact za (zZ (zb 1 (pv 1)) zd) (za zd zi)
 exact jC
 refine zY ?_ ?_
 exact zb 3 (pv 3)
 refine cZ (hy'.trans hy) O__law_pick hr tx.C__law_pick ?_
 refine za ?_ ?_
 exact zb 1 (pv 1)
 refine za ?_ ?_
 exact zZ (zZ (zb 2 (pv 2)) zd) (zb 0 (pv 0))
 exact za zd zi
end
end G
namespace G
open PySem PySem.Spec PyProof.Rows L2 PV
section
variable {P:Program} {w:World} {K:PySem.W.Frag} {mg:Str->Option Value} {base:Heap} {cl:Nat->Value} {tx:Tx K mg}
theorem uz {c__law_pick c__law_word_of:List T->R T} (O__law_pick:jb P w base cl tx 2 c__law_pick) (O__law_word_of:JY P w base cl tx 3 c__law_word_of):J8 P w base cl tx 4 (fun ts=>zu (ZY c__law_pick c__law_word_of (en0 6 ts))):=by
 refine Zx tx.C__law_leaf_kind.F Z6 rfl (fun cdv A outer s H E Y hy hr=> ?_) (fun ts h=>rfl)
 refine zk ?_ ?_
 refine zN ?_ ?_ ?_
 refine zB VV YL ?_ ?_ (zl _)
 refine Snd.b ?_
 refine cZ hy O__law_pick hr tx.C__law_pick ?_
 exact za (zb 0 (pv 0)) (za (zb 1 (pv 1)) (za zd zi))
 exact Snd.b zd
 refine zk ?_ ?_
 refine ZH (i:=2) Z6.nd (by rfl) (.inl (by rfl)) ?_
 refine Wu ?_ ?_
 refine cZ hy O__law_pick hr tx.C__law_pick ?_
 refine za ?_ ?_
 exact zb 0 (pv 0)
 exact za (zZ (zb 1 (pv 1)) zd) (za zd zi)
 exact zd
 refine zk ?_ ?_
 refine zN ?_ ?_ ?_
 refine zB zE (zq hr.units) ?_ ?_ (zl _)
 refine Snd.b ?_
 refine cZ hy O__law_pick hr tx.C__law_pick ?_
 refine za ?_ ?_
 exact zb 0 (pv 0)
 exact za (zZ (zb 1 (pv 1)) zd) (za zd zi)
 exact Snd.b zd
 refine zn ?_
 refine ZH (i:=2) Z6.nd (by rfl) (.inl (by rfl)) ?_
 refine zY ?_ ?_
 refine wk ?_
 refine za ?_ ?_
 exact kb zd
 exact za zd (za zd zi)
 refine cZ hy O__law_pick hr tx.C__law_pick ?_
 refine za ?_ ?_
 exact zb 0 (pv 0)
 exact za (zZ (zb 1 (pv 1)) zd) (za zd zi)
 exact zM
 refine zn ?_
 refine zt ?_
 refine jN ?_
 refine za ?_ ?_
 exact zF
 refine za ?_ ?_
 exact zb 2 (pv 2)
 refine za ?_ ?_
 refine Kg (by rfl) (by rfl) tx.z_min ?_ ?_
 exact zd
 refine zZ ?_ ?_
 exact zb 2 (pv 2)
 refine cZ hy O__law_pick hr tx.C__law_pick ?_
 refine za ?_ ?_
 exact zb 0 (pv 0)
 exact za (zZ (zb 1 (pv 1)) zd) (za zd zi)
 exact zi
 exact zM
 refine zk ?_ ?_
 exact YR (i:=3) Z6.nd (by rfl) (.inl (by rfl)) zi
 refine zk ?_ ?_
 refine U0 PassesOwn.never (by rfl) ?_ ?_ ?_
 refine yt (by rfl) tx.z_range ?_
 refine zZ ?_ ?_
 exact zd
 refine cZ hy O__law_pick hr tx.C__law_pick ?_
 refine za ?_ ?_
 exact zb 0 (pv 0)
 exact za (zZ (zb 1 (pv 1)) zd) (za zd zi)
 exact wA (i:=4) Z6.nd (by rfl) (.inl (by rfl))
 refine zk ?_ ?_
 refine ZH (i:=5) Z6.nd (by rfl) (.inl (by rfl)) ?_
 refine cZ hy O__law_word_of hr tx.C__law_word_of ?_
 refine za ?_ ?_
 exact zb 0 (pv 0)
 refine za ?_ ?_
 exact zZ (zZ (zb 1 (pv 1)) zd) (Jq zd (zb 4 (pv 4)))
 exact zi
 refine zn ?_
 refine zN ?_ ?_ ?_
 exact zB Kc (VY hr.units) (zp 5 (pv 5)) (zp 3 (pv 3)) (by rfl)
 exact zn (z0o (i:=3) (pv 3) (zb 5 (pv 5)))
 exact zM
 refine zn ?_
 refine zt ?_
 refine jN ?_
 refine za ?_ ?_
 exact zF
 refine za ?_ ?_
 refine x3 (by rfl) tx.z_tuple ?_
 refine jc (Zm ["_law_k","_law_word","_law_script","_law_at"] wB (ze J7) (by rfl) (by rfl) (by decide+kernel) (by rfl) ?_ (fun _ _ _ _ _ _=>Yw (by rfl) (jI (zH (show List.Nodup (["_law_k","_law_word","_law_script","_law_at"]:List Str) by decide+kernel) (by rfl) (.inl (by rfl)) (.inr (by rfl))) (jI (zH (show List.Nodup (["_law_k","_law_word","_law_script","_law_at"]:List Str) by decide+kernel) (by rfl) (.inl (by rfl)) (.inr (by rfl))) Uo))) (Uc _ 0 1) (Ud 0 1) (fun Y' hy' _ _ _ _ _ _=> ?_) (fun Y' hy' _ _ _ _ _ _=> ?_))
 exact z0t (by rfl) tx.z_enumerate (zb 3 (pv 3))
 exact jC
 refine jN ?_
 refine za ?_ ?_
 exact zb 1 (pv 1)
 refine za ?_ ?_
 refine zZ ?_ ?_
 exact zd
 refine cZ (hy'.trans hy) O__law_pick hr tx.C__law_pick ?_
 refine za ?_ ?_
 exact zb 2 (pv 2)
 refine za ?_ ?_
 exact zZ (zZ (zb 3 (pv 3)) zd) (zb 0 (pv 0))
 exact za zd zi
 exact zi
 exact zi
end
end G
namespace G
open PySem PySem.Spec PyProof.Rows L2 PV
section
variable {P:Program} {w:World} {K:PySem.W.Frag} {mg:Str->Option Value} {base:Heap} {cl:Nat->Value} {tx:Tx K mg}
theorem qN {j:Nat} (hj:4<=j) {c__law_pick c__law_leaf_kind c__law_kind:List T->R T} (O__law_pick:jb P w base cl tx 2 c__law_pick) (O__law_leaf_kind:J8 P w base cl tx 4 c__law_leaf_kind) (O__law_kind:Ju P w base cl tx j c__law_kind):Ju P w base cl tx (j+1) (fun ts=>zu (wl c__law_pick c__law_leaf_kind c__law_kind (en0 6 ts))):=by
 refine Zx tx.C__law_kind.F JP rfl (fun cdv A outer s H E Y hy hr=> ?_) (fun ts h=>rfl)
 refine zk ?_ ?_
 refine ZH (i:=3) JP.nd (by rfl) (.inl (by rfl)) ?_
 refine cZ hy O__law_pick hr tx.C__law_pick ?_
 exact za (zb 0 (pv 0)) (za (zb 1 (pv 1)) (za zd zi))
 refine zk ?_ ?_
 refine zN ?_ ?_ ?_
 refine yb.t ?_
 refine Vq ?_ ?_
 exact zB zE (zq hr.units) (zp 2 (pv 2)) (Snd.b zd) (zl _)
 exact ye (zB kd QM (zp 3 (pv 3)) (Snd.b zd) (zl _))
 refine zn ?_
 refine zt ?_
 refine cZ hy O__law_leaf_kind hr tx.C__law_leaf_kind ?_
 exact za (zb 0 (pv 0)) (za (zZ (zb 1 (pv 1)) zd) zi)
 exact zM
 refine zk ?_ ?_
 refine zN ?_ ?_ ?_
 exact zB kd QM (zp 3 (pv 3)) (Snd.b zd) (zl _)
 refine zk ?_ ?_
 refine YT (i:=4) (Zm ["_law_k","_law_script","_law_at","_law_deep"] UQ (ze Wz) (by rfl) (by rfl) (by decide+kernel) (by rfl) ?_ (fun _ _ _ _ _ _=>zH (show List.Nodup (["_law_k","_law_script","_law_at","_law_deep"]:List Str) by decide+kernel) (by rfl) (.inl (by rfl)) (.inr (by rfl))) (zU 0) (zV 0) (fun Y' hy' _ _ _ _ _ _=> ?_) (fun Y' hy' _ _ _ _ _ _=> ?_)) JP.nd (by rfl) (.inl (by rfl)) (by rfl)
 refine yt (by rfl) tx.z_range ?_
 refine zZ ?_ ?_
 exact zd
 refine cZ hy O__law_pick hr tx.C__law_pick ?_
 refine za ?_ ?_
 exact zb 0 (pv 0)
 exact za (zZ (zb 1 (pv 1)) zd) (za zd zi)
 exact jC
 refine cZ (hy'.trans hy) O__law_kind hr tx.C__law_kind ?_
 refine za ?_ ?_
 exact zb 1 (pv 1)
 refine za ?_ ?_
 refine zZ ?_ ?_
 exact zZ (Jq zd (zb 2 (pv 2))) zd
 exact Jq zd (zb 0 (pv 0))
 exact za (Wu (zb 3 (pv 3)) zd) zi
 refine zn ?_
 refine zt ?_
 exact jN (za zF (za (x3 (by rfl) tx.z_tuple (zb 4 (pv 4))) zi))
 exact zM
 refine zk ?_ ?_
 refine ZH (i:=5) JP.nd (by rfl) (.inl (by rfl)) ?_
 refine cZ hy O__law_pick hr tx.C__law_pick ?_
 refine za ?_ ?_
 exact zb 0 (pv 0)
 exact za (zZ (zb 1 (pv 1)) zd) (za zd zi)
 refine zn ?_
 refine zt ?_
 refine jN ?_
 refine za ?_ ?_
 exact zF
 refine za ?_ ?_
 refine cZ hy O__law_kind hr tx.C__law_kind ?_
 refine za ?_ ?_
 exact zb 0 (pv 0)
 refine za ?_ ?_
 exact zZ (Jq zd (zb 1 (pv 1))) zd
 exact za (Wu (zb 2 (pv 2)) zd) zi
 refine za ?_ ?_
 exact zb 5 (pv 5)
 refine za ?_ ?_
 refine Kg (by rfl) (by rfl) tx.z_min ?_ ?_
 exact zd
 refine zZ ?_ ?_
 exact zb 5 (pv 5)
 refine cZ hy O__law_pick hr tx.C__law_pick ?_
 refine za ?_ ?_
 exact zb 0 (pv 0)
 exact za (zZ (zb 1 (pv 1)) zd) (za zd zi)
 exact zi
end
end G
namespace G
open PySem PySem.Spec PyProof.Rows L2 PV
section
variable {P:Program} {w:World} {K:PySem.W.Frag} {mg:Str->Option Value} {base:Heap} {cl:Nat->Value} {tx:Tx K mg}
theorem y9:JZ P w base cl tx 1 (fun ts=>zu (jL  (en0 5 ts))):=by
 refine Zx tx.C__law_rows_of.F Zl rfl (fun cdv A outer s H E Y hy hr=> ?_) (fun ts h=>rfl)
 refine zk ?_ ?_
 exact ZH (i:=1) Zl.nd (by rfl) (.inl (by rfl)) (wk (za (jN zi) zi))
 refine zk ?_ ?_
 refine U0 PassesOwn.never (by rfl) ?_ ?_ ?_
 exact jP (zb 0 (pv 0))
 exact wA (i:=2) Zl.nd (by rfl) (.inl (by rfl))
 refine zk ?_ ?_
 exact YR (i:=3) Zl.nd (by rfl) (.inl (by rfl)) zi
 refine zk ?_ ?_
 refine U0 PassesOwn.never (by rfl) ?_ ?_ ?_
 exact jP (zb 1 (pv 1))
 exact wA (i:=4) Zl.nd (by rfl) (.inr (by rfl))
 refine zn ?_
 refine gE (i:=3) (pv 3) ?_
 refine jc (Zm ["_law_one","_law_ahead"] Ws (ze JX) (by rfl) (by rfl) (by decide+kernel) (by rfl) ?_ (fun _ _ _ _ _ _=>zH (show List.Nodup (["_law_one","_law_ahead"]:List Str) by decide+kernel) (by rfl) (.inl (by rfl)) (.inr (by rfl))) (zU 0) (zV 0) (fun Y' hy' _ _ _ _ _ _=> ?_) (fun Y' hy' _ _ _ _ _ _=> ?_))
 exact jP (zb 2 (pv 2))
 exact jC
 exact zZ (zb 1 (pv 1)) (jN (za (zb 0 (pv 0)) zi))
 exact zn (s_mv (i:=1) (j:=3) (pv 3) Zl.nd (by rfl) (.inl (by rfl)))
 exact zn (zt (zb 1 (pv 1)))
end
end G
namespace G
open PySem PySem.Spec PyProof.Rows L2 PV
section
variable {P:Program} {w:World} {K:PySem.W.Frag} {mg:Str->Option Value} {base:Heap} {cl:Nat->Value} {tx:Tx K mg}
theorem Qx {j:Nat} (hj:1<=j) {c__law_all c__law_rows_of:List T->R T} (O__law_all:Jk P w base cl tx j c__law_all) (O__law_rows_of:JZ P w base cl tx 1 c__law_rows_of):Jk P w base cl tx (j+1) (fun ts=>zu (zC c__law_all c__law_rows_of (en0 3 ts))):=by
 refine Zx tx.C__law_all.F WA rfl (fun cdv A outer s H E Y hy hr=> ?_) (fun ts h=>rfl)
 refine zk ?_ ?_
 refine zN ?_ ?_ ?_
 exact zB zE (zq hr.units) (Snd.b (zY (zb 0 (pv 0)) zd)) (Snd.b zF) (zl _)
 refine zn ?_
 refine zt ?_
 refine G2 hr.hd (by rfl) tx.z_list (by rfl) tx.z_range ?_ ?_
 exact zY (zb 0 (pv 0)) zd
 exact zZ (zY (zb 0 (pv 0)) zd) zd
 exact zM
 refine zk ?_ ?_
 refine zN ?_ ?_ ?_
 exact zB zE (zq hr.units) (Snd.b (zY (zb 0 (pv 0)) zd)) (Snd.b zF) (zl _)
 refine zn ?_
 refine zt ?_
 refine jc (Zm ["_law_word","_law_heavy"] uq (ze Wm) (by rfl) (by rfl) (by decide+kernel) (by rfl) ?_ (fun _ _ _ _ _ _=>Yw (by rfl) (jI (zH (show List.Nodup (["_law_word","_law_heavy"]:List Str) by decide+kernel) (by rfl) (.inl (by rfl)) (.inr (by rfl))) (jI (zH (show List.Nodup (["_law_word","_law_heavy"]:List Str) by decide+kernel) (by rfl) (.inl (by rfl)) (.inr (by rfl))) Uo))) (Uc _ 0 1) (Ud 0 1) (fun Y' hy' _ _ _ _ _ _=> ?_) (fun Y' hy' _ _ _ _ _ _=> ?_))
 exact jP (zY (zb 0 (pv 0)) zd)
 exact jC
 exact zb 0 (pv 0)
 exact zM
 refine zk ?_ ?_
 refine zN ?_ ?_ ?_
 exact zB zE (zq hr.units) (Snd.b (zY (zb 0 (pv 0)) zd)) (Snd.b zF) (zl _)
 refine zn ?_
 refine zt ?_
 refine cZ hy O__law_rows_of hr tx.C__law_rows_of ?_
 refine za ?_ ?_
 refine jc (Zm ["_law_one"] uq (ze Wm) (by rfl) (by rfl) (by decide+kernel) (by rfl) ?_ (fun _ _ _ _ _ _=>zH (show List.Nodup (["_law_one"]:List Str) by decide+kernel) (by rfl) (.inl (by rfl)) (.inr (by rfl))) (zU 0) (zV 0) (fun Y' hy' _ _ _ _ _ _=> ?_) (fun Y' hy' _ _ _ _ _ _=> ?_))
 exact jP (zY (zb 0 (pv 0)) zd)
 exact jC
 exact cZ (hy'.trans hy) O__law_all hr tx.C__law_all (za (zb 0 (pv 0)) zi)
 exact zi
 exact zM
 refine zk ?_ ?_
 exact YR (i:=1) WA.nd (by rfl) (.inl (by rfl)) zi
 refine zk ?_ ?_
 refine U0 PassesOwn.never (by rfl) ?_ ?_ ?_
 refine Km (by rfl) tx.z_range ?_ ?_
 exact zY (zb 0 (pv 0)) zd
 exact zZ (zY (zb 0 (pv 0)) zd) zd
 exact wA (i:=2) WA.nd (by rfl) (.inl (by rfl))
 refine zn ?_
 refine gE (i:=1) (pv 1) ?_
 refine cZ hy O__law_rows_of hr tx.C__law_rows_of ?_
 refine za ?_ ?_
 refine Jq ?_ ?_
 refine wk ?_
 refine za ?_ ?_
 exact cZ hy O__law_all hr tx.C__law_all (za (zY (zb 0 (pv 0)) zd) zi)
 exact zi
 exact zb 2 (pv 2)
 exact zi
 exact zn (zt (zb 1 (pv 1)))
end
end G
namespace G
open PySem PySem.Spec PyProof.Rows L2 PV
section
variable {P:Program} {w:World} {K:PySem.W.Frag} {mg:Str->Option Value} {base:Heap} {cl:Nat->Value} {tx:Tx K mg}
theorem qO {j:Nat} (hj:9<=j) {c__law_all c__law_size:List T->R T} (O__law_all:Jk P w base cl tx 9 c__law_all) (O__law_size:Jv P w base cl tx j c__law_size):Jv P w base cl tx (j+1) (fun ts=>zu (zO c__law_all c__law_size (en0 5 ts))):=by
 refine Zx tx.C__law_size.F Ze rfl (fun cdv A outer s H E Y hy hr=> ?_) (fun ts h=>rfl)
 refine zk ?_ ?_
 refine zN ?_ ?_ ?_
 refine zB vH (QO hr.units) ?_ ?_ (by rfl)
 exact Snd.b (zY (zb 0 (pv 0)) zd)
 exact Snd.b (jN (za zF (za zF zi)))
 refine zn ?_
 exact zt (Jy (by rfl) tx.z_len (Snd.b (cZ hy O__law_all hr tx.C__law_all (za (zb 0 (pv 0)) zi))))
 exact zM
 refine zk ?_ ?_
 refine ZH (i:=1) Ze.nd (by rfl) (.inl (by rfl)) ?_
 refine GG ?_ ?_ ?_
 exact zB zE (zq hr.units) (Snd.b (zY (zb 0 (pv 0)) zd)) (Snd.b zF) (zl _)
 refine jc (Zm ["_law_one"] UR (ze WB) (by rfl) (by rfl) (by decide+kernel) (by rfl) ?_ (fun _ _ _ _ _ _=>zH (show List.Nodup (["_law_one"]:List Str) by decide+kernel) (by rfl) (.inl (by rfl)) (.inr (by rfl))) (zU 0) (zV 0) (fun Y' hy' _ _ _ _ _ _=> ?_) (fun Y' hy' _ _ _ _ _ _=> ?_))
 exact jP (zY (zb 0 (pv 0)) zd)
 exact jC
 exact cZ (hy'.trans hy) O__law_size hr tx.C__law_size (za (zb 0 (pv 0)) zi)
 exact wk zi
 refine zk ?_ ?_
 exact ZH (i:=2) Ze.nd (by rfl) (.inl (by rfl)) zd
 refine zk ?_ ?_
 refine U0 PassesOwn.never (by rfl) ?_ ?_ ?_
 exact jP (zb 1 (pv 1))
 exact wA (i:=3) Ze.nd (by rfl) (.inl (by rfl))
 exact zn (ZH (i:=2) Ze.nd (by rfl) (.inl (by rfl)) (Jq (zb 2 (pv 2)) (zb 3 (pv 3))))
 refine zk ?_ ?_
 refine zN ?_ ?_ ?_
 exact zB zE (zq hr.units) (Snd.b (zY (zb 0 (pv 0)) zd)) (Snd.b zF) (zl _)
 refine zk ?_ ?_
 exact ZH (i:=4) Ze.nd (by rfl) (.inl (by rfl)) (cZ hy O__law_size hr tx.C__law_size (za (zY (zb 0 (pv 0)) zd) zi))
 refine zk ?_ ?_
 refine ZH (i:=2) Ze.nd (by rfl) (.inl (by rfl)) ?_
 refine zZ ?_ ?_
 refine QU (by rfl) tx.z_int ?_
 exact jA zE (zq hr.units) (Snd.b (zY (zb 0 (pv 0)) zd)) (Snd.b zd) (zl _)
 refine Jq ?_ ?_
 exact zb 4 (pv 4)
 refine QU (by rfl) tx.z_int ?_
 refine wM jB jB Zh Zh ?_ ?_ ?_
 exact Snd.b (zY (zb 0 (pv 0)) zd)
 exact Snd.b zd
 exact Snd.b (zY (zb 0 (pv 0)) zd)
 refine zk ?_ ?_
 refine ZH (i:=2) Ze.nd (by rfl) (.inl (by rfl)) ?_
 refine zZ ?_ ?_
 exact zb 2 (pv 2)
 refine Jq ?_ ?_
 exact Jq (zb 4 (pv 4)) (zb 4 (pv 4))
 refine QU (by rfl) tx.z_int ?_
 refine wM jB jB Zh Zh ?_ ?_ ?_
 exact Snd.b (zY (zb 0 (pv 0)) zd)
 exact Snd.b zd
 exact Snd.b (zY (zb 0 (pv 0)) zd)
 refine zn ?_
 refine ZH (i:=2) Ze.nd (by rfl) (.inl (by rfl)) ?_
 refine zZ ?_ ?_
 exact zb 2 (pv 2)
 refine Jq ?_ ?_
 exact Jq (Jq (zb 4 (pv 4)) (zb 4 (pv 4))) (zb 4 (pv 4))
 refine QU (by rfl) tx.z_int ?_
 exact jA zE (zq hr.units) (Snd.b (zY (zb 0 (pv 0)) zd)) (Snd.b zd) (zl _)
 exact zM
 exact zn (zt (zb 2 (pv 2)))
end
end G
namespace G
open PySem PySem.Spec PyProof.Rows L2 PV
section
variable {P:Program} {w:World} {K:PySem.W.Frag} {mg:Str->Option Value} {base:Heap} {cl:Nat->Value} {tx:Tx K mg}
theorem Yl {c__law_kind c__law_size:List T->R T} (O__law_kind:Ju P w base cl tx 12 c__law_kind) (O__law_size:Jv P w base cl tx 17 c__law_size):W6 P w base cl tx 18 (fun ts=>zu (JE c__law_kind c__law_size (en0 5 ts))):=by
 refine Zx tx.C__law_small.F Jf rfl (fun cdv A outer s H E Y hy hr=> ?_) (fun ts h=>rfl)
 refine zk ?_ ?_
 refine ZH (i:=3) Jf.nd (by rfl) (.inl (by rfl)) ?_
 refine cZ hy O__law_kind hr tx.C__law_kind ?_
 exact za (zb 0 (pv 0)) (za (zb 1 (pv 1)) (za zd zi))
 refine zk ?_ ?_
 refine U0 PassesOwn.never (by rfl) ?_ ?_ ?_
 exact yt (by rfl) tx.z_range zd
 exact wA (i:=4) Jf.nd (by rfl) (.inl (by rfl))
 refine zk ?_ ?_
 refine zN ?_ ?_ ?_
 exact zB jB Zh (Snd.b (cZ hy O__law_size hr tx.C__law_size (za (zb 3 (pv 3)) zi))) (zp 2 (pv 2)) (zl _)
 exact zn (zt (zb 3 (pv 3)))
 exact zM
 refine zn ?_
 refine ZH (i:=3) Jf.nd (by rfl) (.inl (by rfl)) ?_
 refine cZ hy O__law_kind hr tx.C__law_kind ?_
 refine za ?_ ?_
 exact zb 0 (pv 0)
 refine za ?_ ?_
 exact zZ (zZ (zb 1 (pv 1)) zd) (Jq zd (zb 4 (pv 4)))
 exact za zd zi
 refine zn ?_
 refine zt ?_
 refine GG ?_ ?_ ?_
 exact zB jB Zh (Snd.b (cZ hy O__law_size hr tx.C__law_size (za (zb 3 (pv 3)) zi))) (zp 2 (pv 2)) (zl _)
 exact zb 3 (pv 3)
 refine jN ?_
 refine za ?_ ?_
 exact zF
 exact za (kb zd) (za zd zi)
end
end G
namespace G
open PySem PySem.Spec PyProof.Rows L2 PV
section
variable {P:Program} {w:World} {K:PySem.W.Frag} {mg:Str->Option Value} {base:Heap} {cl:Nat->Value} {tx:Tx K mg}
theorem qP {j:Nat} (hj:2<=j) {c__law_pick c__law_rule:List T->R T} (O__law_pick:jb P w base cl tx 2 c__law_pick) (O__law_rule:Jw P w base cl tx j c__law_rule):Jw P w base cl tx (j+1) (fun ts=>zu (wm c__law_pick c__law_rule (en0 6 ts))):=by
 refine Zx tx.C__law_rule.F JQ rfl (fun cdv A outer s H E Y hy hr=> ?_) (fun ts h=>rfl)
 refine zk ?_ ?_
 refine ZH (i:=3) JQ.nd (by rfl) (.inl (by rfl)) ?_
 refine cZ hy O__law_pick hr tx.C__law_pick ?_
 exact za (zb 0 (pv 0)) (za (zb 1 (pv 1)) (za zd zi))
 refine zk ?_ ?_
 refine zN ?_ ?_ ?_
 refine yb.t ?_
 refine z0m ?_ ?_
 exact zB VV YL (zp 2 (pv 2)) (Snd.b zd) (zl _)
 exact Ke (zB VV YL (zp 3 (pv 3)) (Snd.b zd) (zl _))
 refine zk ?_ ?_
 refine ZH (i:=4) JQ.nd (by rfl) (.inl (by rfl)) ?_
 refine cZ hy O__law_rule hr tx.C__law_rule ?_
 refine za ?_ ?_
 exact zb 0 (pv 0)
 refine za ?_ ?_
 exact zZ (Jq zd (zb 1 (pv 1))) zd
 exact za (Wu (zb 2 (pv 2)) zd) zi
 refine zk ?_ ?_
 refine zN ?_ ?_ ?_
 exact zB zE (zq hr.units) (zp 3 (pv 3)) (Snd.b zd) (zl _)
 refine zn ?_
 exact zt (jN (za zF (za (zb 4 (pv 4)) zi)))
 exact zM
 refine zn ?_
 refine zt ?_
 refine jN ?_
 refine za ?_ ?_
 refine zY ?_ ?_
 exact wk (za zF (za zF zi))
 exact Wu (zb 3 (pv 3)) zd
 refine za ?_ ?_
 exact zb 4 (pv 4)
 refine za ?_ ?_
 refine cZ hy O__law_rule hr tx.C__law_rule ?_
 refine za ?_ ?_
 exact zb 0 (pv 0)
 refine za ?_ ?_
 exact zZ (Jq zd (zb 1 (pv 1))) zd
 exact za (Wu (zb 2 (pv 2)) zd) zi
 exact zi
 exact zM
 refine zk ?_ ?_
 refine ZH (i:=5) JQ.nd (by rfl) (.inl (by rfl)) ?_
 refine Wu ?_ ?_
 refine cZ hy O__law_pick hr tx.C__law_pick ?_
 refine za ?_ ?_
 exact zb 0 (pv 0)
 exact za (zZ (zb 1 (pv 1)) zd) (za zd zi)
 exact zd
 refine zk ?_ ?_
 refine zN ?_ ?_ ?_
 exact zB kd QM (Snd.b (yR (zb 3 (pv 3)) zd)) (Snd.b zd) (zl _)
 refine zn ?_
 refine zt ?_
 refine jN ?_
 refine za ?_ ?_
 exact zF
 refine za ?_ ?_
 exact zb 5 (pv 5)
 refine za ?_ ?_
 refine Wu ?_ ?_
 refine zZ ?_ ?_
 exact zb 5 (pv 5)
 refine cZ hy O__law_pick hr tx.C__law_pick ?_
 refine za ?_ ?_
 exact zb 0 (pv 0)
 exact za (zZ (zb 1 (pv 1)) zd) (za zd zi)
 exact zd
 exact zi
 exact zM
 refine zk ?_ ?_
 refine zN ?_ ?_ ?_
 exact zB zE (zq hr.units) (Snd.b (yR (zb 3 (pv 3)) zd)) (Snd.b zd) (zl _)
 refine zn ?_
 refine zt ?_
 refine jN ?_
 refine za ?_ ?_
 exact zF
 refine za ?_ ?_
 refine cZ hy O__law_pick hr tx.C__law_pick ?_
 refine za ?_ ?_
 exact zb 0 (pv 0)
 exact za (zZ (zb 1 (pv 1)) zd) (za zd zi)
 refine za ?_ ?_
 refine cZ hy O__law_pick hr tx.C__law_pick ?_
 refine za ?_ ?_
 exact zb 0 (pv 0)
 exact za (zZ (zb 1 (pv 1)) zd) (za zd zi)
 exact zi
 exact zM
 refine zk ?_ ?_
 refine zN ?_ ?_ ?_
 exact zB zE (zq hr.units) (Snd.b (yR (zb 3 (pv 3)) zd)) (Snd.b zd) (zl _)
 refine zn ?_
 refine zt ?_
 refine jN ?_
 refine za ?_ ?_
 exact zF
 refine za ?_ ?_
 refine zY ?_ ?_
 refine wk ?_
 refine za ?_ ?_
 exact zF
 exact za zF (za zF (za zF zi))
 refine cZ hy O__law_pick hr tx.C__law_pick ?_
 refine za ?_ ?_
 exact zb 0 (pv 0)
 exact za (zZ (zb 1 (pv 1)) zd) (za zd zi)
 exact zi
 exact zM
 refine zn ?_
 refine zt ?_
 refine GG ?_ ?_ ?_
 exact zB zE (zq hr.units) (Snd.b (yR (zb 3 (pv 3)) zd)) (Snd.b zd) (zl _)
 exact jN (za zF zi)
 exact jN (za zF zi)
end
end G
namespace G
open PySem PySem.Spec PyProof.Rows L2 PV
section
variable {P:Program} {w:World} {K:PySem.W.Frag} {mg:Str->Option Value} {base:Heap} {cl:Nat->Value} {tx:Tx K mg}
theorem Qy:Jl P w base cl tx 1 (fun ts=>zu (yw  (en0 1 ts))):=by
 refine Zx tx.C_is_whole.F Qn rfl (fun cdv A outer s H E Y hy hr=> ?_) (fun ts h=>rfl)
 refine zn ?_
 refine zt ?_
 exact Jb (Uu (n:="int") (x6 _) (by rfl) tx.z_isinstance (by rfl) tx.z_int PyProof.Rows.Boot.«int» (zp 0 (pv 0))) (wa (kf (Uu (n:="bool") (kh _) (by rfl) tx.z_isinstance (by rfl) tx.z_bool PyProof.Rows.Boot.«bool» (zp 0 (pv 0)))))
end
end G
namespace G
open PySem PySem.Spec PyProof.Rows L2 PV
section
variable {P:Program} {w:World} {K:PySem.W.Frag} {mg:Str->Option Value} {base:Heap} {cl:Nat->Value} {tx:Tx K mg}
theorem Qz {c_is_whole:List T->R T} (O_is_whole:Jl P w base cl tx 1 c_is_whole):uw P w base cl tx 2 (fun ts=>zu (We c_is_whole (en0 1 ts))):=by
 obtain ⟨u_FARTHEST_BOUND,c_FARTHEST_BOUND⟩:=tx.c_FARTHEST_BOUND
 refine Zx tx.C_is_bound.F Qo rfl (fun cdv A outer s H E Y hy hr=> ?_) (fun ts h=>rfl)
 refine zn ?_
 refine zt ?_
 refine Jb ?_ ?_
 exact cZ hy O_is_whole hr tx.C_is_whole (za (zb 0 (pv 0)) zi)
 refine wa ?_
 exact wM jB jB Zh Zh (Snd.b (kb (Uy (by rfl) c_FARTHEST_BOUND.1 c_FARTHEST_BOUND.2))) (zp 0 (pv 0)) (Snd.b (Uy (by rfl) c_FARTHEST_BOUND.1 c_FARTHEST_BOUND.2))
end
end G
namespace G
open PySem PySem.Spec PyProof.Rows L2 PV
section
variable {P:Program} {w:World} {K:PySem.W.Frag} {mg:Str->Option Value} {base:Heap} {cl:Nat->Value} {tx:Tx K mg}
theorem Vh:ub P w base cl tx 1 (fun ts=>zu (qb  (en0 1 ts))):=by
 refine Zx tx.C_is_word.F V5 rfl (fun cdv A outer s H E Y hy hr=> ?_) (fun ts h=>rfl)
 refine zk ?_ ?_
 refine zN ?_ ?_ ?_
 refine yb.t ?_
 refine Vq ?_ ?_
 exact Ut (wN (Snd.b (Uu (n:="str") (gC _) (by rfl) tx.z_isinstance (by rfl) tx.z_str PyProof.Rows.Boot.«str» (zp 0 (pv 0)))))
 refine ye ?_
 refine Ut ?_
 refine gz jB jB Zh Zh ?_ ?_ ?_
 exact Snd.b zd
 exact Snd.b (Jy (by rfl) tx.z_len (zp 0 (pv 0)))
 exact Snd.b zd
 exact zn (zt QL)
 exact zM
 refine zn ?_
 refine zt ?_
 refine xh hr.hd (by rfl) tx.z_all ?_
 refine Snd.b ?_
 refine jc (Zm ["sign"] qz (ze UT) (by rfl) (by rfl) (by decide+kernel) (by rfl) ?_ (fun _ _ _ _ _ _=>zH (show List.Nodup (["sign"]:List Str) by decide+kernel) (by rfl) (.inl (by rfl)) (.inr (by rfl))) (zU 0) (zV 0) (fun Y' hy' _ _ _ _ _ _=> ?_) (fun Y' hy' _ _ _ _ _ _=> ?_))
 exact jP (zb 0 (pv 0))
 exact jC
 exact wM jB jB Zh Zh (Snd.b zF) (zp 0 (pv 0)) (Snd.b zF)
end
end G
namespace G
open PySem PySem.Spec PyProof.Rows L2 PV
section
variable {P:Program} {w:World} {K:PySem.W.Frag} {mg:Str->Option Value} {base:Heap} {cl:Nat->Value} {tx:Tx K mg}
theorem uA {j:Nat} (hj:2<=j) {c_is_word c_is_rule_within c_is_bound:List T->R T} (O_is_word:ub P w base cl tx 1 c_is_word) (O_is_rule_within:ZB P w base cl tx j c_is_rule_within) (O_is_bound:uw P w base cl tx 2 c_is_bound):ZB P w base cl tx (j+1) (fun ts=>zu (ZZ c_is_word c_is_rule_within c_is_bound (en0 2 ts))):=by
 refine Zx tx.C_is_rule_within.F ur rfl (fun cdv A outer s H E Y hy hr=> ?_) (fun ts h=>rfl)
 refine zk ?_ ?_
 refine zN ?_ ?_ ?_
 refine yb.t ?_
 refine Vq ?_ ?_
 exact zB zE (zq hr.units) (zp 1 (pv 1)) (Snd.b zd) (zl _)
 refine Vq ?_ ?_
 exact Ut (wN (Snd.b (Uu (n:="tuple") (jO _) (by rfl) tx.z_isinstance (by rfl) tx.z_tuple PyProof.Rows.Boot.«tuple» (zp 0 (pv 0)))))
 exact ye (zB zE (zq hr.units) (Snd.b (Jy (by rfl) tx.z_len (zp 0 (pv 0)))) (Snd.b zd) (zl _))
 exact zn (zt QL)
 exact zM
 refine zk ?_ ?_
 refine zN ?_ ?_ ?_
 refine yb.t ?_
 refine Vq ?_ ?_
 exact zB zE (zq hr.units) (Snd.b (zY (zb 0 (pv 0)) zd)) (Snd.b zF) (zl _)
 refine ye ?_
 exact zB zE (zq hr.units) (Snd.b (zY (zb 0 (pv 0)) zd)) (Snd.b zF) (zl _)
 refine zn ?_
 refine zt ?_
 refine Jb ?_ ?_
 exact jA zE (zq hr.units) (Snd.b (Jy (by rfl) tx.z_len (zp 0 (pv 0)))) (Snd.b zd) (zl _)
 refine Jb ?_ ?_
 exact cZ hy O_is_bound hr tx.C_is_bound (za (zY (zb 0 (pv 0)) zd) zi)
 exact wa (cZ hy O_is_bound hr tx.C_is_bound (za (zY (zb 0 (pv 0)) zd) zi))
 exact zM
 refine zk ?_ ?_
 refine zN ?_ ?_ ?_
 exact zB zE (zq hr.units) (Snd.b (zY (zb 0 (pv 0)) zd)) (Snd.b zF) (zl _)
 refine zn ?_
 refine zt ?_
 refine Jb ?_ ?_
 exact jA zE (zq hr.units) (Snd.b (Jy (by rfl) tx.z_len (zp 0 (pv 0)))) (Snd.b zd) (zl _)
 exact wa (cZ hy O_is_word hr tx.C_is_word (za (zY (zb 0 (pv 0)) zd) zi))
 exact zM
 refine zk ?_ ?_
 refine zN ?_ ?_ ?_
 refine yb.t ?_
 refine Vq ?_ ?_
 exact zB zE (zq hr.units) (Snd.b (zY (zb 0 (pv 0)) zd)) (Snd.b zF) (zl _)
 refine ye ?_
 exact zB zE (zq hr.units) (Snd.b (zY (zb 0 (pv 0)) zd)) (Snd.b zF) (zl _)
 refine zn ?_
 exact zt (jA zE (zq hr.units) (Snd.b (Jy (by rfl) tx.z_len (zp 0 (pv 0)))) (Snd.b zd) (zl _))
 exact zM
 refine zk ?_ ?_
 refine zN ?_ ?_ ?_
 exact zB zE (zq hr.units) (Snd.b (zY (zb 0 (pv 0)) zd)) (Snd.b zF) (zl _)
 refine zn ?_
 refine zt ?_
 refine Jb ?_ ?_
 exact jA zE (zq hr.units) (Snd.b (Jy (by rfl) tx.z_len (zp 0 (pv 0)))) (Snd.b zd) (zl _)
 refine wa ?_
 refine cZ hy O_is_rule_within hr tx.C_is_rule_within ?_
 refine za ?_ ?_
 exact zY (zb 0 (pv 0)) zd
 exact za (Wu (zb 1 (pv 1)) zd) zi
 exact zM
 refine zk ?_ ?_
 refine zN ?_ ?_ ?_
 refine yb.t ?_
 refine Vq ?_ ?_
 exact zB zE (zq hr.units) (Snd.b (zY (zb 0 (pv 0)) zd)) (Snd.b zF) (zl _)
 refine ye ?_
 exact zB zE (zq hr.units) (Snd.b (zY (zb 0 (pv 0)) zd)) (Snd.b zF) (zl _)
 refine zn ?_
 refine zt ?_
 refine Jb ?_ ?_
 exact jA zE (zq hr.units) (Snd.b (Jy (by rfl) tx.z_len (zp 0 (pv 0)))) (Snd.b zd) (zl _)
 refine Jb ?_ ?_
 refine cZ hy O_is_rule_within hr tx.C_is_rule_within ?_
 refine za ?_ ?_
 exact zY (zb 0 (pv 0)) zd
 exact za (Wu (zb 1 (pv 1)) zd) zi
 refine wa ?_
 refine cZ hy O_is_rule_within hr tx.C_is_rule_within ?_
 refine za ?_ ?_
 exact zY (zb 0 (pv 0)) zd
 exact za (Wu (zb 1 (pv 1)) zd) zi
 exact zM
 exact zn (zt QL)
end
end G
namespace G
open PySem PySem.Spec PyProof.Rows L2 PV
section
variable {P:Program} {w:World} {K:PySem.W.Frag} {mg:Str->Option Value} {base:Heap} {cl:Nat->Value} {tx:Tx K mg}
theorem Vi {c_is_rule_within:List T->R T} (O_is_rule_within:ZB P w base cl tx 10 c_is_rule_within):y0 P w base cl tx 11 (fun ts=>zu (WO c_is_rule_within (en0 1 ts))):=by
 obtain ⟨u_DEEPEST_RULE,c_DEEPEST_RULE⟩:=tx.c_DEEPEST_RULE
 refine Zx tx.C_is_rule.F V6 rfl (fun cdv A outer s H E Y hy hr=> ?_) (fun ts h=>rfl)
 refine zn ?_
 exact zt (cZ hy O_is_rule_within hr tx.C_is_rule_within (za (zb 0 (pv 0)) (za (Uy (by rfl) c_DEEPEST_RULE.1 c_DEEPEST_RULE.2) zi)))
end
end G
namespace G
open PySem PySem.Spec PyProof.Rows L2 PV
section
variable {P:Program} {w:World} {K:PySem.W.Frag} {mg:Str->Option Value} {base:Heap} {cl:Nat->Value} {tx:Tx K mg}
theorem qQ {c_is_rule:List T->R T} (xq:Tq K mg base cl) (O_is_rule:y0 P w base cl tx 11 c_is_rule):wy P w base cl tx 12 (fun ts=>zu (wn c_is_rule (en0 1 ts))):=by
 refine uI tx.C_need_rule.F qB rfl (fun cdv A outer s H E Y hy hE hr=> ?_) (fun ts h=>rfl)
 refine zn ?_
 refine zN ?_ ?_ ?_
 exact Ut (wN (Snd.b (cZ hy O_is_rule hr tx.C_is_rule (za (zb 0 (pv 0)) zi))))
 exact zn (yZ (c:=2) xq.o_NoRule PySem.F.excBase_ValueError (by decide) PySem.F.excBase_ValueError hE (by rw [hy]; exact xq.l_NoRule) (by rfl))
 exact zM
end
end G
namespace G
open PySem PySem.Spec PyProof.Rows L2 PV
section
variable {P:Program} {w:World} {K:PySem.W.Frag} {mg:Str->Option Value} {base:Heap} {cl:Nat->Value} {tx:Tx K mg}
theorem Ym {c_need_rule:List T->R T} (xq:Tq K mg base cl) (O_need_rule:wy P w base cl tx 12 c_need_rule):JS P w base cl tx 13 (fun ts=>zu (JF c_need_rule (en0 2 ts))):=by
 refine uI tx.C_need_rules.F u7 rfl (fun cdv A outer s H E Y hy hE hr=> ?_) (fun ts h=>rfl)
 refine zk ?_ ?_
 refine zN ?_ ?_ ?_
 exact Ut (wN (Snd.b (z0Q (n:="list") (m:="tuple") (ki _) (jO _) (by rfl) tx.z_isinstance (by rfl) tx.z_list PyProof.Rows.Boot.«list» (by rfl) tx.z_tuple PyProof.Rows.Boot.«tuple» (zb 0 (pv 0)))))
 exact zn (yZ (c:=2) xq.o_NoRule PySem.F.excBase_ValueError (by decide) PySem.F.excBase_ValueError hE (by rw [hy]; exact xq.l_NoRule) (by rfl))
 exact zM
 refine zn ?_
 refine U0 PassesOwn.leaving (by rfl) ?_ ?_ ?_
 exact jP (zb 0 (pv 0))
 exact wA (i:=1) u7.nd (by rfl) (.inl (by rfl))
 exact zn (YS (cX hy (hE ▸ Jo) O_need_rule hr tx.C_need_rule (za (zb 1 (pv 1)) zi)))
end
end G
namespace G
open PySem PySem.Spec PyProof.Rows L2 PV
section
variable {P:Program} {w:World} {K:PySem.W.Frag} {mg:Str->Option Value} {base:Heap} {cl:Nat->Value} {tx:Tx K mg}
theorem Yn:W7 P w base cl tx 1 (fun ts=>zu (JG  (en0 1 ts))):=by
 refine Zx tx.C_are_unlike.F Yg rfl (fun cdv A outer s H E Y hy hr=> ?_) (fun ts h=>rfl)
 refine zn ?_
 refine zt ?_
 refine kf ?_
 refine z2j hr.hd (by rfl) tx.z_any ?_
 refine Snd.b ?_
 refine jc (Zm ["place","part","parts"] uR (ze wZ) (by rfl) (by rfl) (by decide+kernel) (by rfl) ?_ (fun _ _ _ _ _ _=>Yw (by rfl) (jI (zH (show List.Nodup (["place","part","parts"]:List Str) by decide+kernel) (by rfl) (.inl (by rfl)) (.inr (by rfl))) (jI (zH (show List.Nodup (["place","part","parts"]:List Str) by decide+kernel) (by rfl) (.inl (by rfl)) (.inr (by rfl))) Uo))) (Uc _ 0 1) (Ud 0 1) (fun Y' hy' _ _ _ _ _ _=> ?_) (fun Y' hy' _ _ _ _ _ _=> ?_))
 exact G8 (by rfl) tx.z_enumerate (zb 0 (pv 0))
 exact jC
 refine jA vH (QO hr.units) ?_ ?_ (by rfl)
 exact zp 1 (pv 1)
 exact Snd.b (yT (zb 2 (pv 2)) QP (QQ (zb 0 (pv 0))))
end
end G
namespace G
open PySem PySem.Spec PyProof.Rows L2 PV
section
variable {P:Program} {w:World} {K:PySem.W.Frag} {mg:Str->Option Value} {base:Heap} {cl:Nat->Value} {tx:Tx K mg}
theorem Yo:W8 P w base cl tx 1 (fun ts=>zu (JI  (en0 1 ts))):=by
 refine Zx tx.C_are_rising.F Yh rfl (fun cdv A outer s H E Y hy hr=> ?_) (fun ts h=>rfl)
 refine zn ?_
 refine zt ?_
 refine xh hr.hd (by rfl) tx.z_all ?_
 refine Snd.b ?_
 refine jc (Zm ["ahead","number"] uS (ze W0) (by rfl) (by rfl) (by decide+kernel) (by rfl) ?_ (fun _ _ _ _ _ _=>Yw (by rfl) (jI (zH (show List.Nodup (["ahead","number"]:List Str) by decide+kernel) (by rfl) (.inl (by rfl)) (.inr (by rfl))) (jI (zH (show List.Nodup (["ahead","number"]:List Str) by decide+kernel) (by rfl) (.inl (by rfl)) (.inr (by rfl))) Uo))) (Uc _ 0 1) (Ud 0 1) (fun Y' hy' _ _ _ _ _ _=> ?_) (fun Y' hy' _ _ _ _ _ _=> ?_))
 exact z2c (by rfl) tx.z_zip (zb 0 (pv 0)) (yT (zb 0 (pv 0)) (QQ zd) QP)
 exact jC
 exact jA jB Zh (zp 0 (pv 0)) (zp 1 (pv 1)) (zl _)
end
end G
namespace G
open PySem PySem.Spec PyProof.Rows L2 PV
section
variable {P:Program} {w:World} {K:PySem.W.Frag} {mg:Str->Option Value} {base:Heap} {cl:Nat->Value} {tx:Tx K mg}
theorem QA:ux P w base cl tx 1 (fun ts=>zu (yx  (en0 1 ts))):=by
 refine Zx tx.C_parts_of.F Qq rfl (fun cdv A outer s H E Y hy hr=> ?_) (fun ts h=>rfl)
 refine zn ?_
 refine zt ?_
 refine GG ?_ ?_ ?_
 exact wN (Snd.b (Uu (n:="tuple") (jO _) (by rfl) tx.z_isinstance (by rfl) tx.z_tuple PyProof.Rows.Boot.«tuple» (zp 0 (pv 0))))
 exact zb 0 (pv 0)
 exact jN (za (zb 0 (pv 0)) zi)
end
end G
namespace G
open PySem PySem.Spec PyProof.Rows L2 PV
section
variable {P:Program} {w:World} {K:PySem.W.Frag} {mg:Str->Option Value} {base:Heap} {cl:Nat->Value} {tx:Tx K mg}
theorem qR {j:Nat} (hj:0<=j) {c_leaves_of:List T->R T} (O_leaves_of:jH P w base cl tx j c_leaves_of):jH P w base cl tx (j+1) (fun ts=>zu (wo c_leaves_of (en0 3 ts))):=by
 refine Zx tx.C_leaves_of.F W1 rfl (fun cdv A outer s H E Y hy hr=> ?_) (fun ts h=>rfl)
 refine zk ?_ ?_
 refine zN ?_ ?_ ?_
 exact Ut (wN (Snd.b (Uu (n:="tuple") (jO _) (by rfl) tx.z_isinstance (by rfl) tx.z_tuple PyProof.Rows.Boot.«tuple» (zp 0 (pv 0)))))
 exact zn (zt (wk (za (zb 0 (pv 0)) zi)))
 exact zM
 refine zk ?_ ?_
 exact YR (i:=1) W1.nd (by rfl) (.inl (by rfl)) zi
 refine zk ?_ ?_
 refine U0 PassesOwn.never (by rfl) ?_ ?_ ?_
 exact jP (zb 0 (pv 0))
 exact wA (i:=2) W1.nd (by rfl) (.inl (by rfl))
 exact zn (gE (i:=1) (pv 1) (cZ hy O_leaves_of hr tx.C_leaves_of (za (zb 2 (pv 2)) zi)))
 exact zn (zt (zb 1 (pv 1)))
end
end G
namespace G
open PySem PySem.Spec PyProof.Rows L2 PV
section
variable {P:Program} {w:World} {K:PySem.W.Frag} {mg:Str->Option Value} {base:Heap} {cl:Nat->Value} {tx:Tx K mg}
theorem Yp {c_is_whole c_leaves_of:List T->R T} (O_is_whole:Jl P w base cl tx 1 c_is_whole) (O_leaves_of:jH P w base cl tx 8 c_leaves_of):W9 P w base cl tx 9 (fun ts=>zu (JK c_is_whole c_leaves_of (en0 1 ts))):=by
 refine Zx tx.C_numbers_in.F Yi rfl (fun cdv A outer s H E Y hy hr=> ?_) (fun ts h=>rfl)
 refine zn ?_
 refine zt ?_
 refine jc (Zm ["leaf"] uT (ze W2) (by rfl) (by rfl) (by decide+kernel) (by rfl) ?_ (fun _ _ _ _ _ _=>zH (show List.Nodup (["leaf"]:List Str) by decide+kernel) (by rfl) (.inl (by rfl)) (.inr (by rfl))) (zU 0) (zV 0) (fun Y' hy' _ _ _ _ _ _=> ?_) (fun Y' hy' _ _ _ _ _ _=> ?_))
 exact jP (cZ hy O_leaves_of hr tx.C_leaves_of (za (zb 0 (pv 0)) zi))
 exact uF (wN (Snd.b (cZ (hy'.trans hy) O_is_whole hr tx.C_is_whole (za (zb 0 (pv 0)) zi))))
 exact zb 0 (pv 0)
end
end G
namespace G
open PySem PySem.Spec PyProof.Rows L2 PV
section
variable {P:Program} {w:World} {K:PySem.W.Frag} {mg:Str->Option Value} {base:Heap} {cl:Nat->Value} {tx:Tx K mg}
theorem uB {c_parts_of c_leaves_of c_numbers_in c_are_rising c_are_unlike:List T->R T} (O_parts_of:ux P w base cl tx 1 c_parts_of) (O_leaves_of:jH P w base cl tx 8 c_leaves_of) (O_numbers_in:W9 P w base cl tx 9 c_numbers_in) (O_are_rising:W8 P w base cl tx 1 c_are_rising) (O_are_unlike:W7 P w base cl tx 1 c_are_unlike):J9 P w base cl tx 10 (fun ts=>zu (j0 c_parts_of c_leaves_of c_numbers_in c_are_rising c_are_unlike (en0 2 ts))):=by
 refine Zx tx.C_is_single_kept.F ut rfl (fun cdv A outer s H E Y hy hr=> ?_) (fun ts h=>rfl)
 refine zk ?_ ?_
 refine zN ?_ ?_ ?_
 exact zB zE (zq hr.units) (Snd.b (zY (zb 0 (pv 0)) zd)) (Snd.b zF) (zl _)
 refine zn ?_
 refine zt ?_
 refine wM jB jB Zh Zh ?_ ?_ ?_
 exact Snd.b (zY (zb 0 (pv 0)) zd)
 exact Snd.b (z0C hr.hd (by rfl) tx.z_sum (Snd.b (cZ hy O_numbers_in hr tx.C_numbers_in (za (zb 1 (pv 1)) zi))))
 exact Snd.b (zY (zb 0 (pv 0)) zd)
 exact zM
 refine zk ?_ ?_
 refine zN ?_ ?_ ?_
 exact zB zE (zq hr.units) (Snd.b (zY (zb 0 (pv 0)) zd)) (Snd.b zF) (zl _)
 refine zn ?_
 refine zt ?_
 refine wM jB jB Zh Zh ?_ ?_ ?_
 exact Snd.b (zY (zb 0 (pv 0)) zd)
 exact Snd.b (Jy (by rfl) tx.z_len (Snd.b (cZ hy O_parts_of hr tx.C_parts_of (za (zb 1 (pv 1)) zi))))
 exact Snd.b (zY (zb 0 (pv 0)) zd)
 exact zM
 refine zk ?_ ?_
 refine zN ?_ ?_ ?_
 exact zB zE (zq hr.units) (Snd.b (zY (zb 0 (pv 0)) zd)) (Snd.b zF) (zl _)
 refine zn ?_
 refine zt ?_
 refine jA vH (QO hr.units) ?_ ?_ (by rfl)
 exact Snd.b (zY (zb 0 (pv 0)) zd)
 exact Snd.b (cZ hy O_leaves_of hr tx.C_leaves_of (za (zb 1 (pv 1)) zi))
 exact zM
 refine zk ?_ ?_
 refine zN ?_ ?_ ?_
 exact zB zE (zq hr.units) (Snd.b (zY (zb 0 (pv 0)) zd)) (Snd.b zF) (zl _)
 refine zn ?_
 refine zt ?_
 exact cZ hy O_are_rising hr tx.C_are_rising (za (cZ hy O_numbers_in hr tx.C_numbers_in (za (zb 1 (pv 1)) zi)) zi)
 exact zM
 refine zn ?_
 refine zt ?_
 exact cZ hy O_are_unlike hr tx.C_are_unlike (za (cZ hy O_parts_of hr tx.C_parts_of (za (zb 1 (pv 1)) zi)) zi)
end
end G
namespace G
open PySem PySem.Spec PyProof.Rows L2 PV
section
variable {P:Program} {w:World} {K:PySem.W.Frag} {mg:Str->Option Value} {base:Heap} {cl:Nat->Value} {tx:Tx K mg}
theorem Vj {j:Nat} (hj:10<=j) {c_is_kept c_is_single_kept:List T->R T} (O_is_kept:wf P w base cl tx j c_is_kept) (O_is_single_kept:J9 P w base cl tx 10 c_is_single_kept):wf P w base cl tx (j+1) (fun ts=>zu (WQ c_is_kept c_is_single_kept (en0 2 ts))):=by
 refine Zx tx.C_is_kept.F V8 rfl (fun cdv A outer s H E Y hy hr=> ?_) (fun ts h=>rfl)
 refine zk ?_ ?_
 refine zN ?_ ?_ ?_
 exact zB zE (zq hr.units) (Snd.b (zY (zb 0 (pv 0)) zd)) (Snd.b zF) (zl _)
 refine zn ?_
 refine zt ?_
 refine kf ?_
 refine cZ hy O_is_kept hr tx.C_is_kept ?_
 exact za (zY (zb 0 (pv 0)) zd) (za (zb 1 (pv 1)) zi)
 exact zM
 refine zk ?_ ?_
 refine zN ?_ ?_ ?_
 exact zB zE (zq hr.units) (Snd.b (zY (zb 0 (pv 0)) zd)) (Snd.b zF) (zl _)
 refine zn ?_
 refine zt ?_
 refine Jb ?_ ?_
 refine cZ hy O_is_kept hr tx.C_is_kept ?_
 exact za (zY (zb 0 (pv 0)) zd) (za (zb 1 (pv 1)) zi)
 refine wa ?_
 refine cZ hy O_is_kept hr tx.C_is_kept ?_
 exact za (zY (zb 0 (pv 0)) zd) (za (zb 1 (pv 1)) zi)
 exact zM
 refine zk ?_ ?_
 refine zN ?_ ?_ ?_
 exact zB zE (zq hr.units) (Snd.b (zY (zb 0 (pv 0)) zd)) (Snd.b zF) (zl _)
 refine zn ?_
 refine zt ?_
 refine s_or ?_ ?_
 refine cZ hy O_is_kept hr tx.C_is_kept ?_
 exact za (zY (zb 0 (pv 0)) zd) (za (zb 1 (pv 1)) zi)
 refine wa ?_
 refine cZ hy O_is_kept hr tx.C_is_kept ?_
 exact za (zY (zb 0 (pv 0)) zd) (za (zb 1 (pv 1)) zi)
 exact zM
 refine zn ?_
 exact zt (cZ hy O_is_single_kept hr tx.C_is_single_kept (za (zb 0 (pv 0)) (za (zb 1 (pv 1)) zi)))
end
end G
namespace G
open PySem PySem.Spec PyProof.Rows L2 PV
section
variable {P:Program} {w:World} {K:PySem.W.Frag} {mg:Str->Option Value} {base:Heap} {cl:Nat->Value} {tx:Tx K mg}
theorem Vk {c_is_whole:List T->R T} (O_is_whole:Jl P w base cl tx 1 c_is_whole):y3 P w base cl tx 2 (fun ts=>zu (qc c_is_whole (en0 4 ts))):=by
 refine Zx tx.C_is_span.F V9 rfl (fun cdv A outer s H E Y hy hr=> ?_) (fun ts h=>rfl)
 refine zn ?_
 refine zt ?_
 refine Jb ?_ ?_
 exact cZ hy O_is_whole hr tx.C_is_whole (za (zb 0 (pv 0)) zi)
 refine Jb ?_ ?_
 exact cZ hy O_is_whole hr tx.C_is_whole (za (zb 1 (pv 1)) zi)
 exact wa (ke jB jB jB Zh Zh Zh (zp 2 (pv 2)) (zp 0 (pv 0)) (zp 1 (pv 1)) (zp 3 (pv 3)))
end
end G
namespace G
open PySem PySem.Spec PyProof.Rows L2 PV
section
variable {P:Program} {w:World} {K:PySem.W.Frag} {mg:Str->Option Value} {base:Heap} {cl:Nat->Value} {tx:Tx K mg}
theorem yk:jy P w base cl tx 1 (fun ts=>zu (WS  (en0 3 ts))):=by
 refine Zx tx.C_is_tuple_of.F yj rfl (fun cdv A outer s H E Y hy hr=> ?_) (fun ts h=>rfl)
 refine zn ?_
 refine zt ?_
 refine Jb ?_ ?_
 exact Uu (n:="tuple") (jO _) (by rfl) tx.z_isinstance (by rfl) tx.z_tuple PyProof.Rows.Boot.«tuple» (zp 0 (pv 0))
 exact wa (wM jB jB Zh Zh (zp 1 (pv 1)) (Snd.b (Jy (by rfl) tx.z_len (zp 0 (pv 0)))) (zp 2 (pv 2)))
end
end G
namespace G
open PySem PySem.Spec PyProof.Rows L2 PV
section
variable {P:Program} {w:World} {K:PySem.W.Frag} {mg:Str->Option Value} {base:Heap} {cl:Nat->Value} {tx:Tx K mg}
theorem qS {c_is_whole c_is_tuple_of c_is_word:List T->R T} (O_is_whole:Jl P w base cl tx 1 c_is_whole) (O_is_tuple_of:jy P w base cl tx 1 c_is_tuple_of) (O_is_word:ub P w base cl tx 1 c_is_word):WF P w base cl tx 2 (fun ts=>zu (wp c_is_whole c_is_tuple_of c_is_word (en0 1 ts))):=by
 refine Zx tx.C_is_choice.F qF rfl (fun cdv A outer s H E Y hy hr=> ?_) (fun ts h=>rfl)
 refine zn ?_
 refine zt ?_
 refine Jb ?_ ?_
 refine cZ hy O_is_tuple_of hr tx.C_is_tuple_of ?_
 exact za (zb 0 (pv 0)) (za zd (za zd zi))
 refine Jb ?_ ?_
 exact cZ hy O_is_word hr tx.C_is_word (za (zY (zb 0 (pv 0)) zd) zi)
 refine Jb ?_ ?_
 exact cZ hy O_is_whole hr tx.C_is_whole (za (zY (zb 0 (pv 0)) zd) zi)
 refine wa ?_
 refine wM jB jB Zh Zh ?_ ?_ ?_
 exact Snd.b zd
 exact Snd.b (zY (zb 0 (pv 0)) zd)
 exact Snd.b zd
end
end G
namespace G
open PySem PySem.Spec PyProof.Rows L2 PV
section
variable {P:Program} {w:World} {K:PySem.W.Frag} {mg:Str->Option Value} {base:Heap} {cl:Nat->Value} {tx:Tx K mg}
theorem yl {c_is_tuple_of c_is_choice:List T->R T} (O_is_tuple_of:jy P w base cl tx 1 c_is_tuple_of) (O_is_choice:WF P w base cl tx 2 c_is_choice):wz P w base cl tx 3 (fun ts=>zu (Jc c_is_tuple_of c_is_choice (en0 2 ts))):=by
 refine Zx tx.C_are_choices.F Wt rfl (fun cdv A outer s H E Y hy hr=> ?_) (fun ts h=>rfl)
 refine zk ?_ ?_
 refine zN ?_ ?_ ?_
 refine yb.t ?_
 refine Vq ?_ ?_
 refine Ut ?_
 refine wN ?_
 refine Snd.b ?_
 refine cZ hy O_is_tuple_of hr tx.C_is_tuple_of ?_
 exact za (zb 0 (pv 0)) (za zd (za zd zi))
 refine ye ?_
 refine Ut ?_
 refine wN ?_
 refine Snd.b ?_
 refine xh hr.hd (by rfl) tx.z_all ?_
 refine Snd.b ?_
 refine jc (Zm ["part"] wx (ze Jg) (by rfl) (by rfl) (by decide+kernel) (by rfl) ?_ (fun _ _ _ _ _ _=>zH (show List.Nodup (["part"]:List Str) by decide+kernel) (by rfl) (.inl (by rfl)) (.inr (by rfl))) (zU 0) (zV 0) (fun Y' hy' _ _ _ _ _ _=> ?_) (fun Y' hy' _ _ _ _ _ _=> ?_))
 exact jP (zb 0 (pv 0))
 exact jC
 exact cZ (hy'.trans hy) O_is_choice hr tx.C_is_choice (za (zb 0 (pv 0)) zi)
 exact zn (zt QL)
 exact zM
 refine zk ?_ ?_
 refine YT (i:=1) (Zm ["choice"] wx (ze Jg) (by rfl) (by rfl) (by decide+kernel) (by rfl) ?_ (fun _ _ _ _ _ _=>zH (show List.Nodup (["choice"]:List Str) by decide+kernel) (by rfl) (.inl (by rfl)) (.inr (by rfl))) (zU 0) (zV 0) (fun Y' hy' _ _ _ _ _ _=> ?_) (fun Y' hy' _ _ _ _ _ _=> ?_)) Wt.nd (by rfl) (.inl (by rfl)) (by rfl)
 exact jP (zb 0 (pv 0))
 exact jC
 exact zY (zb 0 (pv 0)) zd
 refine zn ?_
 refine zt ?_
 exact jA zE (zq hr.units) (Snd.b (z0w hr.hd (by rfl) tx.z_len (by rfl) tx.z_set (zp 1 (pv 1)))) (Snd.b (Jy (by rfl) tx.z_len (zp 1 (pv 1)))) (zl _)
end
end G
namespace G
open PySem PySem.Spec PyProof.Rows L2 PV
section
variable {P:Program} {w:World} {K:PySem.W.Frag} {mg:Str->Option Value} {base:Heap} {cl:Nat->Value} {tx:Tx K mg}
theorem uC {j:Nat} (hj:3<=j) {c_is_span c_is_kind_within c_are_choices c_are_kinds_within:List T->R T} (O_is_span:y3 P w base cl tx 2 c_is_span) (O_is_kind_within:Zc P w base cl tx j c_is_kind_within) (O_are_choices:wz P w base cl tx 3 c_are_choices) (O_are_kinds_within:ZM P w base cl tx j c_are_kinds_within):Zc P w base cl tx (j+1) (fun ts=>zu (j1 c_is_span c_is_kind_within c_are_choices c_are_kinds_within (en0 2 ts))):=by
 refine Zx tx.C_is_kind_within.F uu rfl (fun cdv A outer s H E Y hy hr=> ?_) (fun ts h=>rfl)
 refine zk ?_ ?_
 refine zN ?_ ?_ ?_
 refine yb.t ?_
 refine Vq ?_ ?_
 exact zB zE (zq hr.units) (zp 1 (pv 1)) (Snd.b zd) (zl _)
 refine Vq ?_ ?_
 exact Ut (wN (Snd.b (Uu (n:="tuple") (jO _) (by rfl) tx.z_isinstance (by rfl) tx.z_tuple PyProof.Rows.Boot.«tuple» (zp 0 (pv 0)))))
 exact ye (zB zE (zq hr.units) (Snd.b (Jy (by rfl) tx.z_len (zp 0 (pv 0)))) (Snd.b zd) (zl _))
 exact zn (zt QL)
 exact zM
 refine zk ?_ ?_
 refine zN ?_ ?_ ?_
 exact zB zE (zq hr.units) (Snd.b (zY (zb 0 (pv 0)) zd)) (Snd.b zF) (zl _)
 refine zn ?_
 refine zt ?_
 refine Jb ?_ ?_
 exact jA zE (zq hr.units) (Snd.b (Jy (by rfl) tx.z_len (zp 0 (pv 0)))) (Snd.b zd) (zl _)
 refine wa ?_
 refine cZ hy O_is_span hr tx.C_is_span ?_
 refine za ?_ ?_
 exact zY (zb 0 (pv 0)) zd
 refine za ?_ ?_
 exact zY (zb 0 (pv 0)) zd
 exact za (kb zd) (za zd zi)
 exact zM
 refine zk ?_ ?_
 refine zN ?_ ?_ ?_
 exact zB zE (zq hr.units) (Snd.b (zY (zb 0 (pv 0)) zd)) (Snd.b zF) (zl _)
 refine zn ?_
 refine zt ?_
 refine Jb ?_ ?_
 exact jA zE (zq hr.units) (Snd.b (Jy (by rfl) tx.z_len (zp 0 (pv 0)))) (Snd.b zd) (zl _)
 exact wa (cZ hy O_are_choices hr tx.C_are_choices (za (zY (zb 0 (pv 0)) zd) zi))
 exact zM
 refine zk ?_ ?_
 refine zN ?_ ?_ ?_
 exact zB zE (zq hr.units) (Snd.b (zY (zb 0 (pv 0)) zd)) (Snd.b zF) (zl _)
 refine zn ?_
 refine zt ?_
 refine Jb ?_ ?_
 exact jA zE (zq hr.units) (Snd.b (Jy (by rfl) tx.z_len (zp 0 (pv 0)))) (Snd.b zd) (zl _)
 refine wa ?_
 refine cZ hy O_are_kinds_within hr tx.C_are_kinds_within ?_
 refine za ?_ ?_
 exact zY (zb 0 (pv 0)) zd
 exact za (Wu (zb 1 (pv 1)) zd) zi
 exact zM
 refine zk ?_ ?_
 refine zN ?_ ?_ ?_
 exact zB zE (zq hr.units) (Snd.b (zY (zb 0 (pv 0)) zd)) (Snd.b zF) (zl _)
 refine zn ?_
 refine zt ?_
 refine Jb ?_ ?_
 exact jA zE (zq hr.units) (Snd.b (Jy (by rfl) tx.z_len (zp 0 (pv 0)))) (Snd.b zd) (zl _)
 refine Jb ?_ ?_
 refine cZ hy O_is_span hr tx.C_is_span ?_
 refine za ?_ ?_
 exact zY (zb 0 (pv 0)) zd
 refine za ?_ ?_
 exact zY (zb 0 (pv 0)) zd
 exact za zd (za zd zi)
 refine wa ?_
 refine cZ hy O_is_kind_within hr tx.C_is_kind_within ?_
 refine za ?_ ?_
 exact zY (zb 0 (pv 0)) zd
 exact za (Wu (zb 1 (pv 1)) zd) zi
 exact zM
 exact zn (zt QL)
end
end G
namespace G
open PySem PySem.Spec PyProof.Rows L2 PV
section
variable {P:Program} {w:World} {K:PySem.W.Frag} {mg:Str->Option Value} {base:Heap} {cl:Nat->Value} {tx:Tx K mg}
theorem WH {j:Nat} (hj:3<=j) {c_is_tuple_of c_is_kind_within:List T->R T} (O_is_tuple_of:jy P w base cl tx 1 c_is_tuple_of) (O_is_kind_within:Zc P w base cl tx j c_is_kind_within):ZM P w base cl tx (j+1) (fun ts=>zu (ZK c_is_tuple_of c_is_kind_within (en0 2 ts))):=by
 refine Zx tx.C_are_kinds_within.F WC rfl (fun cdv A outer s H E Y hy hr=> ?_) (fun ts h=>rfl)
 refine zn ?_
 refine zt ?_
 refine Jb ?_ ?_
 refine cZ hy O_is_tuple_of hr tx.C_is_tuple_of ?_
 exact za (zb 0 (pv 0)) (za zd (za zd zi))
 refine wa ?_
 refine xh hr.hd (by rfl) tx.z_all ?_
 refine Snd.b ?_
 refine jc (Zm ["part","levels"] JR (ze jx) (by rfl) (by rfl) (by decide+kernel) (by rfl) ?_ (fun _ _ _ _ _ _=>zH (show List.Nodup (["part","levels"]:List Str) by decide+kernel) (by rfl) (.inl (by rfl)) (.inr (by rfl))) (zU 0) (zV 0) (fun Y' hy' _ _ _ _ _ _=> ?_) (fun Y' hy' _ _ _ _ _ _=> ?_))
 exact jP (zb 0 (pv 0))
 exact jC
 exact cZ (hy'.trans hy) O_is_kind_within hr tx.C_is_kind_within (za (zb 0 (pv 0)) (za (zb 1 (pv 1)) zi))
end
end G
namespace G
open PySem PySem.Spec PyProof.Rows L2 PV
section
variable {P:Program} {w:World} {K:PySem.W.Frag} {mg:Str->Option Value} {base:Heap} {cl:Nat->Value} {tx:Tx K mg}
theorem Vl {c_is_kind_within:List T->R T} (O_is_kind_within:Zc P w base cl tx 23 c_is_kind_within):y6 P w base cl tx 24 (fun ts=>zu (WU c_is_kind_within (en0 1 ts))):=by
 obtain ⟨u_DEEPEST,c_DEEPEST⟩:=tx.c_DEEPEST
 refine Zx tx.C_is_kind.F Va rfl (fun cdv A outer s H E Y hy hr=> ?_) (fun ts h=>rfl)
 refine zn ?_
 exact zt (cZ hy O_is_kind_within hr tx.C_is_kind_within (za (zb 0 (pv 0)) (za (Uy (by rfl) c_DEEPEST.1 c_DEEPEST.2) zi)))
end
end G
namespace G
open PySem PySem.Spec PyProof.Rows L2 PV
section
variable {P:Program} {w:World} {K:PySem.W.Frag} {mg:Str->Option Value} {base:Heap} {cl:Nat->Value} {tx:Tx K mg}
theorem qT {c_is_kind:List T->R T} (xq:Tq K mg base cl) (O_is_kind:y6 P w base cl tx 24 c_is_kind):WG P w base cl tx 25 (fun ts=>zu (wq c_is_kind (en0 1 ts))):=by
 refine uI tx.C_need_kind.F qH rfl (fun cdv A outer s H E Y hy hE hr=> ?_) (fun ts h=>rfl)
 refine zn ?_
 refine zN ?_ ?_ ?_
 exact Ut (wN (Snd.b (cZ hy O_is_kind hr tx.C_is_kind (za (zb 0 (pv 0)) zi))))
 exact zn (yZ (c:=0) xq.o_NoKind PySem.F.excBase_ValueError (by decide) PySem.F.excBase_ValueError hE (by rw [hy]; exact xq.l_NoKind) (by rfl))
 exact zM
end
end G
namespace G
open PySem PySem.Spec PyProof.Rows L2 PV
section
variable {P:Program} {w:World} {K:PySem.W.Frag} {mg:Str->Option Value} {base:Heap} {cl:Nat->Value} {tx:Tx K mg}
theorem QB {j:Nat} (hj:0<=j) {c_count_of_parts c_count_shorter:List T->R T} (O_count_of_parts:ZC P w base cl tx j c_count_of_parts) (O_count_shorter:ZS P w base cl tx j c_count_shorter):Jm P w base cl tx (j+1) (fun ts=>zu (Wh c_count_of_parts c_count_shorter (en0 1 ts))):=by
 refine Zx tx.C_count_of.F Qu rfl (fun cdv A outer s H E Y hy hr=> ?_) (fun ts h=>rfl)
 refine zk ?_ ?_
 refine zN ?_ ?_ ?_
 exact zB zE (zq hr.units) (Snd.b (zY (zb 0 (pv 0)) zd)) (Snd.b zF) (zl _)
 refine zn ?_
 refine zt ?_
 refine zZ ?_ ?_
 exact Wu (zY (zb 0 (pv 0)) zd) (zY (zb 0 (pv 0)) zd)
 exact zd
 exact zM
 refine zk ?_ ?_
 refine zN ?_ ?_ ?_
 exact zB zE (zq hr.units) (Snd.b (zY (zb 0 (pv 0)) zd)) (Snd.b zF) (zl _)
 exact zn (zt (Jy (by rfl) tx.z_len (Snd.b (zY (zb 0 (pv 0)) zd))))
 exact zM
 refine zk ?_ ?_
 refine zN ?_ ?_ ?_
 exact zB zE (zq hr.units) (Snd.b (zY (zb 0 (pv 0)) zd)) (Snd.b zF) (zl _)
 refine zn ?_
 exact zt (cZ hy O_count_of_parts hr tx.C_count_of_parts (za (zY (zb 0 (pv 0)) zd) zi))
 exact zM
 refine zn ?_
 refine zt ?_
 refine cZ hy O_count_shorter hr tx.C_count_shorter ?_
 refine za ?_ ?_
 exact zb 0 (pv 0)
 exact za (zZ (zY (zb 0 (pv 0)) zd) zd) zi
end
end G
namespace G
open PySem PySem.Spec PyProof.Rows L2 PV
section
variable {P:Program} {w:World} {K:PySem.W.Frag} {mg:Str->Option Value} {base:Heap} {cl:Nat->Value} {tx:Tx K mg}
theorem uD {j:Nat} (hj:0<=j) {c_count_of:List T->R T} (O_count_of:Jm P w base cl tx j c_count_of):ZC P w base cl tx (j+1) (fun ts=>zu (zR c_count_of (en0 3 ts))):=by
 refine Zx tx.C_count_of_parts.F ZT rfl (fun cdv A outer s H E Y hy hr=> ?_) (fun ts h=>rfl)
 refine zk ?_ ?_
 exact ZH (i:=1) ZT.nd (by rfl) (.inl (by rfl)) zd
 refine zk ?_ ?_
 refine U0 PassesOwn.never (by rfl) ?_ ?_ ?_
 exact jP (zb 0 (pv 0))
 exact wA (i:=2) ZT.nd (by rfl) (.inl (by rfl))
 refine zn ?_
 exact ZH (i:=1) ZT.nd (by rfl) (.inl (by rfl)) (Jq (zb 1 (pv 1)) (cZ hy O_count_of hr tx.C_count_of (za (zb 2 (pv 2)) zi)))
 exact zn (zt (zb 1 (pv 1)))
end
end G
namespace G
open PySem PySem.Spec PyProof.Rows L2 PV
section
variable {P:Program} {w:World} {K:PySem.W.Frag} {mg:Str->Option Value} {base:Heap} {cl:Nat->Value} {tx:Tx K mg}
theorem U9 {j:Nat} (hj:0<=j) {c_count_of_parts:List T->R T} (O_count_of_parts:ZC P w base cl tx j c_count_of_parts):ZS P w base cl tx (j+1) (fun ts=>zu (Z7 c_count_of_parts (en0 2 ts))):=by
 refine Zx tx.C_count_shorter.F U7 rfl (fun cdv A outer s H E Y hy hr=> ?_) (fun ts h=>rfl)
 refine zn ?_
 refine zt ?_
 refine z0C hr.hd (by rfl) tx.z_sum ?_
 refine Snd.b ?_
 refine jc (Zm ["each","kind"] W3 (ze Js) (by rfl) (by rfl) (by decide+kernel) (by rfl) ?_ (fun _ _ _ _ _ _=>zH (show List.Nodup (["each","kind"]:List Str) by decide+kernel) (by rfl) (.inl (by rfl)) (.inr (by rfl))) (zU 0) (zV 0) (fun Y' hy' _ _ _ _ _ _=> ?_) (fun Y' hy' _ _ _ _ _ _=> ?_))
 exact Km (by rfl) tx.z_range (zY (zb 0 (pv 0)) zd) (zb 1 (pv 1))
 exact jC
 refine cZ (hy'.trans hy) O_count_of_parts hr tx.C_count_of_parts ?_
 refine za ?_ ?_
 refine Jq ?_ ?_
 exact wk (za (zY (zb 1 (pv 1)) zd) zi)
 exact zb 0 (pv 0)
 exact zi
end
end G
namespace G
open PySem PySem.Spec PyProof.Rows L2 PV
section
variable {P:Program} {w:World} {K:PySem.W.Frag} {mg:Str->Option Value} {base:Heap} {cl:Nat->Value} {tx:Tx K mg}
theorem Ua:Jx P w base cl tx 1 (fun ts=>zu (jt  (en0 1 ts))):=by
 refine Zx tx.C_words_of_pick.F U8 rfl (fun cdv A outer s H E Y hy hr=> ?_) (fun ts h=>rfl)
 refine zn ?_
 refine zt ?_
 refine jc (Zm ["choice"] W4 (ze Jt) (by rfl) (by rfl) (by decide+kernel) (by rfl) ?_ (fun _ _ _ _ _ _=>zH (show List.Nodup (["choice"]:List Str) by decide+kernel) (by rfl) (.inl (by rfl)) (.inr (by rfl))) (zU 0) (zV 0) (fun Y' hy' _ _ _ _ _ _=> ?_) (fun Y' hy' _ _ _ _ _ _=> ?_))
 exact jP (zY (zb 0 (pv 0)) zd)
 exact jC
 exact zY (zb 0 (pv 0)) zd
end
end G
namespace G
open PySem PySem.Spec PyProof.Rows L2 PV
section
variable {P:Program} {w:World} {K:PySem.W.Frag} {mg:Str->Option Value} {base:Heap} {cl:Nat->Value} {tx:Tx K mg}
theorem QC {j:Nat} (hj:20<=j) {c_words_of_pick c_many_at c_parts_at:List T->R T} (O_words_of_pick:Jx P w base cl tx 1 c_words_of_pick) (O_many_at:uc P w base cl tx j c_many_at) (O_parts_at:wj P w base cl tx j c_parts_at):wg P w base cl tx (j+1) (fun ts=>zu (Wi c_words_of_pick c_many_at c_parts_at (en0 2 ts))):=by
 refine Zx tx.C_worth_at.F Qv rfl (fun cdv A outer s H E Y hy hr=> ?_) (fun ts h=>rfl)
 refine zk ?_ ?_
 refine zN ?_ ?_ ?_
 exact zB zE (zq hr.units) (Snd.b (zY (zb 0 (pv 0)) zd)) (Snd.b zF) (zl _)
 exact zn (zt (zZ (zY (zb 0 (pv 0)) zd) (zb 1 (pv 1))))
 exact zM
 refine zk ?_ ?_
 refine zN ?_ ?_ ?_
 exact zB zE (zq hr.units) (Snd.b (zY (zb 0 (pv 0)) zd)) (Snd.b zF) (zl _)
 refine zn ?_
 exact zt (zY (cZ hy O_words_of_pick hr tx.C_words_of_pick (za (zb 0 (pv 0)) zi)) (zb 1 (pv 1)))
 exact zM
 refine zk ?_ ?_
 refine zN ?_ ?_ ?_
 exact zB zE (zq hr.units) (Snd.b (zY (zb 0 (pv 0)) zd)) (Snd.b zF) (zl _)
 refine zn ?_
 refine zt ?_
 refine cZ hy O_parts_at hr tx.C_parts_at ?_
 exact za (zY (zb 0 (pv 0)) zd) (za (zb 1 (pv 1)) zi)
 exact zM
 refine zn ?_
 exact zt (cZ hy O_many_at hr tx.C_many_at (za (zb 0 (pv 0)) (za (zb 1 (pv 1)) zi)))
end
end G
namespace G
open PySem PySem.Spec PyProof.Rows L2 PV
section
variable {P:Program} {w:World} {K:PySem.W.Frag} {mg:Str->Option Value} {base:Heap} {cl:Nat->Value} {tx:Tx K mg}
theorem Vm {j:Nat} (hj:20<=j) {c_count_shorter c_parts_at:List T->R T} (O_count_shorter:ZS P w base cl tx 20 c_count_shorter) (O_parts_at:wj P w base cl tx j c_parts_at):uc P w base cl tx (j+1) (fun ts=>zu (wd c_count_shorter c_parts_at (en0 3 ts))):=by
 refine Zx tx.C_many_at.F uv rfl (fun cdv A outer s H E Y hy hr=> ?_) (fun ts h=>rfl)
 refine zk ?_ ?_
 exact ZH (i:=2) uv.nd (by rfl) (.inl (by rfl)) (zY (zb 0 (pv 0)) zd)
 refine zk ?_ ?_
 refine gF (n:=8) PassesOwn.never ?_ ?_
 refine zB jB Zh ?_ ?_ (zl _)
 refine Snd.b ?_
 refine cZ hy O_count_shorter hr tx.C_count_shorter ?_
 exact za (zb 0 (pv 0)) (za (zZ (zb 2 (pv 2)) zd) zi)
 exact zp 1 (pv 1)
 exact zn (ZH (i:=2) uv.nd (by rfl) (.inl (by rfl)) (zZ (zb 2 (pv 2)) zd))
 refine zn ?_
 refine zt ?_
 refine cZ hy O_parts_at hr tx.C_parts_at ?_
 refine za ?_ ?_
 refine Jq ?_ ?_
 exact wk (za (zY (zb 0 (pv 0)) zd) zi)
 exact zb 2 (pv 2)
 refine za ?_ ?_
 refine Wu ?_ ?_
 exact zb 1 (pv 1)
 exact cZ hy O_count_shorter hr tx.C_count_shorter (za (zb 0 (pv 0)) (za (zb 2 (pv 2)) zi))
 exact zi
end
end G
namespace G
open PySem PySem.Spec PyProof.Rows L2 PV
section
variable {P:Program} {w:World} {K:PySem.W.Frag} {mg:Str->Option Value} {base:Heap} {cl:Nat->Value} {tx:Tx K mg}
theorem QD {j:Nat} (hj:20<=j) {c_count_of c_worth_at:List T->R T} (O_count_of:Jm P w base cl tx 20 c_count_of) (O_worth_at:wg P w base cl tx j c_worth_at):wj P w base cl tx (j+1) (fun ts=>zu (jF c_count_of c_worth_at (en0 6 ts))):=by
 refine Zx tx.C_parts_at.F jG rfl (fun cdv A outer s H E Y hy hr=> ?_) (fun ts h=>rfl)
 refine zk ?_ ?_
 exact YR (i:=2) jG.nd (by rfl) (.inl (by rfl)) zi
 refine zk ?_ ?_
 exact ZH (i:=3) jG.nd (by rfl) (.inl (by rfl)) (zb 1 (pv 1))
 refine zk ?_ ?_
 refine U0 PassesOwn.never (by rfl) ?_ ?_ ?_
 exact z2h (by rfl) tx.z_reversed (zb 0 (pv 0))
 exact wA (i:=4) jG.nd (by rfl) (.inl (by rfl))
 refine zk ?_ ?_
 exact ZH (i:=5) jG.nd (by rfl) (.inl (by rfl)) (cZ hy O_count_of hr tx.C_count_of (za (zb 4 (pv 4)) zi))
 refine zk ?_ ?_
 refine z0o (i:=2) (pv 2) ?_
 refine cZ hy O_worth_at hr tx.C_worth_at ?_
 exact za (zb 4 (pv 4)) (za (yR (zb 3 (pv 3)) (zb 5 (pv 5))) zi)
 exact zn (ZH (i:=3) jG.nd (by rfl) (.inl (by rfl)) (Kb (zb 3 (pv 3)) (zb 5 (pv 5))))
 exact zn (zt (z0N hr.hd (by rfl) tx.z_tuple (by rfl) tx.z_reversed (zb 2 (pv 2))))
end
end G
namespace G
open PySem PySem.Spec PyProof.Rows L2 PV
section
variable {P:Program} {w:World} {K:PySem.W.Frag} {mg:Str->Option Value} {base:Heap} {cl:Nat->Value} {tx:Tx K mg}
theorem Yq {c_need_kind c_count_of c_worth_at:List T->R T} (xq:Tq K mg base cl) (O_need_kind:WG P w base cl tx 25 c_need_kind) (O_count_of:Jm P w base cl tx 20 c_count_of) (O_worth_at:wg P w base cl tx 40 c_worth_at):Wa P w base cl tx 41 (fun ts=>zu (JM c_need_kind c_count_of c_worth_at (en0 2 ts))):=by
 obtain ⟨u_MOST_TOLD,c_MOST_TOLD⟩:=tx.c_MOST_TOLD
 refine uI tx.C_all_worths.F u9 rfl (fun cdv A outer s H E Y hy hE hr=> ?_) (fun ts h=>rfl)
 refine zk ?_ ?_
 exact YS (cX hy (hE ▸ Jo) O_need_kind hr tx.C_need_kind (za (zb 0 (pv 0)) zi))
 refine zk ?_ ?_
 exact ZH (i:=1) u9.nd (by rfl) (.inl (by rfl)) (cZ hy O_count_of hr tx.C_count_of (za (zb 0 (pv 0)) zi))
 refine zk ?_ ?_
 refine zN ?_ ?_ ?_
 exact zB VV YL (zp 1 (pv 1)) (Snd.b (Uy (by rfl) c_MOST_TOLD.1 c_MOST_TOLD.2)) (zl _)
 exact zn (yZ (c:=3) xq.o_TooMany PySem.F.excBase_ValueError (by decide) PySem.F.excBase_ValueError hE (by rw [hy]; exact xq.l_TooMany) (by rfl))
 exact zM
 refine zn ?_
 refine z0D (Zm ["number","kind"] uU (ze W5) (by rfl) (by rfl) (by decide+kernel) (by rfl) ?_ (fun _ _ _ _ _ _=>zH (show List.Nodup (["number","kind"]:List Str) by decide+kernel) (by rfl) (.inl (by rfl)) (.inr (by rfl))) (zU 0) (zV 0) (fun Y' hy' _ _ _ _ _ _=> ?_) (fun Y' hy' _ _ _ _ _ _=> ?_))
 exact yt (by rfl) tx.z_range (zb 1 (pv 1))
 exact jC
 exact cZ (hy'.trans hy) O_worth_at hr tx.C_worth_at (za (zb 1 (pv 1)) (za (zb 0 (pv 0)) zi))
end
end G
namespace G
open PySem PySem.Spec PyProof.Rows L2 PV
section
variable {P:Program} {w:World} {K:PySem.W.Frag} {mg:Str->Option Value} {base:Heap} {cl:Nat->Value} {tx:Tx K mg}
theorem Vn {c_all_worths c_need_rule c_is_kept:List T->R T} (O_all_worths:Wa P w base cl tx 41 c_all_worths) (O_need_rule:wy P w base cl tx 12 c_need_rule) (O_is_kept:wf P w base cl tx 18 c_is_kept):ud P w base cl tx 42 (fun ts=>zu (WV c_all_worths c_need_rule c_is_kept (en0 2 ts))):=by
 refine uI tx.C_keepers.F Ve rfl (fun cdv A outer s H E Y hy hE hr=> ?_) (fun ts h=>rfl)
 refine zk ?_ ?_
 exact YS (cX hy (hE ▸ Jo) O_need_rule hr tx.C_need_rule (za (zb 1 (pv 1)) zi))
 refine zn ?_
 refine zt ?_
 refine jc (Zm ["worth","rule"] qJ (ze UY) (by rfl) (by rfl) (by decide+kernel) (by rfl) ?_ (fun _ _ _ _ _ _=>zH (show List.Nodup (["worth","rule"]:List Str) by decide+kernel) (by rfl) (.inl (by rfl)) (.inr (by rfl))) (zU 0) (zV 0) (fun Y' hy' _ _ _ _ _ _=> ?_) (fun Y' hy' _ _ _ _ _ _=> ?_))
 exact jP (cX hy (hE ▸ Jo) O_all_worths hr tx.C_all_worths (za (zb 0 (pv 0)) zi))
 refine uF ?_
 refine wN ?_
 exact Snd.b (cZ (hy'.trans hy) O_is_kept hr tx.C_is_kept (za (zb 1 (pv 1)) (za (zb 0 (pv 0)) zi)))
 exact zb 0 (pv 0)
end
end G
namespace G
open PySem PySem.Spec PyProof.Rows L2 PV
section
variable {P:Program} {w:World} {K:PySem.W.Frag} {mg:Str->Option Value} {base:Heap} {cl:Nat->Value} {tx:Tx K mg}
theorem Vo {c_is_kept c_keepers c_need_rules:List T->R T} (O_is_kept:wf P w base cl tx 18 c_is_kept) (O_keepers:ud P w base cl tx 42 c_keepers) (O_need_rules:JS P w base cl tx 13 c_need_rules):y7 P w base cl tx 43 (fun ts=>zu (WW c_is_kept c_keepers c_need_rules (en0 3 ts))):=by
 refine uI tx.C_implies.F Vf rfl (fun cdv A outer s H E Y hy hE hr=> ?_) (fun ts h=>rfl)
 refine zk ?_ ?_
 refine YS ?_
 refine cX hy (hE ▸ Jo) O_need_rules hr tx.C_need_rules ?_
 refine za ?_ ?_
 exact jN (za (zb 1 (pv 1)) (za (zb 2 (pv 2)) zi))
 exact zi
 refine zn ?_
 refine zt ?_
 refine xh hr.hd (by rfl) tx.z_all ?_
 refine Snd.b ?_
 refine jc (Zm ["worth","other"] qK (ze UZ) (by rfl) (by rfl) (by decide+kernel) (by rfl) ?_ (fun _ _ _ _ _ _=>zH (show List.Nodup (["worth","other"]:List Str) by decide+kernel) (by rfl) (.inl (by rfl)) (.inr (by rfl))) (zU 0) (zV 0) (fun Y' hy' _ _ _ _ _ _=> ?_) (fun Y' hy' _ _ _ _ _ _=> ?_))
 exact jP (cX hy (hE ▸ Jo) O_keepers hr tx.C_keepers (za (zb 0 (pv 0)) (za (zb 1 (pv 1)) zi)))
 exact jC
 exact cZ (hy'.trans hy) O_is_kept hr tx.C_is_kept (za (zb 1 (pv 1)) (za (zb 0 (pv 0)) zi))
end
end G
namespace G
open PySem PySem.Spec PyProof.Rows L2 PV
section
variable {P:Program} {w:World} {K:PySem.W.Frag} {mg:Str->Option Value} {base:Heap} {cl:Nat->Value} {tx:Tx K mg}
theorem QE {c_keepers c_need_rules:List T->R T} (O_keepers:ud P w base cl tx 42 c_keepers) (O_need_rules:JS P w base cl tx 13 c_need_rules):uy P w base cl tx 43 (fun ts=>zu (Wj c_keepers c_need_rules (en0 3 ts))):=by
 refine uI tx.C_alike_on.F Qw rfl (fun cdv A outer s H E Y hy hE hr=> ?_) (fun ts h=>rfl)
 refine zk ?_ ?_
 refine YS ?_
 refine cX hy (hE ▸ Jo) O_need_rules hr tx.C_need_rules ?_
 refine za ?_ ?_
 exact jN (za (zb 1 (pv 1)) (za (zb 2 (pv 2)) zi))
 exact zi
 refine zn ?_
 refine zt ?_
 refine jA zE (zq hr.units) ?_ ?_ (zl _)
 exact Snd.b (cX hy (hE ▸ Jo) O_keepers hr tx.C_keepers (za (zb 0 (pv 0)) (za (zb 1 (pv 1)) zi)))
 exact Snd.b (cX hy (hE ▸ Jo) O_keepers hr tx.C_keepers (za (zb 0 (pv 0)) (za (zb 2 (pv 2)) zi)))
end
end G
namespace G
open PySem PySem.Spec PyProof.Rows L2 PV
section
variable {P:Program} {w:World} {K:PySem.W.Frag} {mg:Str->Option Value} {base:Heap} {cl:Nat->Value} {tx:Tx K mg}
theorem ym {j:Nat} (hj:0<=j) {c__law_leaves:List T->R T} (O__law_leaves:jz P w base cl tx j c__law_leaves):jz P w base cl tx (j+1) (fun ts=>zu (Jd c__law_leaves (en0 3 ts))):=by
 refine Zx tx.C__law_leaves.F jM rfl (fun cdv A outer s H E Y hy hr=> ?_) (fun ts h=>rfl)
 refine zk ?_ ?_
 refine zN ?_ ?_ ?_
 exact Ut (wN (Snd.b (Uu (n:="tuple") (jO _) (by rfl) tx.z_isinstance (by rfl) tx.z_tuple PyProof.Rows.Boot.«tuple» (zp 0 (pv 0)))))
 exact zn (zt (wk (za (zb 0 (pv 0)) zi)))
 exact zM
 refine zk ?_ ?_
 exact ZH (i:=1) jM.nd (by rfl) (.inl (by rfl)) (wk zi)
 refine zk ?_ ?_
 refine U0 PassesOwn.never (by rfl) ?_ ?_ ?_
 exact jP (zb 0 (pv 0))
 exact wA (i:=2) jM.nd (by rfl) (.inl (by rfl))
 refine zn ?_
 exact ZH (i:=1) jM.nd (by rfl) (.inl (by rfl)) (zZ (zb 1 (pv 1)) (cZ hy O__law_leaves hr tx.C__law_leaves (za (zb 2 (pv 2)) zi)))
 exact zn (zt (zb 1 (pv 1)))
end
end G
namespace G
open PySem PySem.Spec PyProof.Rows L2 PV
section
variable {P:Program} {w:World} {K:PySem.W.Frag} {mg:Str->Option Value} {base:Heap} {cl:Nat->Value} {tx:Tx K mg}
theorem Yr {j:Nat} (hj:8<=j) {c__law_leaves c__law_keeps:List T->R T} (O__law_leaves:jz P w base cl tx 8 c__law_leaves) (O__law_keeps:jW P w base cl tx j c__law_keeps):jW P w base cl tx (j+1) (fun ts=>zu (JO c__law_leaves c__law_keeps (en0 7 ts))):=by
 refine Zx tx.C__law_keeps.F Zv rfl (fun cdv A outer s H E Y hy hr=> ?_) (fun ts h=>rfl)
 refine zk ?_ ?_
 refine YT (i:=2) (Zm ["_law_one"] jV (ze jj) (by rfl) (by rfl) (by decide+kernel) (by rfl) ?_ (fun _ _ _ _ _ _=>zH (show List.Nodup (["_law_one"]:List Str) by decide+kernel) (by rfl) (.inl (by rfl)) (.inr (by rfl))) (zU 0) (zV 0) (fun Y' hy' _ _ _ _ _ _=> ?_) (fun Y' hy' _ _ _ _ _ _=> ?_)) Zv.nd (by rfl) (.inl (by rfl)) (by rfl)
 exact jP (cZ hy O__law_leaves hr tx.C__law_leaves (za (zb 1 (pv 1)) zi))
 exact uF (wN (Snd.b (Uu (n:="int") (x6 _) (by rfl) tx.z_isinstance (by rfl) tx.z_int PyProof.Rows.Boot.«int» (zp 0 (pv 0)))))
 exact zb 0 (pv 0)
 refine zk ?_ ?_
 refine ZH (i:=3) Zv.nd (by rfl) (.inr (by rfl)) ?_
 refine GG ?_ ?_ ?_
 exact wN (Snd.b (Uu (n:="tuple") (jO _) (by rfl) tx.z_isinstance (by rfl) tx.z_tuple PyProof.Rows.Boot.«tuple» (zp 1 (pv 1))))
 exact zb 1 (pv 1)
 exact jN (za (zb 1 (pv 1)) zi)
 refine zk ?_ ?_
 refine zN ?_ ?_ ?_
 exact zB zE (zq hr.units) (Snd.b (zY (zb 0 (pv 0)) zd)) (Snd.b zF) (zl _)
 refine zk ?_ ?_
 exact ZH (i:=4) Zv.nd (by rfl) (.inl (by rfl)) zd
 refine zk ?_ ?_
 refine U0 PassesOwn.never (by rfl) ?_ ?_ ?_
 exact jP (zb 2 (pv 2))
 exact wA (i:=5) Zv.nd (by rfl) (.inl (by rfl))
 exact zn (ZH (i:=4) Zv.nd (by rfl) (.inl (by rfl)) (zZ (zb 4 (pv 4)) (zb 5 (pv 5))))
 refine zn ?_
 refine zt ?_
 refine Jb ?_ ?_
 exact jA jB Zh (Snd.b (zY (zb 0 (pv 0)) zd)) (zp 4 (pv 4)) (zl _)
 exact wa (jA jB Zh (zp 4 (pv 4)) (Snd.b (zY (zb 0 (pv 0)) zd)) (zl _))
 exact zM
 refine zk ?_ ?_
 refine zN ?_ ?_ ?_
 exact zB zE (zq hr.units) (Snd.b (zY (zb 0 (pv 0)) zd)) (Snd.b zF) (zl _)
 refine zn ?_
 refine zt ?_
 refine Jb ?_ ?_
 refine jA z22 z0j ?_ ?_ (zl _)
 exact Snd.b (Jy (by rfl) tx.z_len (zp 3 (pv 3)))
 exact Snd.b (zY (zb 0 (pv 0)) zd)
 refine wa ?_
 refine jA jB Zh ?_ ?_ (zl _)
 exact Snd.b (Jy (by rfl) tx.z_len (zp 3 (pv 3)))
 exact Snd.b (zY (zb 0 (pv 0)) zd)
 exact zM
 refine zk ?_ ?_
 refine zN ?_ ?_ ?_
 exact zB zE (zq hr.units) (Snd.b (zY (zb 0 (pv 0)) zd)) (Snd.b zF) (zl _)
 refine zn ?_
 refine zt ?_
 refine jA YK (uE hr.units) ?_ ?_ (zl _)
 refine Snd.b ?_
 refine jc (Zm ["_law_one","_law_rule_here"] jV (ze jj) (by rfl) (by rfl) (by decide+kernel) (by rfl) ?_ (fun _ _ _ _ _ _=>zH (show List.Nodup (["_law_one","_law_rule_here"]:List Str) by decide+kernel) (by rfl) (.inl (by rfl)) (.inr (by rfl))) (zU 0) (zV 0) (fun Y' hy' _ _ _ _ _ _=> ?_) (fun Y' hy' _ _ _ _ _ _=> ?_))
 exact jP (cZ hy O__law_leaves hr tx.C__law_leaves (za (zb 1 (pv 1)) zi))
 exact uF (zB zE (zq hr.units) (zp 0 (pv 0)) (Snd.b (zY (zb 1 (pv 1)) zd)) (zl _))
 exact zb 0 (pv 0)
 exact Snd.b (wk zi)
 exact zM
 refine zk ?_ ?_
 refine zN ?_ ?_ ?_
 exact zB zE (zq hr.units) (Snd.b (zY (zb 0 (pv 0)) zd)) (Snd.b zF) (zl _)
 exact zn (zt (jA zE (zq hr.units) (zp 2 (pv 2)) (Snd.b (z0O (by rfl) tx.z_sorted (zp 2 (pv 2)))) (zl _)))
 exact zM
 refine zk ?_ ?_
 refine zN ?_ ?_ ?_
 exact zB zE (zq hr.units) (Snd.b (zY (zb 0 (pv 0)) zd)) (Snd.b zF) (zl _)
 refine zn ?_
 refine zt ?_
 refine jA zE (zq hr.units) ?_ ?_ (zl _)
 refine Snd.b ?_
 refine jc (Zm ["_law_k","_law_parts"] jV (ze jj) (by rfl) (by rfl) (by decide+kernel) (by rfl) ?_ (fun _ _ _ _ _ _=>zH (show List.Nodup (["_law_k","_law_parts"]:List Str) by decide+kernel) (by rfl) (.inl (by rfl)) (.inr (by rfl))) (zU 0) (zV 0) (fun Y' hy' _ _ _ _ _ _=> ?_) (fun Y' hy' _ _ _ _ _ _=> ?_))
 exact yt (by rfl) tx.z_range (Jy (by rfl) tx.z_len (zp 3 (pv 3)))
 refine uF ?_
 refine zB vH (QO hr.units) ?_ ?_ (by rfl)
 exact Snd.b (zY (zb 1 (pv 1)) (zb 0 (pv 0)))
 exact Snd.b (yT (zb 1 (pv 1)) QP (QQ (zb 0 (pv 0))))
 exact zb 0 (pv 0)
 exact Snd.b (wk zi)
 exact zM
 refine zk ?_ ?_
 refine zN ?_ ?_ ?_
 exact zB zE (zq hr.units) (Snd.b (zY (zb 0 (pv 0)) zd)) (Snd.b zF) (zl _)
 refine zn ?_
 refine zt ?_
 refine kf ?_
 refine cZ hy O__law_keeps hr tx.C__law_keeps ?_
 exact za (zY (zb 0 (pv 0)) zd) (za (zb 1 (pv 1)) zi)
 exact zM
 refine zk ?_ ?_
 refine YT (i:=6) (Zm ["_law_one","_law_worth"] jV (ze jj) (by rfl) (by rfl) (by decide+kernel) (by rfl) ?_ (fun _ _ _ _ _ _=>zH (show List.Nodup (["_law_one","_law_worth"]:List Str) by decide+kernel) (by rfl) (.inl (by rfl)) (.inr (by rfl))) (zU 0) (zV 0) (fun Y' hy' _ _ _ _ _ _=> ?_) (fun Y' hy' _ _ _ _ _ _=> ?_)) Zv.nd (by rfl) (.inl (by rfl)) (by rfl)
 exact jP (yT (zb 0 (pv 0)) (QQ zd) QP)
 exact jC
 exact cZ (hy'.trans hy) O__law_keeps hr tx.C__law_keeps (za (zb 0 (pv 0)) (za (zb 1 (pv 1)) zi))
 refine zn ?_
 refine zt ?_
 refine GG ?_ ?_ ?_
 exact zB zE (zq hr.units) (Snd.b (zY (zb 0 (pv 0)) zd)) (Snd.b zF) (zl _)
 refine Jb ?_ ?_
 exact zY (zb 6 (pv 6)) zd
 exact wa (zY (zb 6 (pv 6)) zd)
 refine s_or ?_ ?_
 exact zY (zb 6 (pv 6)) zd
 exact wa (zY (zb 6 (pv 6)) zd)
end
end G
namespace G
open PySem PySem.Spec PyProof.Rows L2 PV
section
variable {P:Program} {w:World} {K:PySem.W.Frag} {mg:Str->Option Value} {base:Heap} {cl:Nat->Value} {tx:Tx K mg}
theorem z1l {c__law_pick c__law_all c__law_small c__law_rule c__law_keeps c_implies c_alike_on:List T->R T} (O__law_pick:jb P w base cl tx 2 c__law_pick) (O__law_all:Jk P w base cl tx 9 c__law_all) (O__law_small:W6 P w base cl tx 18 c__law_small) (O__law_rule:Jw P w base cl tx 10 c__law_rule) (O__law_keeps:jW P w base cl tx 16 c__law_keeps) (O_implies:y7 P w base cl tx 43 c_implies) (O_alike_on:uy P w base cl tx 43 c_alike_on):GE P w base cl tx 44 (fun ts=>zu (kI c__law_pick c__law_all c__law_small c__law_rule c__law_keeps c_implies c_alike_on (en0 11 ts))):=by
 refine uI tx.C_law.F uV rfl (fun cdv A outer s H E Y hy hE hr=> ?_) (fun ts h=>rfl)
 refine zk ?_ ?_
 refine ZH (i:=1) uV.nd (by rfl) (.inl (by rfl)) ?_
 refine cZ hy O__law_small hr tx.C__law_small ?_
 exact za (zb 0 (pv 0)) (za zd (za zd zi))
 refine zk ?_ ?_
 refine ZH (i:=2) uV.nd (by rfl) (.inl (by rfl)) ?_
 refine zZ ?_ ?_
 exact zd
 refine cZ hy O__law_pick hr tx.C__law_pick ?_
 exact za (zb 0 (pv 0)) (za zd (za zd zi))
 refine zk ?_ ?_
 refine z0R ?_ (z0r (i:=3) (j:=4) (by rfl) uV.nd (by rfl) (by rfl) (.inr (by rfl)) (.inr (by rfl)))
 refine jN ?_
 refine za ?_ ?_
 refine cZ hy O__law_rule hr tx.C__law_rule ?_
 exact za (zb 0 (pv 0)) (za zd (za (zb 2 (pv 2)) zi))
 refine za ?_ ?_
 refine cZ hy O__law_rule hr tx.C__law_rule ?_
 exact za (zb 0 (pv 0)) (za zd (za (zb 2 (pv 2)) zi))
 exact zi
 refine zk ?_ ?_
 exact ZH (i:=5) uV.nd (by rfl) (.inl (by rfl)) (cZ hy O__law_all hr tx.C__law_all (za (zb 1 (pv 1)) zi))
 refine zk ?_ ?_
 refine YT (i:=6) (Zm ["_law_worth","_law_one"] K3 (ze XF) (by rfl) (by rfl) (by decide+kernel) (by rfl) ?_ (fun _ _ _ _ _ _=>zH (show List.Nodup (["_law_worth","_law_one"]:List Str) by decide+kernel) (by rfl) (.inl (by rfl)) (.inr (by rfl))) (zU 0) (zV 0) (fun Y' hy' _ _ _ _ _ _=> ?_) (fun Y' hy' _ _ _ _ _ _=> ?_)) uV.nd (by rfl) (.inl (by rfl)) (by rfl)
 exact jP (zb 5 (pv 5))
 refine uF ?_
 refine wN ?_
 exact Snd.b (cZ (hy'.trans hy) O__law_keeps hr tx.C__law_keeps (za (zb 1 (pv 1)) (za (zb 0 (pv 0)) zi)))
 exact zb 0 (pv 0)
 refine zk ?_ ?_
 refine ZH (i:=7) uV.nd (by rfl) (.inr (by rfl)) (jc (Zm ["_law_worth","_law_other"] K3 (ze XF) (by rfl) (by rfl) (by decide+kernel) (by rfl) ?_ (fun _ _ _ _ _ _=>zH (show List.Nodup (["_law_worth","_law_other"]:List Str) by decide+kernel) (by rfl) (.inl (by rfl)) (.inr (by rfl))) (zU 0) (zV 0) (fun Y' hy' _ _ _ _ _ _=> ?_) (fun Y' hy' _ _ _ _ _ _=> ?_)))
 exact jP (zb 5 (pv 5))
 refine uF ?_
 refine wN ?_
 exact Snd.b (cZ (hy'.trans hy) O__law_keeps hr tx.C__law_keeps (za (zb 1 (pv 1)) (za (zb 0 (pv 0)) zi)))
 exact zb 0 (pv 0)
 refine zk ?_ ?_
 refine zN ?_ ?_ ?_
 refine zB YK (uE hr.units) ?_ ?_ (zl _)
 refine Snd.b ?_
 refine cX hy (hE ▸ Jo) O_implies hr tx.C_implies ?_
 exact za (zb 1 (pv 1)) (za (zb 3 (pv 3)) (za (zb 4 (pv 4)) zi))
 refine Snd.b ?_
 refine jA zE (zq hr.units) ?_ ?_ (zl _)
 refine Snd.b ?_
 refine jc (Zm ["_law_worth","_law_yours"] K3 (ze XF) (by rfl) (by rfl) (by decide+kernel) (by rfl) ?_ (fun _ _ _ _ _ _=>zH (show List.Nodup (["_law_worth","_law_yours"]:List Str) by decide+kernel) (by rfl) (.inl (by rfl)) (.inr (by rfl))) (zU 0) (zV 0) (fun Y' hy' _ _ _ _ _ _=> ?_) (fun Y' hy' _ _ _ _ _ _=> ?_))
 exact jP (zb 6 (pv 6))
 exact uF (zB Kc (VY hr.units) (zp 0 (pv 0)) (zp 1 (pv 1)) (by rfl))
 exact zb 0 (pv 0)
 exact Snd.b (wk zi)
 exact zn (zt QL)
 exact zM
 refine zk ?_ ?_
 refine zN ?_ ?_ ?_
 refine yb.t ?_
 refine Vq ?_ ?_
 refine zB YK (uE hr.units) ?_ ?_ (zl _)
 refine Snd.b ?_
 refine cX hy (hE ▸ Jo) O_alike_on hr tx.C_alike_on ?_
 exact za (zb 1 (pv 1)) (za (zb 3 (pv 3)) (za (zb 4 (pv 4)) zi))
 exact Snd.b (jA zE (zq hr.units) (zp 6 (pv 6)) (zp 7 (pv 7)) (zl _))
 refine ye ?_
 refine zB YK (uE hr.units) ?_ ?_ (zl _)
 refine Snd.b ?_
 refine cX hy (hE ▸ Jo) O_alike_on hr tx.C_alike_on ?_
 exact za (zb 1 (pv 1)) (za (zb 4 (pv 4)) (za (zb 3 (pv 3)) zi))
 exact Snd.b (jA zE (zq hr.units) (zp 6 (pv 6)) (zp 7 (pv 7)) (zl _))
 exact zn (zt QL)
 exact zM
 refine zk ?_ ?_
 refine z0P (i:=8) (j:=9) (k:=10) (by rfl) uV.nd (by rfl) (by rfl) (by rfl) (by decide) (by decide) (by decide) (by rfl) (by rfl) (by rfl) ?_ (by rfl)
 refine za ?_ ?_
 refine jN ?_
 exact za zF (za (zb 3 (pv 3)) (za (zb 4 (pv 4)) zi))
 refine za ?_ ?_
 refine jN ?_
 exact za zF (za (zb 3 (pv 3)) (za (zb 4 (pv 4)) zi))
 refine za ?_ ?_
 exact jN (za zF (za (zb 3 (pv 3)) zi))
 exact zi
 refine zk ?_ ?_
 refine zN ?_ ?_ ?_
 refine zB YK (uE hr.units) ?_ ?_ (zl _)
 refine Snd.b ?_
 refine wk ?_
 refine za ?_ ?_
 refine cX hy (hE ▸ Jo) O_implies hr tx.C_implies ?_
 exact za (zb 1 (pv 1)) (za (zb 3 (pv 3)) (za (zb 8 (pv 8)) zi))
 refine za ?_ ?_
 refine cX hy (hE ▸ Jo) O_implies hr tx.C_implies ?_
 exact za (zb 1 (pv 1)) (za (zb 9 (pv 9)) (za (zb 4 (pv 4)) zi))
 refine za ?_ ?_
 refine cX hy (hE ▸ Jo) O_implies hr tx.C_implies ?_
 exact za (zb 1 (pv 1)) (za (zb 3 (pv 3)) (za (zb 3 (pv 3)) zi))
 exact zi
 exact Snd.b (Jq (wk (za QL zi)) zd)
 exact zn (zt QL)
 exact zM
 refine zk ?_ ?_
 refine zN ?_ ?_ ?_
 refine yb.t ?_
 refine Vq ?_ ?_
 refine yb.t ?_
 refine z0m ?_ ?_
 exact zB zE (zq hr.units) (zp 2 (pv 2)) (Snd.b zd) (zl _)
 refine Ke ?_
 refine zB z0l gy ?_ ?_ (zl _)
 refine Snd.b ?_
 refine cX hy (hE ▸ Jo) O_alike_on hr tx.C_alike_on ?_
 refine za ?_ ?_
 exact zb 1 (pv 1)
 refine za ?_ ?_
 exact jN (za zF (za (zb 10 (pv 10)) zi))
 exact za (zb 3 (pv 3)) zi
 exact Snd.b QL
 refine ye ?_
 refine zB YK (uE hr.units) ?_ ?_ (zl _)
 refine Snd.b ?_
 refine cX hy (hE ▸ Jo) O_implies hr tx.C_implies ?_
 exact za (zb 1 (pv 1)) (za (zb 3 (pv 3)) (za (zb 10 (pv 10)) zi))
 exact Snd.b (jA zE (zq hr.units) (zp 6 (pv 6)) (Snd.b (wk zi)) (zl _))
 exact zn (zt QL)
 exact zM
 refine zk ?_ ?_
 refine zN ?_ ?_ ?_
 refine zB YK (uE hr.units) ?_ ?_ (zl _)
 refine Snd.b ?_
 refine cX hy (hE ▸ Jo) O_implies hr tx.C_implies ?_
 refine za ?_ ?_
 exact zb 1 (pv 1)
 refine za ?_ ?_
 exact jN (za zF (za (zb 4 (pv 4)) zi))
 exact za (zb 10 (pv 10)) zi
 refine Snd.b ?_
 refine cX hy (hE ▸ Jo) O_implies hr tx.C_implies ?_
 exact za (zb 1 (pv 1)) (za (zb 3 (pv 3)) (za (zb 4 (pv 4)) zi))
 exact zn (zt QL)
 exact zM
 refine zk ?_ ?_
 refine zN ?_ ?_ ?_
 refine zB YK (uE hr.units) ?_ ?_ (zl _)
 refine Snd.b ?_
 refine cX hy (hE ▸ Jo) O_implies hr tx.C_implies ?_
 exact za (zb 1 (pv 1)) (za (zb 8 (pv 8)) (za (zb 3 (pv 3)) zi))
 refine Snd.b ?_
 refine cX hy (hE ▸ Jo) O_implies hr tx.C_implies ?_
 exact za (zb 1 (pv 1)) (za (zb 4 (pv 4)) (za (zb 3 (pv 3)) zi))
 exact zn (zt QL)
 exact zM
 refine zn ?_
 refine zt ?_
 refine jA zE (zq hr.units) ?_ ?_ (zl _)
 refine Snd.b ?_
 refine cX hy (hE ▸ Jo) O_alike_on hr tx.C_alike_on ?_
 exact za (zb 1 (pv 1)) (za (zb 9 (pv 9)) (za (zb 3 (pv 3)) zi))
 refine Snd.b ?_
 refine cX hy (hE ▸ Jo) O_implies hr tx.C_implies ?_
 exact za (zb 1 (pv 1)) (za (zb 3 (pv 3)) (za (zb 4 (pv 4)) zi))
end
end G
namespace G
open PySem PySem.Spec PyProof.Rows L2 PV
theorem jX {P:Program} {w:World} {K:PySem.W.Frag} {mg:Str->Option Value} {base:Heap} {CX:CXT} {cl:Nat->Value} {k n:Nat} {f:Addr} {fd:FuncData} {ps:List Str} (hn:n=ps.length):j2 P w K mg base CX k f fd ps (spP cl n (fun _=> .bad)):=
 ⟨fun vs H Q E h=>by rw [← hn]; exact spP.len vs H Q E h,fun A outer s H args us vs Q E _ _ _ _ ⟨B,ts,_,_,_,q⟩=>q.elim⟩
section
variable {P:Program} {w:World} {K:PySem.W.Frag} {mg:Str->Option Value} {base:Heap} {cl:Nat->Value} {tx:Tx K mg}
theorem z1m (xq:Tq K mg base cl):GE P w base cl tx 44 Y2:=by
 have O__law_cell:WD P w base cl tx 1 Jr:=qL
 have O__law_pick:jb P w base cl tx 2 zo:=qM O__law_cell
 have O__law_word_of:JY P w base cl tx 3 ZF:=y8 O__law_pick
 have O__law_leaf_kind:J8 P w base cl tx 4 Zy:=uz O__law_pick O__law_word_of
 have R__law_kind:∀ n:Nat,Ju P w base cl tx (4+n) (Zs n 0):=by
  intro n
  induction n with
  | zero=>exact jX rfl
  | succ n ih=>
   exact qN (j:=4+n) (by omega) O__law_pick O__law_leaf_kind ih
 have O__law_kind:Ju P w base cl tx 12 (Zt 8):=(R__law_kind 8)
 have O__law_rows_of:JZ P w base cl tx 1 zh:=y9
 have R__law_all:∀ n:Nat,Jk P w base cl tx (1+n) (Ji n 0):=by
  intro n
  induction n with
  | zero=>exact jX rfl
  | succ n ih=>
   exact Qx (j:=1+n) (by omega) ih O__law_rows_of
 have O__law_all:Jk P w base cl tx 9 (zJ 8):=(R__law_all 8)
 have R__law_size:∀ n:Nat,Jv P w base cl tx (9+n) (j3 n 0):=by
  intro n
  induction n with
  | zero=>exact jX rfl
  | succ n ih=>
   exact qO (j:=9+n) (by omega) O__law_all ih
 have O__law_size:Jv P w base cl tx 17 (j4 8):=(R__law_size 8)
 have O__law_small:W6 P w base cl tx 18 jd:=Yl O__law_kind O__law_size
 have R__law_rule:∀ n:Nat,Jw P w base cl tx (2+n) (ZO n 0):=by
  intro n
  induction n with
  | zero=>exact jX rfl
  | succ n ih=>
   exact qP (j:=2+n) (by omega) O__law_pick ih
 have O__law_rule:Jw P w base cl tx 10 (j5 8):=(R__law_rule 8)
 have O_is_whole:Jl P w base cl tx 1 Zj:=Qy
 have O_is_bound:uw P w base cl tx 2 Wf:=Qz O_is_whole
 have O_is_word:ub P w base cl tx 1 jQ:=Vh
 have R_is_rule_within:∀ n:Nat,ZB P w base cl tx (2+n) (Zz n 0):=by
  intro n
  induction n with
  | zero=>exact jX rfl
  | succ n ih=>
   exact uA (j:=2+n) (by omega) O_is_word ih O_is_bound
 have O_is_rule_within:ZB P w base cl tx 10 (J0 8):=(R_is_rule_within 8)
 have O_is_rule:y0 P w base cl tx 11 WP:=Vi O_is_rule_within
 have O_need_rule:wy P w base cl tx 12 j6:=qQ xq O_is_rule
 have O_need_rules:JS P w base cl tx 13 Zn:=Ym xq O_need_rule
 have O_are_unlike:W7 P w base cl tx 1 JH:=Yn
 have O_are_rising:W8 P w base cl tx 1 JJ:=Yo
 have O_parts_of:ux P w base cl tx 1 Wg:=QA
 have R_leaves_of:∀ n:Nat,jH P w base cl tx (0+n) (j7 n 0):=by
  intro n
  induction n with
  | zero=>exact jX rfl
  | succ n ih=>
   exact qR (j:=0+n) (by omega) ih
 have O_leaves_of:jH P w base cl tx 8 (j8 8):=(R_leaves_of 8)
 have O_numbers_in:W9 P w base cl tx 9 JL:=Yp O_is_whole O_leaves_of
 have O_is_single_kept:J9 P w base cl tx 10 ZA:=uB O_parts_of O_leaves_of O_numbers_in O_are_rising O_are_unlike
 have R_is_kept:∀ n:Nat,wf P w base cl tx (10+n) (ZX n 0):=by
  intro n
  induction n with
  | zero=>exact jX rfl
  | succ n ih=>
   exact Vj (j:=10+n) (by omega) ih O_is_single_kept
 have O_is_kept:wf P w base cl tx 18 (jR 8):=(R_is_kept 8)
 have O_is_span:y3 P w base cl tx 2 WR:=Vk O_is_whole
 have O_is_tuple_of:jy P w base cl tx 1 zQ:=yk
 have O_is_choice:WF P w base cl tx 2 j9:=qS O_is_whole O_is_tuple_of O_is_word
 have O_are_choices:wz P w base cl tx 3 jr:=yl O_is_tuple_of O_is_choice
 have R_is_kind_within:∀ n:Nat,Zc P w base cl tx (3+n) (zm n 0)/\ZM P w base cl tx (3+n) (zm n 1):=by
  intro n
  induction n with
  | zero=>exact ⟨jX rfl,jX rfl⟩
  | succ n ih=>
   exact ⟨uC (j:=3+n) (by omega) O_is_span ih.1 O_are_choices ih.2,WH (j:=3+n) (by omega) O_is_tuple_of ih.1⟩
 have O_is_kind_within:Zc P w base cl tx 23 (J4 20):=(R_is_kind_within 20).1
 have O_are_kinds_within:ZM P w base cl tx 23 (WT 20):=(R_is_kind_within 20).2
 have O_is_kind:y6 P w base cl tx 24 wc:=Vl O_is_kind_within
 have O_need_kind:WG P w base cl tx 25 jE:=qT xq O_is_kind
 have R_count_of:∀ n:Nat,Jm P w base cl tx (0+n) (zz n 0)/\ZC P w base cl tx (0+n) (zz n 1)/\ZS P w base cl tx (0+n) (zz n 2):=by
  intro n
  induction n with
  | zero=>exact ⟨jX rfl,jX rfl,jX rfl⟩
  | succ n ih=>
   exact ⟨QB (j:=0+n) (by omega) ih.2.1 ih.2.2,uD (j:=0+n) (by omega) ih.1,U9 (j:=0+n) (by omega) ih.2.1⟩
 have O_count_of:Jm P w base cl tx 20 (je 20):=(R_count_of 20).1
 have O_count_of_parts:ZC P w base cl tx 20 (U1 20):=(R_count_of 20).2.1
 have O_count_shorter:ZS P w base cl tx 20 (Z0 20):=(R_count_of 20).2.2
 have O_words_of_pick:Jx P w base cl tx 1 ZP:=Ua
 have R_worth_at:∀ n:Nat,wg P w base cl tx (20+n) (zA n 0)/\uc P w base cl tx (20+n) (zA n 1)/\wj P w base cl tx (20+n) (zA n 2):=by
  intro n
  induction n with
  | zero=>exact ⟨jX rfl,jX rfl,jX rfl⟩
  | succ n ih=>
   exact ⟨QC (j:=20+n) (by omega) O_words_of_pick ih.2.1 ih.2.2,Vm (j:=20+n) (by omega) O_count_shorter ih.2.2,QD (j:=20+n) (by omega) O_count_of ih.1⟩
 have O_worth_at:wg P w base cl tx 40 (Jj 20):=(R_worth_at 20).1
 have O_many_at:uc P w base cl tx 40 (xD 20):=(R_worth_at 20).2.1
 have O_parts_at:wj P w base cl tx 40 (vP 20):=(R_worth_at 20).2.2
 have O_all_worths:Wa P w base cl tx 41 JN:=Yq xq O_need_kind O_count_of O_worth_at
 have O_keepers:ud P w base cl tx 42 we:=Vn O_all_worths O_need_rule O_is_kept
 have O_implies:y7 P w base cl tx 43 Zd:=Vo O_is_kept O_keepers O_need_rules
 have O_alike_on:uy P w base cl tx 43 jf:=QE O_keepers O_need_rules
 have R__law_leaves:∀ n:Nat,jz P w base cl tx (0+n) (Zu n 0):=by
  intro n
  induction n with
  | zero=>exact jX rfl
  | succ n ih=>
   exact ym (j:=0+n) (by omega) ih
 have O__law_leaves:jz P w base cl tx 8 (ju 8):=(R__law_leaves 8)
 have R__law_keeps:∀ n:Nat,jW P w base cl tx (8+n) (zx n 0):=by
  intro n
  induction n with
  | zero=>exact jX rfl
  | succ n ih=>
   exact Yr (j:=8+n) (by omega) O__law_leaves ih
 have O__law_keeps:jW P w base cl tx 16 (Zo 8):=(R__law_keeps 8)
 have O_law:GE P w base cl tx 44 Y2:=z1l O__law_pick O__law_all O__law_small O__law_rule O__law_keeps O_implies O_alike_on
 exact O_law
end
noncomputable def KG:List Str:=["NoKind","NoWorth","NoRule","TooMany","Ended","NoText","NoBack"]
noncomputable def clK (K:PySem.W.Frag) (c:Nat):Value:=match PySem.W.nsIn K mainGlobals (KG.getD c "") with
 | some (some v)=>v
 | _=> .none
theorem XG {K:PySem.W.Frag} {c:Nat} {x:Str} {q:Addr} (hx:KG.getD c ""=x) (h:PySem.W.nsIn K mainGlobals x=some (some (.ref q))):clK K c= .ref q:=by unfold clK; rw [hx,h]
theorem XH {K:PySem.W.Frag} {base:Heap} {mg:Str->Option Value} {x:Str} {C:Addr} {bmB:List Value} {newId:String} (KB:K.In base) (hb:mg x=some (.ref C)) (h:PySem.W.excIn K C bmB newId=true):OwnCls x C bmB newId mg base:=by
 unfold PySem.W.excIn at h
 split at h
 ·rename_i dd cd sl hC
  split at h
  ·rename_i C1 bm a0 a1 a2 a3 m a5 hm hs
   simp only [Bool.and_eq_true,beq_iff_eq,Bool.not_eq_true'] at h
   obtain ⟨⟨⟨⟨⟨h1,h2⟩,h3⟩,h4⟩,h5⟩,h6⟩:=h
   subst h1 h2
   cases cd with
   | mk nm bs mro ns qn hd sn sub ab col del=>
    dsimp only at hm h3 h5 h6
    subst hm h3
    obtain rfl:sl= #[a0,a1,a2,a3,some (.builtin m),a5]:=by
     cases sl; simp only at hs; rw [hs]
    exact ⟨hb,bm,ns,nm,qn,bs,hd,sn,sub,ab,col,dd,a0,a1,a2,a3,a5,_,KB _ _ hC, .of_isNs (PySem.W.isNs_of_in KB h5),PySem.W.nsMap_none_of_in KB h5 h6,PySem.W.tail_of_in KB h4⟩
  ·cases h
 ·cases h
theorem fn1 {K:PySem.W.Frag} {h:Heap} {mg:Str->Option Value} {f:Addr} {od an:Option Addr} {sl:Array (Option Value)} {oc kV dc pm cd ct:Value} {x:Str} {st:Stmt} {ps:List Str} (X:K.In h) (G:h.Ns mainGlobals mg) (e:PySem.W.nsIn K mainGlobals x=some (some (.ref f))) (l:K.lookup f=some ⟨oc,od, .func (PySem.W.fnOf x x (wK st) (jY st) (ze st) .none kV dc pm an cd ct),sl⟩) (g:PySem.W.codeIn K cd x=true) (k:PySem.W.keepIn K (.ref f)=true)
  (hb:∀ F:Fun K x x st f (PySem.W.fnOf x x (wK st) (jY st) (ze st) .none kV dc pm an cd ct),L2.Binds K (PySem.W.fnOf x x (wK st) (jY st) (ze st) .none kV dc pm an cd ct) ps []):Fn K mg x st ps f (PySem.W.fnOf x x (wK st) (jY st) (ze st) .none kV dc pm an cd ct):=
 have F:=z0h (st:=st) l g k
 ⟨F,hb F,PySem.W.mg_of X G e⟩
theorem fin_ {l:PySem.W.OpenLaw} {w:World} {K:PySem.W.Frag} {h:Heap} {mg:Str->Option Value} {fa:Addr} (X:K.In h) (G:h.Ns mainGlobals mg) (hfa:mg "law"=some (.ref fa)) (tx:Tx K mg) (hB:∀ (s:Shared) (v:Value),BindsTo s tx.d_law ⟨[v],[]⟩ [("_law_script",v)]) {q_NoKind q_NoRule q_TooMany:Addr} (n_NoKind:PySem.W.nsIn K mainGlobals "NoKind"=some (some (.ref q_NoKind))) (n_NoRule:PySem.W.nsIn K mainGlobals "NoRule"=some (some (.ref q_NoRule))) (n_TooMany:PySem.W.nsIn K mainGlobals "TooMany"=some (some (.ref q_TooMany))) (b_o_NoKind:PySem.W.excIn K q_NoKind GJ "ValueError.__new__"=true) (b_o_NoRule:PySem.W.excIn K q_NoRule GJ "ValueError.__new__"=true) (b_o_TooMany:PySem.W.excIn K q_TooMany GJ "ValueError.__new__"=true):∃ fd:FuncData,(∀ (s:Shared) (v:Value),BindsTo s fd ⟨[v],[]⟩ [("_law_script",v)])/\∀ base:Heap,K.In base->base.Ns mainGlobals mg->j2 l.prog w K mg base (CX1 l.prog w) 44 fa fd ["_law_script"] (spP (clK K) 1 Y2):=by
 have e:=hfa.symm.trans tx.C_law.m
 cases e
 exact ⟨tx.d_law,hB,fun base KB _=>z1m ⟨q_NoKind,q_NoRule,q_TooMany,(XG (x:="NoKind") rfl n_NoKind),(XG (x:="NoRule") rfl n_NoRule),(XG (x:="TooMany") rfl n_TooMany),(XH KB (PySem.W.mg_of X G n_NoKind) b_o_NoKind),(XH KB (PySem.W.mg_of X G n_NoRule) b_o_NoRule),(XH KB (PySem.W.mg_of X G n_TooMany) b_o_TooMany)⟩⟩
noncomputable def QF (K:PySem.W.Frag):Bool:=K.all fun p=> !(p.2.cls == Value.type "list")
theorem GF {K:PySem.W.Frag} (h:QF K=true) {a:Addr} {o:Obj} (e:K.lookup a=some o) (c:o.cls=Value.type "list"):False:=by
 have hm:(a,o)∈K:=by
  clear h
  induction K with
  | nil=>cases e
  | cons p r ih=>
   obtain ⟨b,u⟩:=p
   by_cases hb:a=b
   ·subst hb
    have e' :some u=some o:=by simpa [List.lookup_cons] using e
    cases e'; exact List.mem_cons_self
   ·have e' :r.lookup a=some o:=by rw [List.lookup_cons,(beq_eq_false_iff_ne.mpr hb)] at e; exact e
    exact List.mem_cons_of_mem _ (ih e')
 have:=List.all_eq_true.mp h _ hm
 rw [c] at this
 simp at this
theorem z1n {cl:Nat->Value} {K:PySem.W.Frag} {H:Hp} {a:Addr} {ns:List Int} (hL:Y2 [.fz (ns.map T.int)]= .ok (.bl true)) (hK:QF K=true) (hO:z1q H) (hS:SqL K H a (ns.map V.int)):spP cl 1 Y2 [.ref a] H (fun v _=>v= .bl true) fun _ _ _=>False:=by
 have scrR:∀ ns:List Int,Z2 H (ns.map V.int) (ns.map T.int):=fun ns=>by
  induction ns with
  | nil=>exact .nil
  | cons n r ih=>exact .cons (.int n) ih
 rcases hS with (h | ⟨o,h⟩) | ⟨o,its,n,e,c,_⟩
 ·rcases hO a with z | ⟨ob,xs,z⟩ <;> (rw [h] at z; cases z)
 ·refine ⟨H,[.fz (ns.map T.int)],rfl,zT.refl H, .cons (.fz h (scrR ns)) .nil, ?_⟩
  rw [hL]
  intro v H' _ r
  cases r; rfl
 ·exact (GF hK e c).elim
theorem walk {l:PySem.W.OpenLaw} {q:Program} {loose:List Str} {XP:(Str->Option Value)->Heap->Prop} {YP:World->Heap->Prop} {d:DefRec} {K:Params->PySem.W.Frag} (hn:l.most=some 63) (hdf:d.params.defaults=[])
  (hL:∀ ns:List Int,ns.length<=63->Y2 [.fz (ns.map T.int)]= .ok (.bl true)) (hK:∀ p,QF (K p)=true)
  (hY:∀ (w:World) (h:Heap),YP w h->(K w.params).In h)
  (F:∀ (w:World) (mg:Str->Option Value) (fa:Addr) (h:Heap),(K w.params).In h->h.Ns mainGlobals mg->mg d.name=some (.ref fa)->
   ∃ fd:FuncData,(∀ (s:Shared) (u:Value),BindsTo s fd ⟨[u],[]⟩ [("_law_script",u)])/\∀ base:Heap,(K w.params).In base->base.Ns mainGlobals mg->j2 l.prog w (K w.params) mg base (CX1 l.prog w) 44 fa fd ["_law_script"] (spP (clK (K w.params)) 1 Y2)):
  PySem.W.WalkO q loose XP YP l.row.toRowW d [] (fun f vs=>PySem.call f vs):=
 L2.walk_of (n:=63) (k:=44) (x:="_law_script") (CX:=fun w=>(CX1 l.prog w)) (sp:=fun w=>spP (clK (K w.params)) 1 Y2) hn (by decide) hdf ⟨rfl,by decide,by decide⟩ hY F (fun w H a ns hl hO hS=>z1n (hL ns hl) (hK w.params) hO hS) fun _ _ _ _ _ ⟨_,_,_,_,_,_,_,z⟩=>z
end G
noncomputable def PySem.W.Fast.tw14595891303053072139 : Nat := 0
noncomputable def PySem.W.Fast.tw12835422401189903197 : Nat := 0
noncomputable def PySem.W.Fast.tw11870517731290154336 : Nat := 0
noncomputable def PySem.W.Fast.tw6823762724483557118 : Nat := 0
noncomputable def PySem.W.Fast.tw12754444701697534840 : Nat := 0
noncomputable def PySem.W.Fast.tw3698835511341664742 : Nat := 0
noncomputable def PySem.W.Fast.tw12954548462836143669 : Nat := 0
noncomputable def PySem.W.Fast.tw17132738630724098734 : Nat := 0
noncomputable def PySem.W.Fast.tw9573123676684625300 : Nat := 0
noncomputable def PySem.W.Fast.tw17789275650695171425 : Nat := 0
noncomputable def PySem.W.Fast.tw5427176425561533469 : Nat := 0
noncomputable def PySem.W.Fast.tw3004034402694950560 : Nat := 0
noncomputable def PySem.W.Fast.tw7355703064616877577 : Nat := 0
noncomputable def PySem.W.Fast.tw1838674082629104260 : Nat := 0
noncomputable def PySem.W.Fast.tw10259927367126922102 : Nat := 0
noncomputable def PySem.W.Fast.tw4722431756331811676 : Nat := 0
open PySem PySem.W PyProof.Rows
set_option maxRecDepth 100000 in
set_option maxHeartbeats 0 in
theorem PySem.Challenge.cw_worthkinds_k42_whole_implied_holds : PySem.Challenge.rw_worthkinds_k42_whole_implied.Holds := by
 w_on; o_law; k_head; (case hw=>w_witness2)
 k_fill
 refine G.walk (l:=PySem.Challenge.rw_worthkinds_k42_whole_implied) rfl rfl G.law_ok ?nl (fun w h Y=>PySem.W.kIn_of Y) ?F
 case nl=>intro p; kernel_rfl
 case F=>
  intro w mg fa h KX G0 hmg
  obtain ⟨a0,d0,C0⟩:∃ a d,G.Fn _ mg "_law_cell" G.UO ["_law_script","_law_k"] a d:=by
   refine' ⟨_,_,G.fn1 KX G0 ?e ?l ?g ?k (fun F=>F.binds (ps:=["_law_script","_law_k"]) fun _ _ _ _ _ _ us hl=>match us,hl with | [_,_],_=>rfl)⟩
   (case e=>k_is)
   (case l=>k_is)
   (case g=>k_is)
   (case k=>k_is)
  obtain ⟨a1,d1,C1⟩:∃ a d,G.Fn _ mg "_law_pick" G.UP ["_law_script","_law_k","_law_many"] a d:=by
   refine' ⟨_,_,G.fn1 KX G0 ?e ?l ?g ?k (fun F=>F.binds (ps:=["_law_script","_law_k","_law_many"]) fun _ _ _ _ _ _ us hl=>match us,hl with | [_,_,_],_=>rfl)⟩
   (case e=>k_is)
   (case l=>k_is)
   (case g=>k_is)
   (case k=>k_is)
  obtain ⟨a2,d2,C2⟩:∃ a d,G.Fn _ mg "_law_word_of" G.JW ["_law_script","_law_at"] a d:=by
   refine' ⟨_,_,G.fn1 KX G0 ?e ?l ?g ?k (fun F=>F.binds (ps:=["_law_script","_law_at"]) fun _ _ _ _ _ _ us hl=>match us,hl with | [_,_],_=>rfl)⟩
   (case e=>k_is)
   (case l=>k_is)
   (case g=>k_is)
   (case k=>k_is)
  obtain ⟨a3,d3,C3⟩:∃ a d,G.Fn _ mg "_law_leaf_kind" G.J7 ["_law_script","_law_at"] a d:=by
   refine' ⟨_,_,G.fn1 KX G0 ?e ?l ?g ?k (fun F=>F.binds (ps:=["_law_script","_law_at"]) fun _ _ _ _ _ _ us hl=>match us,hl with | [_,_],_=>rfl)⟩
   (case e=>k_is)
   (case l=>k_is)
   (case g=>k_is)
   (case k=>k_is)
  obtain ⟨a4,d4,C4⟩:∃ a d,G.Fn _ mg "_law_kind" G.Wz ["_law_script","_law_at","_law_deep"] a d:=by
   refine' ⟨_,_,G.fn1 KX G0 ?e ?l ?g ?k (fun F=>F.binds (ps:=["_law_script","_law_at","_law_deep"]) fun _ _ _ _ _ _ us hl=>match us,hl with | [_,_,_],_=>rfl)⟩
   (case e=>k_is)
   (case l=>k_is)
   (case g=>k_is)
   (case k=>k_is)
  obtain ⟨a5,d5,C5⟩:∃ a d,G.Fn _ mg "_law_rows_of" G.JX ["_law_lists"] a d:=by
   refine' ⟨_,_,G.fn1 KX G0 ?e ?l ?g ?k (fun F=>F.binds (ps:=["_law_lists"]) fun _ _ _ _ _ _ us hl=>match us,hl with | [_],_=>rfl)⟩
   (case e=>k_is)
   (case l=>k_is)
   (case g=>k_is)
   (case k=>k_is)
  obtain ⟨a6,d6,C6⟩:∃ a d,G.Fn _ mg "_law_all" G.Wm ["_law_kind_here"] a d:=by
   refine' ⟨_,_,G.fn1 KX G0 ?e ?l ?g ?k (fun F=>F.binds (ps:=["_law_kind_here"]) fun _ _ _ _ _ _ us hl=>match us,hl with | [_],_=>rfl)⟩
   (case e=>k_is)
   (case l=>k_is)
   (case g=>k_is)
   (case k=>k_is)
  obtain ⟨a7,d7,C7⟩:∃ a d,G.Fn _ mg "_law_size" G.WB ["_law_kind_here"] a d:=by
   refine' ⟨_,_,G.fn1 KX G0 ?e ?l ?g ?k (fun F=>F.binds (ps:=["_law_kind_here"]) fun _ _ _ _ _ _ us hl=>match us,hl with | [_],_=>rfl)⟩
   (case e=>k_is)
   (case l=>k_is)
   (case g=>k_is)
   (case k=>k_is)
  obtain ⟨a8,d8,C8⟩:∃ a d,G.Fn _ mg "_law_small" G.uP ["_law_script","_law_at","_law_most"] a d:=by
   refine' ⟨_,_,G.fn1 KX G0 ?e ?l ?g ?k (fun F=>F.binds (ps:=["_law_script","_law_at","_law_most"]) fun _ _ _ _ _ _ us hl=>match us,hl with | [_,_,_],_=>rfl)⟩
   (case e=>k_is)
   (case l=>k_is)
   (case g=>k_is)
   (case k=>k_is)
  obtain ⟨a9,d9,C9⟩:∃ a d,G.Fn _ mg "_law_rule" G.US ["_law_script","_law_at","_law_deep"] a d:=by
   refine' ⟨_,_,G.fn1 KX G0 ?e ?l ?g ?k (fun F=>F.binds (ps:=["_law_script","_law_at","_law_deep"]) fun _ _ _ _ _ _ us hl=>match us,hl with | [_,_,_],_=>rfl)⟩
   (case e=>k_is)
   (case l=>k_is)
   (case g=>k_is)
   (case k=>k_is)
  obtain ⟨a10,d10,C10⟩:∃ a d,G.Fn _ mg "is_whole" G.yH ["thing"] a d:=by
   refine' ⟨_,_,G.fn1 KX G0 ?e ?l ?g ?k (fun F=>F.binds (ps:=["thing"]) fun _ _ _ _ _ _ us hl=>match us,hl with | [_],_=>rfl)⟩
   (case e=>k_is)
   (case l=>k_is)
   (case g=>k_is)
   (case k=>k_is)
  obtain ⟨a11,d11,C11⟩:∃ a d,G.Fn _ mg "is_bound" G.yI ["thing"] a d:=by
   refine' ⟨_,_,G.fn1 KX G0 ?e ?l ?g ?k (fun F=>F.binds (ps:=["thing"]) fun _ _ _ _ _ _ us hl=>match us,hl with | [_],_=>rfl)⟩
   (case e=>k_is)
   (case l=>k_is)
   (case g=>k_is)
   (case k=>k_is)
  obtain ⟨a12,d12,C12⟩:∃ a d,G.Fn _ mg "is_word" G.UT ["thing"] a d:=by
   refine' ⟨_,_,G.fn1 KX G0 ?e ?l ?g ?k (fun F=>F.binds (ps:=["thing"]) fun _ _ _ _ _ _ us hl=>match us,hl with | [_],_=>rfl)⟩
   (case e=>k_is)
   (case l=>k_is)
   (case g=>k_is)
   (case k=>k_is)
  obtain ⟨a13,d13,C13⟩:∃ a d,G.Fn _ mg "is_rule_within" G.wC ["thing","levels"] a d:=by
   refine' ⟨_,_,G.fn1 KX G0 ?e ?l ?g ?k (fun F=>F.binds (ps:=["thing","levels"]) fun _ _ _ _ _ _ us hl=>match us,hl with | [_,_],_=>rfl)⟩
   (case e=>k_is)
   (case l=>k_is)
   (case g=>k_is)
   (case k=>k_is)
  obtain ⟨a14,d14,C14⟩:∃ a d,G.Fn _ mg "is_rule" G.qA ["thing"] a d:=by
   refine' ⟨_,_,G.fn1 KX G0 ?e ?l ?g ?k (fun F=>F.binds (ps:=["thing"]) fun _ _ _ _ _ _ us hl=>match us,hl with | [_],_=>rfl)⟩
   (case e=>k_is)
   (case l=>k_is)
   (case g=>k_is)
   (case k=>k_is)
  obtain ⟨a15,d15,C15⟩:∃ a d,G.Fn _ mg "need_rule" G.UU ["rule"] a d:=by
   refine' ⟨_,_,G.fn1 KX G0 ?e ?l ?g ?k (fun F=>F.binds (ps:=["rule"]) fun _ _ _ _ _ _ us hl=>match us,hl with | [_],_=>rfl)⟩
   (case e=>k_is)
   (case l=>k_is)
   (case g=>k_is)
   (case k=>k_is)
  obtain ⟨a16,d16,C16⟩:∃ a d,G.Fn _ mg "need_rules" G.uQ ["rules"] a d:=by
   refine' ⟨_,_,G.fn1 KX G0 ?e ?l ?g ?k (fun F=>F.binds (ps:=["rules"]) fun _ _ _ _ _ _ us hl=>match us,hl with | [_],_=>rfl)⟩
   (case e=>k_is)
   (case l=>k_is)
   (case g=>k_is)
   (case k=>k_is)
  obtain ⟨a17,d17,C17⟩:∃ a d,G.Fn _ mg "are_unlike" G.wZ ["parts"] a d:=by
   refine' ⟨_,_,G.fn1 KX G0 ?e ?l ?g ?k (fun F=>F.binds (ps:=["parts"]) fun _ _ _ _ _ _ us hl=>match us,hl with | [_],_=>rfl)⟩
   (case e=>k_is)
   (case l=>k_is)
   (case g=>k_is)
   (case k=>k_is)
  obtain ⟨a18,d18,C18⟩:∃ a d,G.Fn _ mg "are_rising" G.W0 ["numbers"] a d:=by
   refine' ⟨_,_,G.fn1 KX G0 ?e ?l ?g ?k (fun F=>F.binds (ps:=["numbers"]) fun _ _ _ _ _ _ us hl=>match us,hl with | [_],_=>rfl)⟩
   (case e=>k_is)
   (case l=>k_is)
   (case g=>k_is)
   (case k=>k_is)
  obtain ⟨a19,d19,C19⟩:∃ a d,G.Fn _ mg "parts_of" G.yJ ["worth"] a d:=by
   refine' ⟨_,_,G.fn1 KX G0 ?e ?l ?g ?k (fun F=>F.binds (ps:=["worth"]) fun _ _ _ _ _ _ us hl=>match us,hl with | [_],_=>rfl)⟩
   (case e=>k_is)
   (case l=>k_is)
   (case g=>k_is)
   (case k=>k_is)
  obtain ⟨a20,d20,C20⟩:∃ a d,G.Fn _ mg "leaves_of" G.UV ["worth"] a d:=by
   refine' ⟨_,_,G.fn1 KX G0 ?e ?l ?g ?k (fun F=>F.binds (ps:=["worth"]) fun _ _ _ _ _ _ us hl=>match us,hl with | [_],_=>rfl)⟩
   (case e=>k_is)
   (case l=>k_is)
   (case g=>k_is)
   (case k=>k_is)
  obtain ⟨a21,d21,C21⟩:∃ a d,G.Fn _ mg "numbers_in" G.W2 ["worth"] a d:=by
   refine' ⟨_,_,G.fn1 KX G0 ?e ?l ?g ?k (fun F=>F.binds (ps:=["worth"]) fun _ _ _ _ _ _ us hl=>match us,hl with | [_],_=>rfl)⟩
   (case e=>k_is)
   (case l=>k_is)
   (case g=>k_is)
   (case k=>k_is)
  obtain ⟨a22,d22,C22⟩:∃ a d,G.Fn _ mg "is_single_kept" G.wD ["rule","worth"] a d:=by
   refine' ⟨_,_,G.fn1 KX G0 ?e ?l ?g ?k (fun F=>F.binds (ps:=["rule","worth"]) fun _ _ _ _ _ _ us hl=>match us,hl with | [_,_],_=>rfl)⟩
   (case e=>k_is)
   (case l=>k_is)
   (case g=>k_is)
   (case k=>k_is)
  obtain ⟨a23,d23,C23⟩:∃ a d,G.Fn _ mg "is_kept" G.qD ["rule","worth"] a d:=by
   refine' ⟨_,_,G.fn1 KX G0 ?e ?l ?g ?k (fun F=>F.binds (ps:=["rule","worth"]) fun _ _ _ _ _ _ us hl=>match us,hl with | [_,_],_=>rfl)⟩
   (case e=>k_is)
   (case l=>k_is)
   (case g=>k_is)
   (case k=>k_is)
  obtain ⟨a24,d24,C24⟩:∃ a d,G.Fn _ mg "is_span" G.qE ["low","high","least","most"] a d:=by
   refine' ⟨_,_,G.fn1 KX G0 ?e ?l ?g ?k (fun F=>F.binds (ps:=["low","high","least","most"]) fun _ _ _ _ _ _ us hl=>match us,hl with | [_,_,_,_],_=>rfl)⟩
   (case e=>k_is)
   (case l=>k_is)
   (case g=>k_is)
   (case k=>k_is)
  obtain ⟨a25,d25,C25⟩:∃ a d,G.Fn _ mg "is_tuple_of" G.u8 ["thing","least","most"] a d:=by
   refine' ⟨_,_,G.fn1 KX G0 ?e ?l ?g ?k (fun F=>F.binds (ps:=["thing","least","most"]) fun _ _ _ _ _ _ us hl=>match us,hl with | [_,_,_],_=>rfl)⟩
   (case e=>k_is)
   (case l=>k_is)
   (case g=>k_is)
   (case k=>k_is)
  obtain ⟨a26,d26,C26⟩:∃ a d,G.Fn _ mg "is_choice" G.UW ["thing"] a d:=by
   refine' ⟨_,_,G.fn1 KX G0 ?e ?l ?g ?k (fun F=>F.binds (ps:=["thing"]) fun _ _ _ _ _ _ us hl=>match us,hl with | [_],_=>rfl)⟩
   (case e=>k_is)
   (case l=>k_is)
   (case g=>k_is)
   (case k=>k_is)
  obtain ⟨a27,d27,C27⟩:∃ a d,G.Fn _ mg "are_choices" G.Jg ["thing"] a d:=by
   refine' ⟨_,_,G.fn1 KX G0 ?e ?l ?g ?k (fun F=>F.binds (ps:=["thing"]) fun _ _ _ _ _ _ us hl=>match us,hl with | [_],_=>rfl)⟩
   (case e=>k_is)
   (case l=>k_is)
   (case g=>k_is)
   (case k=>k_is)
  obtain ⟨a28,d28,C28⟩:∃ a d,G.Fn _ mg "is_kind_within" G.wE ["thing","levels"] a d:=by
   refine' ⟨_,_,G.fn1 KX G0 ?e ?l ?g ?k (fun F=>F.binds (ps:=["thing","levels"]) fun _ _ _ _ _ _ us hl=>match us,hl with | [_,_],_=>rfl)⟩
   (case e=>k_is)
   (case l=>k_is)
   (case g=>k_is)
   (case k=>k_is)
  obtain ⟨a29,d29,C29⟩:∃ a d,G.Fn _ mg "are_kinds_within" G.jx ["thing","levels"] a d:=by
   refine' ⟨_,_,G.fn1 KX G0 ?e ?l ?g ?k (fun F=>F.binds (ps:=["thing","levels"]) fun _ _ _ _ _ _ us hl=>match us,hl with | [_,_],_=>rfl)⟩
   (case e=>k_is)
   (case l=>k_is)
   (case g=>k_is)
   (case k=>k_is)
  obtain ⟨a30,d30,C30⟩:∃ a d,G.Fn _ mg "is_kind" G.qG ["thing"] a d:=by
   refine' ⟨_,_,G.fn1 KX G0 ?e ?l ?g ?k (fun F=>F.binds (ps:=["thing"]) fun _ _ _ _ _ _ us hl=>match us,hl with | [_],_=>rfl)⟩
   (case e=>k_is)
   (case l=>k_is)
   (case g=>k_is)
   (case k=>k_is)
  obtain ⟨a31,d31,C31⟩:∃ a d,G.Fn _ mg "need_kind" G.UX ["kind"] a d:=by
   refine' ⟨_,_,G.fn1 KX G0 ?e ?l ?g ?k (fun F=>F.binds (ps:=["kind"]) fun _ _ _ _ _ _ us hl=>match us,hl with | [_],_=>rfl)⟩
   (case e=>k_is)
   (case l=>k_is)
   (case g=>k_is)
   (case k=>k_is)
  obtain ⟨a32,d32,C32⟩:∃ a d,G.Fn _ mg "count_of" G.yK ["kind"] a d:=by
   refine' ⟨_,_,G.fn1 KX G0 ?e ?l ?g ?k (fun F=>F.binds (ps:=["kind"]) fun _ _ _ _ _ _ us hl=>match us,hl with | [_],_=>rfl)⟩
   (case e=>k_is)
   (case l=>k_is)
   (case g=>k_is)
   (case k=>k_is)
  obtain ⟨a33,d33,C33⟩:∃ a d,G.Fn _ mg "count_of_parts" G.wF ["kinds"] a d:=by
   refine' ⟨_,_,G.fn1 KX G0 ?e ?l ?g ?k (fun F=>F.binds (ps:=["kinds"]) fun _ _ _ _ _ _ us hl=>match us,hl with | [_],_=>rfl)⟩
   (case e=>k_is)
   (case l=>k_is)
   (case g=>k_is)
   (case k=>k_is)
  obtain ⟨a34,d34,C34⟩:∃ a d,G.Fn _ mg "count_shorter" G.Js ["kind","length"] a d:=by
   refine' ⟨_,_,G.fn1 KX G0 ?e ?l ?g ?k (fun F=>F.binds (ps:=["kind","length"]) fun _ _ _ _ _ _ us hl=>match us,hl with | [_,_],_=>rfl)⟩
   (case e=>k_is)
   (case l=>k_is)
   (case g=>k_is)
   (case k=>k_is)
  obtain ⟨a35,d35,C35⟩:∃ a d,G.Fn _ mg "words_of_pick" G.Jt ["kind"] a d:=by
   refine' ⟨_,_,G.fn1 KX G0 ?e ?l ?g ?k (fun F=>F.binds (ps:=["kind"]) fun _ _ _ _ _ _ us hl=>match us,hl with | [_],_=>rfl)⟩
   (case e=>k_is)
   (case l=>k_is)
   (case g=>k_is)
   (case k=>k_is)
  obtain ⟨a36,d36,C36⟩:∃ a d,G.Fn _ mg "worth_at" G.yL ["kind","number"] a d:=by
   refine' ⟨_,_,G.fn1 KX G0 ?e ?l ?g ?k (fun F=>F.binds (ps:=["kind","number"]) fun _ _ _ _ _ _ us hl=>match us,hl with | [_,_],_=>rfl)⟩
   (case e=>k_is)
   (case l=>k_is)
   (case g=>k_is)
   (case k=>k_is)
  obtain ⟨a37,d37,C37⟩:∃ a d,G.Fn _ mg "many_at" G.qI ["kind","number"] a d:=by
   refine' ⟨_,_,G.fn1 KX G0 ?e ?l ?g ?k (fun F=>F.binds (ps:=["kind","number"]) fun _ _ _ _ _ _ us hl=>match us,hl with | [_,_],_=>rfl)⟩
   (case e=>k_is)
   (case l=>k_is)
   (case g=>k_is)
   (case k=>k_is)
  obtain ⟨a38,d38,C38⟩:∃ a d,G.Fn _ mg "parts_at" G.yM ["kinds","number"] a d:=by
   refine' ⟨_,_,G.fn1 KX G0 ?e ?l ?g ?k (fun F=>F.binds (ps:=["kinds","number"]) fun _ _ _ _ _ _ us hl=>match us,hl with | [_,_],_=>rfl)⟩
   (case e=>k_is)
   (case l=>k_is)
   (case g=>k_is)
   (case k=>k_is)
  obtain ⟨a39,d39,C39⟩:∃ a d,G.Fn _ mg "all_worths" G.W5 ["kind"] a d:=by
   refine' ⟨_,_,G.fn1 KX G0 ?e ?l ?g ?k (fun F=>F.binds (ps:=["kind"]) fun _ _ _ _ _ _ us hl=>match us,hl with | [_],_=>rfl)⟩
   (case e=>k_is)
   (case l=>k_is)
   (case g=>k_is)
   (case k=>k_is)
  obtain ⟨a40,d40,C40⟩:∃ a d,G.Fn _ mg "keepers" G.UY ["kind","rule"] a d:=by
   refine' ⟨_,_,G.fn1 KX G0 ?e ?l ?g ?k (fun F=>F.binds (ps:=["kind","rule"]) fun _ _ _ _ _ _ us hl=>match us,hl with | [_,_],_=>rfl)⟩
   (case e=>k_is)
   (case l=>k_is)
   (case g=>k_is)
   (case k=>k_is)
  obtain ⟨a41,d41,C41⟩:∃ a d,G.Fn _ mg "implies" G.UZ ["kind","one","other"] a d:=by
   refine' ⟨_,_,G.fn1 KX G0 ?e ?l ?g ?k (fun F=>F.binds (ps:=["kind","one","other"]) fun _ _ _ _ _ _ us hl=>match us,hl with | [_,_,_],_=>rfl)⟩
   (case e=>k_is)
   (case l=>k_is)
   (case g=>k_is)
   (case k=>k_is)
  obtain ⟨a42,d42,C42⟩:∃ a d,G.Fn _ mg "alike_on" G.yN ["kind","one","other"] a d:=by
   refine' ⟨_,_,G.fn1 KX G0 ?e ?l ?g ?k (fun F=>F.binds (ps:=["kind","one","other"]) fun _ _ _ _ _ _ us hl=>match us,hl with | [_,_,_],_=>rfl)⟩
   (case e=>k_is)
   (case l=>k_is)
   (case g=>k_is)
   (case k=>k_is)
  obtain ⟨a43,d43,C43⟩:∃ a d,G.Fn _ mg "_law_leaves" G.ua ["_law_worth"] a d:=by
   refine' ⟨_,_,G.fn1 KX G0 ?e ?l ?g ?k (fun F=>F.binds (ps:=["_law_worth"]) fun _ _ _ _ _ _ us hl=>match us,hl with | [_],_=>rfl)⟩
   (case e=>k_is)
   (case l=>k_is)
   (case g=>k_is)
   (case k=>k_is)
  obtain ⟨a44,d44,C44⟩:∃ a d,G.Fn _ mg "_law_keeps" G.jj ["_law_rule_here","_law_worth"] a d:=by
   refine' ⟨_,_,G.fn1 KX G0 ?e ?l ?g ?k (fun F=>F.binds (ps:=["_law_rule_here","_law_worth"]) fun _ _ _ _ _ _ us hl=>match us,hl with | [_,_],_=>rfl)⟩
   (case e=>k_is)
   (case l=>k_is)
   (case g=>k_is)
   (case k=>k_is)
  obtain ⟨a45,d45,C45,hB⟩:∃ a d,G.Fn _ mg "law" G.XF ["_law_script"] a d/\∀ (s:PySem.Shared) (v:PySem.Value),BindsTo s d ⟨[v],[]⟩ [("_law_script",v)]:=by
   refine' ⟨_,_,G.fn1 KX G0 ?e ?l ?g ?k (fun F=>F.binds (ps:=["_law_script"]) fun _ _ _ _ _ _ us hl=>match us,hl with | [_],_=>rfl),fun s v=> .of_eq rfl⟩
   (case e=>k_is)
   (case l=>k_is)
   (case g=>k_is)
   (case k=>k_is)
  refine' G.fin_ KX G0 hmg ⟨a0,d0,C0,a1,d1,C1,a2,d2,C2,a3,d3,C3,a4,d4,C4,a5,d5,C5,a6,d6,C6,a7,d7,C7,a8,d8,C8,a9,d9,C9,a10,d10,C10,a11,d11,C11,a12,d12,C12,a13,d13,C13,a14,d14,C14,a15,d15,C15,a16,d16,C16,a17,d17,C17,a18,d18,C18,a19,d19,C19,a20,d20,C20,a21,d21,C21,a22,d22,C22,a23,d23,C23,a24,d24,C24,a25,d25,C25,a26,d26,C26,a27,d27,C27,a28,d28,C28,a29,d29,C29,a30,d30,C30,a31,d31,C31,a32,d32,C32,a33,d33,C33,a34,d34,C34,a35,d35,C35,a36,d36,C36,a37,d37,C37,a38,d38,C38,a39,d39,C39,a40,d40,C40,a41,d41,C41,a42,d42,C42,a43,d43,C43,a44,d44,C44,a45,d45,C45,PySem.W.mg_none_of KX G0 (by k_is),PySem.W.mg_none_of KX G0 (by k_is),PySem.W.mg_none_of KX G0 (by k_is),PySem.W.mg_none_of KX G0 (by k_is),PySem.W.mg_none_of KX G0 (by k_is),PySem.W.mg_none_of KX G0 (by k_is),PySem.W.mg_none_of KX G0 (by k_is),PySem.W.mg_none_of KX G0 (by k_is),PySem.W.mg_none_of KX G0 (by k_is),PySem.W.mg_none_of KX G0 (by k_is),PySem.W.mg_none_of KX G0 (by k_is),PySem.W.mg_none_of KX G0 (by k_is),PySem.W.mg_none_of KX G0 (by k_is),PySem.W.mg_none_of KX G0 (by k_is),PySem.W.mg_none_of KX G0 (by k_is),PySem.W.mg_none_of KX G0 (by k_is),PySem.W.mg_none_of KX G0 (by k_is),⟨_,PySem.W.mg_of KX G0 (by k_is),_,rfl⟩,⟨_,PySem.W.mg_of KX G0 (by k_is),_,rfl⟩,⟨_,PySem.W.mg_of KX G0 (by k_is),_,rfl⟩,⟨_,PySem.W.mg_of KX G0 (by k_is),_,rfl⟩⟩ hB ?n0 ?n1 ?n2 ?b0 ?b1 ?b2
  (case n0=>k_is)
  (case n1=>k_is)
  (case n2=>k_is)
  (case b0=>kernel_rfl)
  (case b1=>kernel_rfl)
  (case b2=>kernel_rfl)
