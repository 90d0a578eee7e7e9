import PyProof.Rows.All
import Wide.All
import OpenK.AllK
import Wide.FinOn
import Lean
import PyProof.EqAt
import PyProof.EqKinds
import PyProof.TupleCall
import PyProof.NeKinds
import PyProof.WalksEnum
import PyProof.StrWalks
import PyProof.ExcAttrAll.ValueError
import PyProof.ZipIter
import KE.KRevIter
import PyProof.ListNew
import PyProof.WalksMore
import PyProof.ReprLoop
import PyProof.FactsAll.list
import PyProof.CollectIter
import PyProof.TupleOfGen
import PyProof.Draws
import PyProof.EnumMake
import PyProof.SeqI3
import PySem.Challenge.RW_worthkinds_k50_whole_lesser
noncomputable section
set_option maxHeartbeats 4000000
set_option Elab.async false
set_option linter.all false
set_option maxRecDepth 100000
namespace L2
open PySem PySem.Spec PyProof.Rows
abbrev Key:=Sum Int Str
def XD:Key->Value->Bool
 | .inl k,v=>Value.isInt k v
 | .inr x,v=>Value.isStrOf x v
def keyH (w:World):Key->Int
 | .inl k=>hashInt k
 | .inr x=>hashStr w x
theorem Zm:∀ {k:Key} {v:Value},XD k v=true->(∃ i t,k=Sum.inl i/\v=Value.int i t)\/(∃ x t,k=Sum.inr x/\v=Value.str x t)
 | .inl i,v,h=>by
  obtain ⟨t,e⟩:=Value.isInt_shape (k:=i) (v:=v) h
  exact .inl ⟨i,t,rfl,e⟩
 | .inr x,v,h=>by
  obtain ⟨t,e⟩:=Value.isStrOf_shape (x:=x) (v:=v) h
  exact .inr ⟨x,t,rfl,e⟩
theorem XE (a b:Int):decide ((Sum.inl a:Key)=Sum.inl b)=(a == b):=by
 by_cases e:a=b
 ·subst e; simp
 ·have h:¬ (Sum.inl a:Key)=Sum.inl b:=fun q=>e (Sum.inl.inj q)
  rw [decide_eq_false h]
  exact (beq_eq_false_iff_ne.mpr e).symm
theorem XF (a b:Str):decide ((Sum.inr a:Key)=Sum.inr b)=decide (a=b):=by
 by_cases e:a=b
 ·subst e; simp
 ·have h:¬ (Sum.inr a:Key)=Sum.inr b:=fun q=>e (Sum.inr.inj q)
  rw [decide_eq_false h,decide_eq_false e]
theorem XG (a:Int) (b:Str):decide ((Sum.inl a:Key)=Sum.inr b)=false:=decide_eq_false (fun q=>nomatch q)
theorem XH (a:Str) (b:Int):decide ((Sum.inr a:Key)=Sum.inl b)=false:=decide_eq_false (fun q=>nomatch q)
def U3 (prog:Program) (w:World):PySem.KeyKind prog w Key where
 is:=XD
 hash:=keyH w
 inj:=fun v a b ha hb=>by
  rcases Zm ha with ⟨i,t,rfl,rfl⟩ | ⟨x,t,rfl,rfl⟩
  ·rcases Zm hb with ⟨j,u,rfl,e⟩ | ⟨y,u,rfl,e⟩
   ·injection e with e1 _; rw [e1]
   ·exact nomatch e
  ·rcases Zm hb with ⟨j,u,rfl,e⟩ | ⟨y,u,rfl,e⟩
   ·exact nomatch e
   ·injection e with e1 _; rw [e1]
 byValue:=fun k v h=>by
  rcases Zm h with ⟨i,t,rfl,rfl⟩ | ⟨x,t,rfl,rfl⟩ <;> rfl
 pyHash:=fun hv h=>by
  rcases Zm hv with ⟨i,t,rfl,rfl⟩ | ⟨x,t,rfl,rfl⟩
  ·exact wpAny_pyHash_int h
  ·exact wpAny_pyHash_str h
 eqBool:=fun hu hv h=>by
  rcases Zm hu with ⟨i,t,rfl,rfl⟩ | ⟨x,t,rfl,rfl⟩
  ·rcases Zm hv with ⟨j,u,rfl,rfl⟩ | ⟨y,u,rfl,rfl⟩
   ·rw [XE] at h; exact wpAny_eqBool_int h
   ·rw [XG] at h; exact SeqAt.EqAt.int_str i t y u _ _ _ _ h
  ·rcases Zm hv with ⟨j,u,rfl,rfl⟩ | ⟨y,u,rfl,rfl⟩
   ·rw [XH] at h; exact SeqAt.EqAt.str_int x t j u _ _ _ _ h
   ·rw [XF] at h; exact wpAny_eqBool_str h
 «strs»:=fun k x t v h=>by
  rcases Zm h with ⟨i,u,rfl,e⟩ | ⟨y,u,rfl,e⟩
  ·exact nomatch e
  ·injection e with e1 _
   subst e1
   cases v <;> rfl
end L2
namespace L2
open PySem PySem.Spec PyProof.Rows
inductive V where
 | non | bl (b:Bool) | int (i:Int) | str (x:Str) | byt (b:Array UInt8) | flt (b:UInt64) | ref (a:Addr) | ty (n:String)
 deriving DecidableEq
def ZL:V->Value->Prop
 | .non,u=>u=Value.none
 | .bl b,u=>u=Value.bool b
 | .int i,u=>∃ t,u=Value.int i t
 | .str x,u=>∃ t,u=Value.str x t
 | .byt b,u=>∃ t,u=Value.bytes b t
 | .flt b,u=>∃ t,u=Value.float b t
 | .ref a,u=>u=Value.ref a
 | .ty n,u=>u=Value.type n
abbrev ZE:List V->List Value->Prop:=Paired ZL
theorem ZE.length {xs:List V} {us:List Value} (r:ZE xs us):xs.length=us.length:=Paired.length r
theorem ZE.get:∀ {xs:List V} {us:List Value} {i:Nat} {x:V},ZE xs us->xs[i]? =some x->∃ u,us[i]? =some u/\ZL x u
 | _,_,_,_, .nil,e=>by simp at e
 | _,_,0,_, .cons r _,e=>by simp at e; subst e; exact ⟨_,rfl,r⟩
 | _,_,i+1,x, .cons _ t,e=>by
  obtain ⟨u,h1,h2⟩:=ZE.get (i:=i) (x:=x) t (by simpa using e)
  exact ⟨u,by simpa using h1,h2⟩
theorem ZE.append:∀ {xs ys:List V} {us ws:List Value},ZE xs us->ZE ys ws->ZE (xs++ys) (us++ws)
 | _,_,_,_, .nil,s=>s
 | _,_,_,_, .cons r t,s=> .cons r (ZE.append t s)
theorem ZE.take:∀ {xs:List V} {us:List Value} (n:Nat),ZE xs us->ZE (xs.take n) (us.take n)
 | _,_,0,_=> .nil
 | _,_,_+1, .nil=> .nil
 | _,_,n+1, .cons r t=> .cons r (ZE.take n t)
theorem ZE.drop:∀ {xs:List V} {us:List Value} (n:Nat),ZE xs us->ZE (xs.drop n) (us.drop n)
 | _,_,0,r=>r
 | _,_,_+1, .nil=> .nil
 | _,_,n+1, .cons _ t=>ZE.drop n t
def gc:Option V->Option Value->Prop
 | some v,some u=>ZL v u
 | none,none=>True
 | _,_=>False
def KV {κ:Type}:List (κ×V)->List (κ×Value)->Prop:=Paired fun (p:κ×V) (q:κ×Value)=>p.1=q.1/\ZL p.2 q.2
def kV:Key->V
 | .inl i=> .int i
 | .inr x=> .str x
inductive HO where
 | lst (xs:List V)
 | tup (xs:List V)
 | dK (kvs:List (Key×V)) | dT (kvs:List (List Key×V))
 | set (S:Int->Bool) (n:Nat)
 | ins (C dx:Addr) (fs:List (Str×V))
 | own (x:Addr)
 | xd (fs:List (Str×V))
 | met (f x:Addr)
 | rng (lo hi:Int)
 | frz (o:Obj) (u:HO)
 | tbl (ps:Array Value)
 | ext (φ:Heap->Prop)
abbrev Hp:=Addr->Option HO
def upd (H:Hp) (a:Addr) (o:HO):Hp:=fun b=>if b=a then some o else H b
theorem Zb {H:Hp} {a:Addr} {o:HO}:upd H a o a=some o:=by unfold upd; rw [if_pos rfl]
theorem zD {H:Hp} {a b:Addr} {o:HO} (h:b ≠ a):upd H a o b=H b:=by unfold upd; rw [if_neg h]
theorem Z4 {H:Hp} {a b:Addr} {o:HO} (h:H a=some o) (h' :H b=none):a ≠ b:=by
 intro e; subst e; rw [h] at h'; cases h'
section
variable (P:Program) (w:World)
def ZH (H:Hp) (h:Heap) (a:Addr):HO->Prop
 | .lst xs=>xs.length<=sizeLine/\∃ (its:List Value) (n:Nat),ZE xs its/\h.get? a=some { cls:= .type "list",data:= .seq its.toArray n }
 | .tup xs=>xs.length<=sizeLine/\∃ its:List Value,ZE xs its/\IsTup h a its.toArray
 | .dK kvs=>kvs.length<=sizeLine/\(a == sysModules)=false/\∃ vs,KV kvs vs/\h.DictOf (U3 P w) a vs
 | .dT kvs=>kvs.length<=sizeLine/\(a == sysModules)=false/\∃ xs:List (List Key×Addr×Value),
   Paired (fun (p:List Key×V) (q:List Key×Addr×Value)=>p.1=q.1/\H q.2.1=some (.tup (p.1.map kV))/\ZL p.2 q.2.2) kvs xs/\
   ∃ o es ep,h.get? a=some o/\o.ExactDict/\o.data= .dict es ep/\es.toList=xs.map (entryOfKey (tupleKind (U3 P w)))/\(xs.map (·.1)).Nodup
 | .set S n=>h.SetOf (intKind P w) a S n
 | .ins C dx fs=>H dx=some (.own a)/\fs.length<=1000/\dx ≠ a/\h.get? a=some (PySem.W.instObj C dx)/\
   ∃ mA,h.Ns1 dx mA/\(∀ f,gc (fs.lookup f) (mA f))/\PySem.Within mA (fs.map (·.1))
 | .own _=>∃ o,h.get? a=some o
 | .xd fs=>∃ mA,h.Ns1 a mA/\∀ f,gc (fs.lookup f) (mA f)
 | .rng lo hi=>∃ t u v,h.get? a=some { cls:= .type "range",data:= .fields #[.int lo t, .int hi u, .int 1 v] }
 | .frz o u=>h.get? a=some o/\ZH H h a u
 | .tbl ps=>h.get? a=some { cls:= .none,data:= .fields ps }
 | .met f x=>h.get? a=some (PySem.W.methodObj (.ref f) (.ref x))
 | .ext φ=>φ h/\(∃ o,h.get? a=some o)/\∀ h1 h2:Heap,φ h1->(∀ o,h1.get? a=some o->h2.get? a=some o)->φ h2
def HOk (H:Hp) (h:Heap):Prop:=∀ a o,H a=some o->ZH P w H h a o
end
section
variable {P:Program} {w:World} {H H' :Hp} {h h' :Heap} {a:Addr} {o:HO}
theorem ZH.lt (x:ZH P w H h a o):a < h.objs.size:=by
 cases o with
 | lst xs=>obtain ⟨_,_,_,_,e⟩:=x; exact Heap.lt_size e
 | tup xs=>obtain ⟨_,_,_,p⟩:=x; exact p.lt
 | dK kvs=>obtain ⟨_,_,_,_,o,_,_,e,_⟩:=x; exact Heap.lt_size e
 | dT kvs=>obtain ⟨_,_,_,_,o,_,_,e,_⟩:=x; exact Heap.lt_size e
 | set S n=>obtain ⟨o,_,_,_,e,_⟩:=x; exact Heap.lt_size e
 | ins C dx fs=>obtain ⟨_,_,_,e,_⟩:=x; exact Heap.lt_size e
 | own y=>obtain ⟨_,e⟩:=x; exact Heap.lt_size e
 | xd fs=>obtain ⟨_,⟨_,_,_,e,_⟩,_⟩:=x; exact Heap.lt_size e
 | rng lo hi=>obtain ⟨_,_,_,e⟩:=x; exact Heap.lt_size e
 | frz ob u=>obtain ⟨e,_⟩:=x; exact Heap.lt_size e
 | tbl ps=>exact Heap.lt_size (show h.get? a=some _ from x)
 | met f y=>exact Heap.lt_size (show h.get? a=some _ from x)
 | ext φ=>obtain ⟨_,⟨_,e⟩,_⟩:=x; exact Heap.lt_size e
theorem Paired.mapP {α β:Type} {F G:α->β->Prop}:∀ {l₁:List α} {l₂:List β},Paired F l₁ l₂->(∀ a b,F a b->G a b)->Paired G l₁ l₂
 | _,_, .nil,_=> .nil
 | _,_, .cons r t,f=> .cons (f _ _ r) (Paired.mapP t f)
theorem ZH.stay (x:ZH P w H h a o) (k:∀ b u,(b=a\/H b=some (.own a))->h.get? b=some u->h'.get? b=some u)
  (ho:∀ b,H b=some (.own a)->H' b=some (.own a)) (ht:∀ b xs,H b=some (.tup xs)->H' b=some (.tup xs)):ZH P w H' h' a o:=by
 induction o with
 | lst xs=>obtain ⟨z,its,n,r,e⟩:=x; exact ⟨z,its,n,r,k _ _ (.inl rfl) e⟩
 | tup xs=>obtain ⟨z,its,r,ob,e,c⟩:=x; exact ⟨z,its,r,ob,k _ _ (.inl rfl) e,c⟩
 | dK kvs=>obtain ⟨z,y,vs,r,ob,es,ep,e,c⟩:=x; exact ⟨z,y,vs,r,ob,es,ep,k _ _ (.inl rfl) e,c⟩
 | dT kvs=>
  obtain ⟨z,y,xs,r,ob,es,ep,e,c⟩:=x
  exact ⟨z,y,xs,Paired.mapP r fun p q z=>⟨z.1,ht _ _ z.2.1,z.2.2⟩,ob,es,ep,k _ _ (.inl rfl) e,c⟩
 | set S n=>obtain ⟨ob,es,ep,t,e,c⟩:=x; exact ⟨ob,es,ep,t,k _ _ (.inl rfl) e,c⟩
 | ins C dx fs=>
  obtain ⟨d,z,ne,e,mA,⟨od,es,ep,e2,c⟩,r⟩:=x
  exact ⟨ho _ d,z,ne,k _ _ (.inl rfl) e,mA,⟨od,es,ep,k _ _ (.inr d) e2,c⟩,r⟩
 | own y=>obtain ⟨ob,e⟩:=x; exact ⟨ob,k _ _ (.inl rfl) e⟩
 | xd fs=>obtain ⟨mA,⟨od,es,ep,e,c⟩,r⟩:=x; exact ⟨mA,⟨od,es,ep,k _ _ (.inl rfl) e,c⟩,r⟩
 | rng lo hi=>obtain ⟨t,u,v,e⟩:=x; exact ⟨t,u,v,k _ _ (.inl rfl) e⟩
 | frz ob u ih=>obtain ⟨e,q⟩:=x; exact ⟨k _ _ (.inl rfl) e,ih q⟩
 | tbl ps=>
  have e:h.get? a=some { cls:= .none,data:= .fields ps }:=x
  show h'.get? a=some { cls:= .none,data:= .fields ps }
  exact k a _ (.inl rfl) e
 | met f y=>
  have e:h.get? a=some (PySem.W.methodObj (.ref f) (.ref y)):=x
  show h'.get? a=some (PySem.W.methodObj (.ref f) (.ref y))
  exact k a _ (.inl rfl) e
 | ext φ=>obtain ⟨p,⟨o,e⟩,st⟩:=x; exact ⟨st _ _ p fun o q=>k _ _ (.inl rfl) q,⟨o,k _ _ (.inl rfl) e⟩,st⟩
theorem HOk.lt (x:HOk P w H h) (e:H a=some o):a < h.objs.size:=(x a o e).lt
theorem HOk.fresh (x:HOk P w H h) (e:h.objs.size<=a):H a=none:=by
 cases q:H a with
 | none=>rfl
 | some u=>exact absurd (Nat.lt_of_lt_of_le (x.lt q) e) (Nat.lt_irrefl _)
theorem HOk.kept (x:HOk P w H h) (k:∀ b u,h.get? b=some u->h'.get? b=some u):HOk P w H h' :=fun a o e=>
 (x a o e).stay (fun b u _ q=>k b u q) (fun _ q=>q) fun _ _ q=>q
theorem HOk.laid (x:HOk P w H h) (k:∀ b u,h.get? b=some u->h'.get? b=some u) (hp:h.objs.size<=a) (new:ZH P w (upd H a o) h' a o):HOk P w (upd H a o) h' :=fun b u e=>by
 have hn:=x.fresh hp
 by_cases hb:b=a
 ·subst hb; rw [Zb] at e; cases e; exact new
 ·rw [zD hb] at e
  exact (x b u e).stay (fun c v _ q=>k c v q) (fun c q=>by rw [zD (Z4 q hn)]; exact q) fun c xs q=>by rw [zD (Z4 q hn)]; exact q
end
def Rd (H:Hp) (a:Addr) (u:HO):Prop:=H a=some u\/∃ o,H a=some (.frz o u)
theorem Rd.ok {P:Program} {w:World} {H:Hp} {h:Heap} {a:Addr} {u:HO} (r:Rd H a u) (x:HOk P w H h):ZH P w H h a u:=by
 rcases r with r | ⟨o,r⟩
 ·exact x a u r
 ·obtain ⟨_,q⟩:=x a _ r
  exact q
def Mut:Option HO->Prop
 | some (.lst _)=>True
 | some (.dK _)=>True
 | some (.dT _)=>True
 | some (.set _ _)=>True
 | some (.ins _ _ _)=>True
 | some (.ext _)=>True
 | _=>False
section
variable {P:Program} {w:World} {H:Hp} {h h' :Heap} {x e:Addr} {o' :HO}
theorem HOk.write (ok:HOk P w H h) (mu:Mut (H x)) (he:e=x\/H e=some (.own x)) (k:∀ b u,b ≠ e->h.get? b=some u->h'.get? b=some u) (heo:∃ u,h'.get? e=some u)
  (new:ZH P w (upd H x o') h' x o'):HOk P w (upd H x o') h' :=fun b u q=>by
 have nown:∀ c y,H c=some (.own y)->c ≠ x:=fun c y r z=>by subst z; rw [r] at mu; exact mu
 have ntup:∀ c xs,H c=some (.tup xs)->c ≠ x:=fun c xs r z=>by subst z; rw [r] at mu; exact mu
 by_cases hb:b=x
 ·subst hb; rw [Zb] at q; cases q; exact new
 ·rw [zD hb] at q
  by_cases hbe:b=e
  ·have q' :H b=some (.own x):=by
    rcases he with z | z
    ·exact absurd (hbe.trans z) hb
    ·rw [hbe]; exact z
   rw [q] at q'; cases q'
   obtain ⟨v,hv⟩:=heo
   exact ⟨v,by rw [hbe]; exact hv⟩
  ·refine (ok b u q).stay (fun c v hc r=>k c v ?_ r) (fun c r=>by rw [zD (nown c b r)]; exact r) fun c xs r=>by rw [zD (ntup c xs r)]; exact r
   rcases hc with rfl | hc
   ·exact hbe
   ·rintro rfl
    rcases he with z | z
    ·exact nown c b hc z
    ·rw [hc] at z; cases z; exact hb rfl
end
structure Un (fs ex:List Addr) (H H' :Hp) (h h' :Heap):Prop where
 keep:∀ b o,h.get? b=some o->H b=none->b ∉ fs->b ∉ ex->h'.get? b=some o
 slot:∀ b o,h.get? b=some o->H b=none->b∈fs->b ∉ ex->∃ sl,h'.get? b=some { o with slots:=sl }
 free:∀ b o,h.get? b=some o->H b=none->b ∉ ex->H' b=none
 there:∀ b o,h.get? b=some o->b ∉ ex->∃ o',h'.get? b=some o'
 tups:∀ b xs,H b=some (.tup xs)->H' b=some (.tup xs)
 frzs:∀ b o u,H b=some (.frz o u)->H' b=some (.frz o u)
 tbls:∀ b ps,H b=some (.tbl ps)->∃ more,H' b=some (.tbl (ps++more))
section
variable {fs fs' ex ex' :List Addr} {H H1 H2:Hp} {h h1 h2 h' :Heap} {a x e:Addr} {o:HO}
theorem Un.any (u:Un fs ex H H1 h h1) {b:Addr} {ob:Obj} (q:h.get? b=some ob) (n:H b=none) (hx:b ∉ ex):∃ sl,h1.get? b=some { ob with slots:=sl }:=by
 by_cases hb:b∈fs
 ·exact u.slot b ob q n hb hx
 ·exact ⟨ob.slots,u.keep b ob q n hb hx⟩
theorem Un.kept (k:∀ b u,h.get? b=some u->h'.get? b=some u):Un fs ex H H h h' :=
 ⟨fun b ob q _ _ _=>k b ob q,fun b ob q _ _ _=>⟨ob.slots,k b ob q⟩,fun _ _ _ n _=>n,fun b ob q _=>⟨ob,k b ob q⟩,fun _ _ q=>q,fun _ _ _ q=>q,fun _ ps q=>⟨#[],by rw [q]; simp⟩⟩
theorem Un.refl:Un fs ex H H h h:=Un.kept fun _ _ q=>q
theorem Un.laid (k:∀ b u,h.get? b=some u->h'.get? b=some u) (hp:h.objs.size<=a) (hn:H a=none):Un fs ex H (upd H a o) h h' where
 keep:=fun b u q _ _ _=>k b u q
 slot:=fun b u q _ _ _=>⟨u.slots,k b u q⟩
 free:=fun b u q n _=>by rw [zD (Nat.ne_of_lt (Nat.lt_of_lt_of_le (Heap.lt_size q) hp))]; exact n
 there:=fun b u q _=>⟨u,k b u q⟩
 tups:=fun b xs q=>by rw [zD (Z4 q hn)]; exact q
 frzs:=fun b u xs q=>by rw [zD (Z4 q hn)]; exact q
 tbls:=fun b ps q=>⟨#[],by rw [zD (Z4 q hn),q]; simp⟩
theorem Un.write (mu:Mut (H x)) (he:e=x\/H e=some (.own x)) (k:∀ b u,b ≠ e->h.get? b=some u->h'.get? b=some u) (heo:∃ u,h'.get? e=some u):Un fs ex H (upd H x o) h h' :=by
 have hx:∀ b,H b=none->b ≠ x:=fun b n z=>by subst z; rw [n] at mu; exact mu
 have hb:∀ b,H b=none->b ≠ e:=fun b n z=>by
  subst z
  rcases he with r | r
  ·exact hx b n r
  ·rw [n] at r; cases r
 have hm:∀ b u,H b=some u->¬ Mut (some u)->b ≠ x:=fun b u q nm z=>by subst z; rw [q] at mu; exact nm mu
 refine ⟨fun b u q n _ _=>k b u (hb b n) q,fun b u q n _ _=>⟨u.slots,k b u (hb b n) q⟩,fun b u q n _=>by rw [zD (hx b n)]; exact n,fun b u q _=> ?_,
  fun b xs q=>by rw [zD (hm b _ q fun z=>z)]; exact q,fun b u xs q=>by rw [zD (hm b _ q fun z=>z)]; exact q,fun b ps q=>⟨#[],by rw [zD (hm b _ q fun z=>z),q]; simp⟩⟩
 by_cases hbe:b=e
 ·subst hbe; exact heo
 ·exact ⟨u,k b u hbe q⟩
end
def trk (h:Heap) (H:Hp):List Addr:=(List.range h.objs.size).filter fun a=>(H a).isSome
def QC (h:Heap) (H:Hp):Heap:=PySem.W.hideAll h (trk h H)
theorem Yb (h:Heap) (H:Hp):(QC h H).objs.size=h.objs.size:=PySem.W.hideAll_size _ _
theorem QD {h:Heap} {H:Hp} {b:Addr} {o:Obj} (e:h.get? b=some o) (n:H b=none):(QC h H).get? b=some o:=
 PySem.W.hideAll_get _ e fun hm=>by
  have q:(H b).isSome=true:=(List.mem_filter.mp hm).2
  rw [n] at q; simp at q
theorem VE {h:Heap} {H:Hp} {b:Addr} {o:Obj} (e:(QC h H).get? b=some o):h.get? b=some o/\H b=none:=by
 have e' :h.get? b=some o:=PySem.W.of_hideAll (trk h H) e
 refine ⟨e', ?_⟩
 cases q:H b with
 | none=>rfl
 | some x=>
  have hm:b∈trk h H:=List.mem_filter.mpr ⟨List.mem_range.mpr (Heap.lt_size e'),by simp [q]⟩
  have z:(QC h H).get? b=none:=PySem.W.hideAll_none (trk h H) hm
  rw [z] at e; cases e
end L2
namespace L2
open PySem PySem.Spec PyProof.Rows
structure Mod (K:PySem.W.Frag) (mg:Str->Option Value) (base:Heap):Prop where
 kin:K.In base
 glob:base.Ns mainGlobals mg
 blt:∃ mb,base.Ns builtinsNs mb/\∀ x:Str,x ≠ "__name__"->mb x=bootBuiltins x
 nolimit:base.NoLimit
structure Cx where
 prog:Program
 w:World
 K:PySem.W.Frag
 mg:Str->Option Value
 base:Heap
 A:Around
 N:List Str
 s₀:Shared
 H₀:Hp
 env:Env
 outer:List Env
 stack:List Env
 ex:List Addr
 fn:Str->Bool
 calm:Bool
 pn:List (Addr×Obj)
 xe:Value->Shared->Prop
def frs (l:List Env):List Addr:=l.filterMap (·.frame)
abbrev Cx.fs (X:Cx):List Addr:=frs X.outer
def Vis (sc:Scope) (x:Str):Prop:=sc.names.lookup x=some .local\/sc.names.lookup x=some .cell\/sc.names.lookup x=some .free
def Loc (sc:Scope) (x:Str):Prop:=sc.names.lookup x=some .local\/sc.names.lookup x=some .cell
def Look (env:Env) (h:Heap) (m:Str->Option Value) (x:Str) (u:Value):Prop:=
 (env.kindOf x=some .local/\m x=some u)\/((env.kindOf x=some .cell\/env.kindOf x=some .free)/\∃ c,env.cells.lookup x=some c/\h.IsCell c (some u))
structure Cx.Ok (X:Cx):Prop where
 mod:Mod X.K X.mg X.base
 kind:X.env.scope.kind= .function
 glob:X.env.globals=mainGlobals
 blt:X.env.builtins=builtinsNs
 above:X.s₀.heap.objs.size<=X.env.locals
 inj:∀ x y c,X.env.cells.lookup x=some c->X.env.cells.lookup y=some c->x=y
 has:∀ x,(X.env.kindOf x=some .cell\/X.env.kindOf x=some .free)->∃ c,X.env.cells.lookup x=some c
 cab:∀ x c,X.fn x=true->X.env.cells.lookup x=some c->X.s₀.heap.objs.size<=c
 hd:X.calm=true->X.A.handled=none
 frames:X.A.frames=some X.stack
 stk:X.stack=X.outer\/(X.stack=X.env :: X.outer/\X.env.frame=some X.env.locals)
 exf:∀ b∈X.ex,b ≠ X.env.locals/\∀ x c,X.env.cells.lookup x=some c->c ≠ b
 bs:∀ b o,X.base.get? b=some o->X.s₀.heap.get? b=some o/\X.H₀ b=none
 bsz:X.base.objs.size<=X.s₀.heap.objs.size
 noex:∀ b o,X.base.get? b=some o->b ∉ X.ex
 exfs:∀ b∈X.ex,b ∉ X.fs
 funs:X.s₀.heap.FunFrames X.base X.outer
 frf:∀ b∈X.fs,X.H₀ b=none
structure Inv (X:Cx) (pins:List (Addr×Obj)) (σ:List (Option V)) (H:Hp) (s:Shared):Prop where
 ok:X.Ok
 os:s.os=X.s₀.os
 bare:AllBare s.gens
 base:Un X.fs X.ex X.H₀ H X.s₀.heap s.heap
 loc:∃ m,s.heap.Ns X.env.locals m/\∀ (i:Nat) (x:Str) (v:V),X.N[i]? =some x->σ[i]? =some (some v)->Vis X.env.scope x->∃ u,ZL v u/\Look X.env s.heap m x u
 cell:∀ x c,X.env.cells.lookup x=some c->∃ v,s.heap.IsCell c v
 free:H X.env.locals=none
 freeC:∀ x c,X.env.cells.lookup x=some c->H c=none
 pin:∀ p∈X.pn++pins,s.heap.get? p.1=some p.2/\H p.1=none/\p.1 ≠ X.env.locals/\p.1 ∉ X.fs/\∀ v,p.2.data ≠ .cell v
 hok:HOk X.prog X.w H s.heap
 len:σ.length=X.N.length
section
variable {X:Cx} {pins:List (Addr×Obj)} {σ:List (Option V)} {H H' :Hp} {s:Shared} {h' :Heap}
theorem Cx.Ok.nofr (ok:X.Ok) {b:Addr} {o:Obj} (e:X.base.get? b=some o):b ∉ X.fs:=fun hb=>by
 have:=(ok.funs.mem hb).1
 rw [e] at this; cases this
theorem Inv.bs (I:Inv X pins σ H s):∀ b o,X.base.get? b=some o->s.heap.get? b=some o/\H b=none:=fun b o e=>
 ⟨I.base.keep b o (I.ok.bs b o e).1 (I.ok.bs b o e).2 (I.ok.nofr e) (I.ok.noex b o e),I.base.free b o (I.ok.bs b o e).1 (I.ok.bs b o e).2 (I.ok.noex b o e)⟩
theorem Inv.bk (I:Inv X pins σ H s):∀ b o,X.base.get? b=some o->s.heap.get? b=some o:=fun b o e=>(I.bs b o e).1
theorem Inv.mod (I:Inv X pins σ H s):Mod X.K X.mg X.base:=I.ok.mod
theorem Inv.kIn (I:Inv X pins σ H s):X.K.In s.heap:=I.ok.mod.kin.keeps I.bk
theorem Inv.lt (I:Inv X pins σ H s):X.env.locals < s.heap.objs.size:=let ⟨_,hn,_⟩:=I.loc; hn.lt
theorem Inv.sz (I:Inv X pins σ H s):X.s₀.heap.objs.size<=s.heap.objs.size:=Nat.le_trans I.ok.above (Nat.le_of_lt I.lt)
theorem Inv.nofs (I:Inv X pins σ H s) {a:Addr} (h:s.heap.objs.size<=a):a ∉ X.fs:=fun hb=>by
 obtain ⟨_,o,ho,_⟩:=I.ok.funs.mem hb
 exact absurd (Nat.lt_of_lt_of_le (Heap.lt_size ho) (Nat.le_trans I.sz h)) (Nat.lt_irrefl _)
theorem Inv.cne (I:Inv X pins σ H s):∀ x c,X.env.cells.lookup x=some c->c ≠ X.env.locals:=fun x c e z=>by
 obtain ⟨v,o,ho,hd⟩:=I.cell x c e
 obtain ⟨m,⟨o',es,ep,ho',hd',_⟩,_⟩:=I.loc
 rw [z,ho'] at ho; cases ho; rw [hd'] at hd; cases hd
theorem Inv.funs (I:Inv X pins σ H s):s.heap.FunFrames X.base X.outer:=by
 have all:∀ (l:List Env),(∀ b∈frs l,b∈X.fs)->X.s₀.heap.FunFrames X.base l->s.heap.FunFrames X.base l:=by
  intro l
  induction l with
  | nil=>intro _ _; trivial
  | cons env r ih=>
   intro hs hl
   obtain ⟨hk,⟨L,o,hf,hn,ho,hd⟩,hr⟩:=hl
   have hL:L∈X.fs:=hs L (by unfold frs; rw [List.filterMap_cons,hf]; exact List.mem_cons_self)
   obtain ⟨sl,e⟩:=I.base.slot L o ho (I.ok.frf L hL) hL fun z=>I.ok.exfs L z hL
   exact ⟨hk,⟨L,_,hf,hn,e,hd⟩,ih (fun b hb=>hs b (by unfold frs; rw [List.filterMap_cons,hf]; exact List.mem_cons_of_mem _ hb)) hr⟩
 exact all X.outer (fun _ hb=>hb) I.ok.funs
theorem Inv.stack (I:Inv X pins σ H s):s.heap.FunFrames X.base X.stack:=by
 rcases I.ok.stk with e | ⟨e,hf⟩
 ·rw [e]; exact I.funs
 ·rw [e]
  obtain ⟨m,hn,_⟩:=I.loc
  refine .cons (by rw [I.ok.kind]; decide) hf hn ?_ I.funs
  exact Heap.get?_none_of_le (Nat.le_trans I.ok.bsz I.ok.above)
theorem Inv.stkSub (I:Inv X pins σ H s):∀ b∈frs X.stack,b∈X.env.locals :: X.fs:=fun b hb=>by
 rcases I.ok.stk with e | ⟨e,hf⟩
 ·rw [e] at hb; exact List.mem_cons_of_mem _ hb
 ·rw [e] at hb
  unfold frs at hb
  rw [List.filterMap_cons,hf] at hb
  exact hb
theorem Inv.stkFree (I:Inv X pins σ H s):∀ b∈frs X.stack,H b=none:=fun b hb=>by
 rcases List.mem_cons.mp (I.stkSub b hb) with e | hb
 ·rw [e]; exact I.free
 ·obtain ⟨_,o,ho,_⟩:=I.ok.funs.mem hb
  exact I.base.free b o ho (I.ok.frf b hb) fun z=>I.ok.exfs b z hb
theorem Inv.step {g' :Array GenState} {t' :Nat} {d' :Drawn} {ch:List Addr} (I:Inv X pins σ H s)
  (hch:∀ b∈ch,(b∈X.ex\/X.s₀.heap.objs.size<=b)/\b ≠ X.env.locals/\(∀ x c,X.env.cells.lookup x=some c->c ≠ b)/\∀ p∈X.pn++pins,p.1 ≠ b)
  (keep:∀ b o,b ≠ X.env.locals->b ∉ X.fs->b ∉ ch->s.heap.get? b=some o->H b=none->h'.get? b=some o)
  (slot:∀ b o,b ≠ X.env.locals->b∈X.fs->b ∉ ch->s.heap.get? b=some o->H b=none->∃ sl,h'.get? b=some { o with slots:=sl }) (free:∀ b o,b ∉ ch->s.heap.get? b=some o->H b=none->H' b=none)
  (there:∀ b o,b ∉ ch->s.heap.get? b=some o->∃ o',h'.get? b=some o')
  (tups:∀ b xs,H b=some (.tup xs)->H' b=some (.tup xs)) (frzs:∀ b o u,H b=some (.frz o u)->H' b=some (.frz o u)) (tbls:∀ b ps,H b=some (.tbl ps)->∃ more,H' b=some (.tbl (ps++more)))
  (ns:∀ m,s.heap.Ns X.env.locals m->h'.Ns X.env.locals m) (hok:HOk X.prog X.w H' h') (hg:AllBare g'):
  Inv X pins σ H' { s with heap:=h',gens:=g',drawn:=d',toks:=t' }:=by
 have neL:∀ b o,X.s₀.heap.get? b=some o->b ≠ X.env.locals:=fun b o e=>Nat.ne_of_lt (Nat.lt_of_lt_of_le (Heap.lt_size e) I.ok.above)
 have neC:∀ b o,X.s₀.heap.get? b=some o->b ∉ X.ex->b ∉ ch:=fun b o e hx hb=>by
  rcases (hch b hb).1 with z | z
  ·exact hx z
  ·exact absurd (Nat.lt_of_lt_of_le (Heap.lt_size e) z) (Nat.lt_irrefl _)
 have cellK:∀ x c,X.env.cells.lookup x=some c->∀ v,s.heap.IsCell c v->h'.IsCell c v:=fun x c e v ⟨o,ho,hd⟩=>by
  have nch:c ∉ ch:=fun z=>(hch c z).2.2.1 x c e rfl
  by_cases hc:c∈X.fs
  ·obtain ⟨sl,q⟩:=slot c o (I.cne x c e) hc nch ho (I.freeC x c e)
   exact ⟨_,q,hd⟩
  ·exact ⟨o,keep c o (I.cne x c e) hc nch ho (I.freeC x c e),hd⟩
 refine ⟨I.ok,I.os,hg,⟨fun b o e n hb hx=> ?_,fun b o e n hb hx=> ?_,fun b o e n hx=> ?_,fun b o e hx=> ?_,fun b xs e=>tups b xs (I.base.tups b xs e),fun b o xs e=>frzs b o xs (I.base.frzs b o xs e),fun b ps e=> ?_⟩, ?_,fun x c e=> ?_, ?_,fun x c e=> ?_,fun p hp=> ?_,hok,I.len⟩
 ·exact keep b o (neL b o e) hb (neC b o e hx) (I.base.keep b o e n hb hx) (I.base.free b o e n hx)
 ·obtain ⟨sl,e1⟩:=I.base.slot b o e n hb hx
  obtain ⟨sl',e2⟩:=slot b _ (neL b o e) hb (neC b o e hx) e1 (I.base.free b o e n hx)
  exact ⟨sl',e2⟩
 ·obtain ⟨o',e1⟩:=I.base.there b o e hx
  exact free b o' (neC b o e hx) e1 (I.base.free b o e n hx)
 ·obtain ⟨o',e1⟩:=I.base.there b o e hx
  exact there b o' (neC b o e hx) e1
 ·obtain ⟨m1,e1⟩:=I.base.tbls b ps e
  obtain ⟨m2,e2⟩:=tbls b _ e1
  exact ⟨m1++m2,by rw [e2,Array.append_assoc]⟩
 ·obtain ⟨m,hn,hl⟩:=I.loc
  refine ⟨m,ns m hn,fun i x v e1 e2 e3=> ?_⟩
  obtain ⟨u,r,l⟩:=hl i x v e1 e2 e3
  refine ⟨u,r, ?_⟩
  rcases l with l | ⟨k,c,e,z⟩
  ·exact .inl l
  ·exact .inr ⟨k,c,e,cellK x c e _ z⟩
 ·obtain ⟨v,z⟩:=I.cell x c e
  exact ⟨v,cellK x c e v z⟩
 ·obtain ⟨m,⟨o,_,_,ho,_⟩,_⟩:=I.loc
  exact free _ o (fun z=>(hch _ z).2.1 rfl) ho I.free
 ·obtain ⟨v,o,ho,hd⟩:=I.cell x c e
  exact free c o (fun z=>(hch c z).2.2.1 x c e rfl) ho (I.freeC x c e)
 ·obtain ⟨e,n,ne,nf,d⟩:=I.pin p hp
  have nch:p.1 ∉ ch:=fun z=>(hch p.1 z).2.2.2 p hp rfl
  exact ⟨keep p.1 p.2 ne nf nch e n,free p.1 p.2 nch e n,ne,nf,d⟩
theorem Inv.un {t' :Nat} (I:Inv X pins σ H s) (u:Un X.fs [] H H' s.heap h') (hok:HOk X.prog X.w H' h'):Inv X pins σ H' { s with heap:=h',toks:=t' }:=by
 obtain ⟨m,⟨o,es,ep,ho,r⟩,_⟩:=id I.loc
 obtain ⟨sl,hL⟩:=u.any ho I.free (by simp)
 exact I.step (g' :=s.gens) (d' :=s.drawn) (ch:=[]) (fun _ z=>nomatch z) (fun b o _ hb _ e n=>u.keep b o e n hb (by simp)) (fun b o _ hb _ e n=>u.slot b o e n hb (by simp)) (fun b o _ e n=>u.free b o e n (by simp)) (fun b o _ e=>u.there b o e (by simp)) u.tups u.frzs u.tbls (fun m' hm=>by
  obtain ⟨o',es',ep',ho',r'⟩:=hm
  rw [ho] at ho'; cases ho'
  exact ⟨_,es',ep',hL,r'⟩) hok I.bare
theorem Inv.call {g' :Array GenState} {t' :Nat} {d' :Drawn} {ch:List Addr} (I:Inv X pins σ H s) (u:Un (frs X.stack) ch H H' s.heap h') (hok:HOk X.prog X.w H' h') (hg:AllBare g')
  (hch:∀ b∈ch,(b∈X.ex\/X.s₀.heap.objs.size<=b)/\b ≠ X.env.locals/\(∀ x c,X.env.cells.lookup x=some c->c ≠ b)/\∀ p∈X.pn++pins,p.1 ≠ b):
  Inv X pins σ H' { s with heap:=h',gens:=g',drawn:=d',toks:=t' }:=by
 obtain ⟨m,⟨o,es,ep,ho,r⟩,_⟩:=id I.loc
 obtain ⟨sl,hL⟩:=u.any ho I.free fun z=>(hch _ z).2.1 rfl
 exact I.step (ch:=ch) hch (fun b o hL hb hc e n=>u.keep b o e n (fun z=>(List.mem_cons.mp (I.stkSub b z)).elim hL hb) hc) (fun b o _ _ hc e n=>u.any e n hc) (fun b o hc e n=>u.free b o e n hc) (fun b o hc e=>u.there b o e hc) u.tups u.frzs u.tbls (fun m' hm=>by
  obtain ⟨o',es',ep',ho',r'⟩:=hm
  rw [ho] at ho'; cases ho'
  exact ⟨_,es',ep',hL,r'⟩) hok hg
theorem Inv.turned {t' :Nat} {it:Addr} (I:Inv X pins σ H s) (k:∀ b o,b ≠ it->s.heap.get? b=some o->h'.get? b=some o) (hn:H it=none) (hL:it ≠ X.env.locals)
  (h1:it∈X.ex\/X.s₀.heap.objs.size<=it) (h2:∀ x c,X.env.cells.lookup x=some c->c ≠ it) (h3:∀ p∈X.pn++pins,p.1 ≠ it):Inv X pins σ H { s with heap:=h',toks:=t' }:=by
 have nit:∀ b u,H b=some u->b ≠ it:=fun b u e z=>by rw [z,hn] at e; cases e
 refine I.step (g' :=s.gens) (d' :=s.drawn) (ch:=[it]) (fun b hb=> ?_) (fun b o _ _ hc e _=>k b o (fun z=>hc (by simp [z])) e) (fun b o _ _ hc e _=>⟨o.slots,k b o (fun z=>hc (by simp [z])) e⟩) (fun _ _ _ _ n=>n)
  (fun b o hc e=>⟨o,k b o (fun z=>hc (by simp [z])) e⟩) (fun _ _ e=>e) (fun _ _ _ e=>e) (fun b ps e=>⟨#[],by rw [e]; simp⟩) (fun m hm=> ?_) (fun b u e=> ?_) I.bare
 ·have e:b=it:=by simpa using hb
  subst e
  exact ⟨h1,hL,h2,h3⟩
 ·obtain ⟨o,es,ep,ho,r⟩:=hm
  exact ⟨o,es,ep,k _ o (Ne.symm hL) ho,r⟩
 ·refine (I.hok b u e).stay (fun c v hc q=>k c v ?_ q) (fun _ q=>q) fun _ _ q=>q
  rcases hc with z | z
  ·rw [z]; exact nit b u e
  ·exact nit c _ z
theorem Inv.tok (I:Inv X pins σ H s) (t:Nat):Inv X pins σ H { s with toks:=t }:=I.un (h' :=s.heap) (t' :=t) Un.refl I.hok
theorem Inv.kept {t' :Nat} (I:Inv X pins σ H s) (k:∀ b u,s.heap.get? b=some u->h'.get? b=some u):Inv X pins σ H { s with heap:=h',toks:=t' }:=I.un (Un.kept k) (I.hok.kept k)
theorem Inv.laid {a:Addr} {o:HO} {t' :Nat} (I:Inv X pins σ H s) (k:∀ b u,s.heap.get? b=some u->h'.get? b=some u) (hp:s.heap.objs.size<=a) (new:ZH X.prog X.w (upd H a o) h' a o):
  Inv X pins σ (upd H a o) { s with heap:=h',toks:=t' }:=I.un (Un.laid k hp (I.hok.fresh hp)) (I.hok.laid k hp new)
theorem Inv.write {x e:Addr} {o:HO} {t' :Nat} (I:Inv X pins σ H s) (mu:Mut (H x)) (he:e=x\/H e=some (.own x)) (k:∀ b u,b ≠ e->s.heap.get? b=some u->h'.get? b=some u) (heo:∃ u,h'.get? e=some u)
  (new:ZH X.prog X.w (upd H x o) h' x o):Inv X pins σ (upd H x o) { s with heap:=h',toks:=t' }:=I.un (Un.write mu he k heo) (I.hok.write mu he k heo new)
theorem Inv.pins_of {pins' :List (Addr×Obj)} (I:Inv X pins σ H s) (h:∀ p∈pins',s.heap.get? p.1=some p.2/\H p.1=none/\p.1 ≠ X.env.locals/\p.1 ∉ X.fs/\∀ v,p.2.data ≠ .cell v):Inv X pins' σ H s:=
 ⟨I.ok,I.os,I.bare,I.base,I.loc,I.cell,I.free,I.freeC,fun p hp=>(List.mem_append.mp hp).elim (fun z=>I.pin p (List.mem_append_left _ z)) (h p),I.hok,I.len⟩
theorem Wl {N:List Str} (hN:N.Nodup) {i j:Nat} {x:Str} (a:N[i]? =some x) (b:N[j]? =some x):i=j:=by
 obtain ⟨h1,e1⟩:=List.getElem?_eq_some_iff.mp a
 obtain ⟨h2,e2⟩:=List.getElem?_eq_some_iff.mp b
 exact (List.getElem_inj hN).mp (e1.trans e2.symm)
theorem wu {M:Model} {A:Around} {E:Value->Shared->Prop} {i:Nat} {x:Str} {v:V} {u:Value} {Q:Unit->Shared->Prop} (I:Inv X pins σ H s) (hN:X.N.Nodup) (hi:X.N[i]? =some x) (hx:Loc X.env.scope x) (r:ZL v u)
  (h:∀ s',Inv X pins (σ.set i (some v)) H s' ->(∃ a,Heap.SameBut a s.heap s'.heap/\(a=X.env.locals\/X.env.cells.lookup x=some a))->Q () s') (hf:X.fn x=true\/X.env.scope.names.lookup x=some .local:=by first | exact .inl rfl | exact .inr rfl | assumption):wpAny M A (storeName X.env x u) Q E s:=by
 obtain ⟨m,hn,hl⟩:=id I.loc
 have hcls:(X.env.scope.kind == .class || (X.env.scope.kind == .module && X.env.locals != X.env.globals))=false:=by rw [I.ok.kind]; rfl
 have hiσ:i < σ.length:=by rw [I.len]; exact (List.getElem?_eq_some_iff.mp hi).1
 have cne:=I.cne
 have tracked:∀ {a:Addr} {h' :Heap},(∃ o,s.heap.get? a=some o/\H a=none)->Heap.SameBut a s.heap h' ->HOk X.prog X.w H h' :=fun {a h'} ha hs b ob e=>by
  obtain ⟨_,_,hfree⟩:=ha
  refine (I.hok b ob e).stay (fun c w' hc q=>(hs.2 c ?_).trans q) (fun _ q=>q) fun _ _ q=>q
  rintro rfl
  rcases hc with rfl | hc
  ·rw [hfree] at e; cases e
  ·rw [hfree] at hc; cases hc
 rcases hx with hk | hk
 ·refine wpAny_storeName_local hk hn (fun h' hn' hs=> ?_) hcls
  obtain ⟨oL,_,_,hoL,_⟩:=id hn
  refine h _ ⟨I.ok,I.os,I.bare,⟨fun b o e n hb hx=> ?_,fun b o e n hb hx=> ?_,I.base.free,fun b o e hx=> ?_,I.base.tups,I.base.frzs,I.base.tbls⟩,⟨_,hn',fun j y v' e1 e2 e3=> ?_⟩,fun y c e=> ?_,I.free,I.freeC,fun p hp=> ?_,tracked ⟨oL,hoL,I.free⟩ hs,by simpa using I.len⟩ ⟨_,hs, .inl rfl⟩
  ·exact (hs.2 b (Nat.ne_of_lt (Nat.lt_of_lt_of_le (Heap.lt_size e) I.ok.above))).trans (I.base.keep b o e n hb hx)
  ·obtain ⟨sl,e1⟩:=I.base.slot b o e n hb hx
   exact ⟨sl,(hs.2 b (Nat.ne_of_lt (Nat.lt_of_lt_of_le (Heap.lt_size e) I.ok.above))).trans e1⟩
  ·obtain ⟨o',e1⟩:=I.base.there b o e hx
   exact ⟨o',(hs.2 b (Nat.ne_of_lt (Nat.lt_of_lt_of_le (Heap.lt_size e) I.ok.above))).trans e1⟩
  ·by_cases hj:j=i
   ·subst hj
    rw [hi] at e1; cases e1
    rw [List.getElem?_set_self hiσ] at e2
    cases e2
    exact ⟨u,r, .inl ⟨hk,by simp⟩⟩
   ·rw [List.getElem?_set_ne (Ne.symm hj)] at e2
    obtain ⟨u',r',q⟩:=hl j y v' e1 e2 e3
    refine ⟨u',r', ?_⟩
    rcases q with ⟨k,e⟩ | ⟨k,c,e,z⟩
    ·refine .inl ⟨k, ?_⟩
     have:y ≠ x:=fun e=>hj (Wl hN e1 (e ▸ hi))
     simp [this,e]
    ·exact .inr ⟨k,c,e,z.sameBut hs (cne y c e)⟩
  ·obtain ⟨w',z⟩:=I.cell y c e
   exact ⟨w',z.sameBut hs (cne y c e)⟩
  ·obtain ⟨e,n,ne,nf,d⟩:=I.pin p hp
   exact ⟨(hs.2 p.1 ne).trans e,n,ne,nf,d⟩
 ·have hfn:X.fn x=true:=by
   rcases hf with z | z
   ·exact z
   ·rw [z] at hk; cases hk
  obtain ⟨c,hc⟩:=I.ok.has x (.inl hk)
  obtain ⟨w',z⟩:=I.cell x c hc
  refine wpAny_storeName_cell I.ok.kind hk hc z (fun h' hc' hs=> ?_)
  obtain ⟨oc,hoc,hocd⟩:=id z
  refine h { s with heap:=h' } ⟨I.ok,I.os,I.bare,⟨fun b o e n hb hx=> ?_,fun b o e n hb hx=> ?_,I.base.free,fun b o e hx=> ?_,I.base.tups,I.base.frzs,I.base.tbls⟩,⟨m,hn.sameBut hs (Ne.symm (cne x c hc)),fun j y v' e1 e2 e3=> ?_⟩,fun y c' e=> ?_,I.free,I.freeC,fun p hp=> ?_,tracked ⟨oc,hoc,I.freeC x c hc⟩ hs,by simpa using I.len⟩ ⟨c,hs, .inr hc⟩
  ·exact (hs.2 b (Nat.ne_of_lt (Nat.lt_of_lt_of_le (Heap.lt_size e) (I.ok.cab x c hfn hc)))).trans (I.base.keep b o e n hb hx)
  ·obtain ⟨sl,e1⟩:=I.base.slot b o e n hb hx
   exact ⟨sl,(hs.2 b (Nat.ne_of_lt (Nat.lt_of_lt_of_le (Heap.lt_size e) (I.ok.cab x c hfn hc)))).trans e1⟩
  ·obtain ⟨o',e1⟩:=I.base.there b o e hx
   exact ⟨o',(hs.2 b (Nat.ne_of_lt (Nat.lt_of_lt_of_le (Heap.lt_size e) (I.ok.cab x c hfn hc)))).trans e1⟩
  ·by_cases hj:j=i
   ·subst hj
    rw [hi] at e1; cases e1
    rw [List.getElem?_set_self hiσ] at e2
    cases e2
    exact ⟨u,r, .inr ⟨.inl hk,c,hc,hc'⟩⟩
   ·rw [List.getElem?_set_ne (Ne.symm hj)] at e2
    obtain ⟨u',r',q⟩:=hl j y v' e1 e2 e3
    refine ⟨u',r', ?_⟩
    rcases q with q | ⟨k,c',e,z'⟩
    ·exact .inl q
    ·refine .inr ⟨k,c',e,z'.sameBut hs ?_⟩
     rintro rfl
     exact hj (Wl hN e1 (I.ok.inj _ _ _ e hc ▸ hi))
  ·by_cases hcc:c' =c
   ·subst hcc; exact ⟨_,hc'⟩
   ·obtain ⟨w2,z2⟩:=I.cell y c' e
    exact ⟨w2,z2.sameBut hs hcc⟩
  ·obtain ⟨e,n,ne,nf,d⟩:=I.pin p hp
   refine ⟨(hs.2 p.1 ?_).trans e,n,ne,nf,d⟩
   intro q
   rw [q,hoc] at e
   have q' :oc=p.2:=Option.some.inj e
   exact d w' (by rw [← q']; exact hocd)
theorem Jp {M:Model} {A:Around} {E:Value->Shared->Prop} {i:Nat} {x:Str} {v:V} {u:Value} {Q:Unit->Shared->Prop} (I:Inv X pins σ H s) (hN:X.N.Nodup) (hi:X.N[i]? =some x) (hx:Loc X.env.scope x) (r:ZL v u)
  (h:∀ s',Inv X pins (σ.set i (some v)) H s' ->Q () s') (hf:X.fn x=true\/X.env.scope.names.lookup x=some .local:=by first | exact .inl rfl | exact .inr rfl | assumption):wpAny M A (storeName X.env x u) Q E s:=
 wu I hN hi hx r (fun s' I' _=>h s' I') hf
theorem Inv.call' {s' :Shared} {ch:List Addr} (I:Inv X pins σ H s) (ho:s'.os=s.os) (u:Un (frs X.stack) ch H H' s.heap s'.heap) (hok:HOk X.prog X.w H' s'.heap) (hg:AllBare s'.gens)
  (hch:∀ b∈ch,(b∈X.ex\/X.s₀.heap.objs.size<=b)/\b ≠ X.env.locals/\(∀ x c,X.env.cells.lookup x=some c->c ≠ b)/\∀ p∈X.pn++pins,p.1 ≠ b):Inv X pins σ H' s' :=by
 obtain ⟨h',g',d',t',o'⟩:=s'
 have e:o' =s.os:=ho
 subst e
 exact I.call (g' :=g') (t' :=t') (d' :=d') u hok hg hch
end
abbrev XK:=Value->Option Addr->Hp->Prop
abbrev St:=List (Option V)
abbrev VK:=V->Hp->Prop
abbrev TE:=St->Hp->VK->Prop
abbrev TT:=St->Hp->(Bool->Hp->Prop)->Prop
abbrev TA:=St->Hp->(List V->Hp->Prop)->Prop
structure QE where
 nx:St->Hp->Prop
 rt:VK
 bk:St->Hp->Prop:=fun _ _=>False
 ct:St->Hp->Prop:=fun _ _=>False
abbrev TS:=QE->St->Hp->Prop
def EP (X:Cx) (pins:List (Addr×Obj)) (σ:St) (Q:VK) (u:Value) (s' :Shared):Prop:=∃ v H',Inv X pins σ H' s' /\ZL v u/\Q v H'
def TP (X:Cx) (pins:List (Addr×Obj)) (σ:St) (Q:Bool->Hp->Prop) (b:Bool) (s' :Shared):Prop:=∃ H',Inv X pins σ H' s' /\Q b H'
def AP (X:Cx) (pins:List (Addr×Obj)) (σ:St) (Q:List V->Hp->Prop) (us:List Value) (s' :Shared):Prop:=∃ vs H',Inv X pins σ H' s' /\ZE vs us/\Q vs H'
def SP (X:Cx) (pins:List (Addr×Obj)) (D:QE) (f:Flow) (s' :Shared):Prop:=
 match f with
 | .next=>∃ σ' H',Inv X pins σ' H' s' /\D.nx σ' H'
 | .brk=>∃ σ' H',Inv X pins σ' H' s' /\D.bk σ' H'
 | .cont=>∃ σ' H',Inv X pins σ' H' s' /\D.ct σ' H'
 | .ret u=>∃ v σ' H',Inv X pins σ' H' s' /\ZL v u/\D.rt v H'
def PE (X:Cx) (e:Expr) (t:TE):Prop:=
 ∀ (pins:List (Addr×Obj)) (s:Shared) (σ:St) (H:Hp) (Q:VK),Inv X pins σ H s->t σ H Q->wpAny (model X.prog X.w) X.A (eval e X.env) (EP X pins σ Q) X.xe s
def PT (X:Cx) (e:Expr) (t:TT):Prop:=
 ∀ (pins:List (Addr×Obj)) (s:Shared) (σ:St) (H:Hp) (Q:Bool->Hp->Prop),Inv X pins σ H s->t σ H Q->wpAny (model X.prog X.w) X.A (isTrue e X.env (eval e X.env)) (TP X pins σ Q) X.xe s
def PW (X:Cx) (e:Expr) (t:TT):Prop:=
 ∀ (whole:Sem Value) (pins:List (Addr×Obj)) (s:Shared) (σ:St) (H:Hp) (Q:Bool->Hp->Prop),Inv X pins σ H s->t σ H Q->wpAny (model X.prog X.w) X.A (isTrue e X.env whole) (TP X pins σ Q) X.xe s
theorem PW.pt {X:Cx} {e:Expr} {t:TT} (h:PW X e t):PT X e t:=h _
def PA (X:Cx) (es:List Expr) (t:TA):Prop:=
 ∀ (pos:Pos) (pins:List (Addr×Obj)) (s:Shared) (σ:St) (H:Hp) (Q:List V->Hp->Prop),Inv X pins σ H s->t σ H Q->wpAny (model X.prog X.w) X.A (spliced (backTo pos (starEach es X.env))) (AP X pins σ Q) X.xe s
def PS (X:Cx) (st:Stmt) (t:TS):Prop:=
 ∀ (pins:List (Addr×Obj)) (s:Shared) (σ:St) (H:Hp) (D:QE),Inv X pins σ H s->t D σ H->wpAny (model X.prog X.w) X.A (exec st X.env) (SP X pins D) X.xe s
def PSs (X:Cx) (st:List Stmt) (t:TS):Prop:=
 ∀ (pins:List (Addr×Obj)) (s:Shared) (σ:St) (H:Hp) (D:QE),Inv X pins σ H s->t D σ H->wpAny (model X.prog X.w) X.A (execs st X.env) (SP X pins D) X.xe s
theorem thn {α:Type} {t:Sem α} {Q Q' :α->Shared->Prop} {M:Model} {A:Around} {E:Value->Shared->Prop} {s:Shared} (h:wpAny M A t Q E s) (hQ:∀ a s,Q a s->Q' a s):wpAny M A t Q' E s:=wpAny_mono h hQ fun _ _ x=>x
end L2
namespace L2
open PySem PySem.Spec PyProof.Rows
section
variable {X:Cx}
theorem bin {a b:Expr} {ta tb:TE} (ha:PE X a ta) (hb:PE X b tb) {pins:List (Addr×Obj)} {s:Shared} {σ:St} {H:Hp} {R:V->V->Hp->Prop} (I:Inv X pins σ H s) (h:ta σ H fun x H1=>tb σ H1 fun y H2=>R x y H2)
  {α:Type} {Q:α->Shared->Prop} {f:Value->Value->Sem α}
  (hf:∀ v u s2 x y H2,Inv X pins σ H2 s2->ZL x v->ZL y u->R x y H2->wpAny (model X.prog X.w) X.A (f v u) Q X.xe s2):
  wpAny (model X.prog X.w) X.A (eval a X.env) (fun v s₁=>wpAny (model X.prog X.w) X.A (eval b X.env) (fun u s₂=>wpAny (model X.prog X.w) X.A (f v u) Q X.xe s₂) X.xe s₁) X.xe s:=by
 refine thn (ha pins s σ H _ I h) fun v s1 ⟨x,H1,I1,r1,q1⟩=> ?_
 refine thn (hb pins s1 σ H1 _ I1 q1) fun u s2 ⟨y,H2,I2,r2,q2⟩=> ?_
 exact hf v u s2 x y H2 I2 r1 r2 q2
def Yc (i:Nat):TE:=fun σ H Q=>∃ v,σ[i]? =some (some v)/\Q v H
def tC (v:V):TE:=fun _ H Q=>Q v H
theorem vZ {i:Nat} {x:Str} {pos:Pos} (hN:X.N[i]? =some x) (hv:Vis X.env.scope x) (hd:(x == ("__debug__":Str))=false:=by decide) (hcd:(x == ("__classdict__":Str))=false:=by decide):PE X (.Name x pos) (Yc i):=by
 intro pins s σ H Q I h
 obtain ⟨v,e,h⟩:=h
 obtain ⟨m,hn,hl⟩:=I.loc
 obtain ⟨u,r,l⟩:=hl i x v hN e hv
 have fin:EP X pins σ Q u s:=⟨v,H,I,r,h⟩
 rcases l with ⟨hk,hm⟩ | ⟨hk,c,hc,hcell⟩
 ·exact wpAny_Name (wpAny_loadName_local I.ok.kind hk hn hm fin) hd
 ·rcases hk with hk | hk
  ·exact wpAny_Name (wpAny_loadName_cell I.ok.kind hk hc hcell fin) hd
  ·exact wpAny_Name (wpAny_loadName_free I.ok.kind hk hc hcell fin hcd) hd
theorem XI {i j pos}:PE X (.Constant (.int i) j pos) (tC (.int i)):=fun _ _ _ H _ I h=>wpAny_Constant_int ⟨.int i,H,I.tok _,⟨_,rfl⟩,h⟩
theorem gd {b j pos}:PE X (.Constant (.bool b) j pos) (tC (.bl b)):=fun _ _ _ H _ I h=>Constant_bool ⟨.bl b,H,I,rfl,h⟩
theorem V0 {j pos}:PE X (.Constant .none j pos) (tC .non):=fun _ _ _ H _ I h=>Constant_none ⟨.non,H,I,rfl,h⟩
theorem V1 {x j pos}:PE X (.Constant (.str x) j pos) (tC (.str x)):=fun _ _ _ H _ I h=>Calls.Constant_str ⟨.str x,H,I.tok _,⟨_,rfl⟩,h⟩
def Gl (X:Cx) (x:Str):Prop:=X.env.kindOf x=some .globalImplicit
theorem Wm {E:Value->Shared->Prop} {pins:List (Addr×Obj)} {s:Shared} {σ:St} {H:Hp} {x:Str} {u:Value} {pos:Pos} {Q:Value->Shared->Prop} (I:Inv X pins σ H s) (hg:Gl X x) (hm:X.mg x=some u) (h:Q u s)
  (hd:(x == ("__debug__":Str))=false:=by decide):wpAny (model X.prog X.w) X.A (eval (.Name x pos) X.env) Q E s:=
 Calls.Name_function_global I.ok.kind hg (Calls.loadGlobal_global (by rw [I.ok.glob]; exact I.mod.glob.keeps I.bk) hm h) hd
theorem JU {E:Value->Shared->Prop} {pins:List (Addr×Obj)} {s:Shared} {σ:St} {H:Hp} {x:Str} {u:Value} {pos:Pos} {Q:Value->Shared->Prop} (I:Inv X pins σ H s) (hg:Gl X x) (hm:X.mg x=none) (hv:bootBuiltins x=some u) (h:Q u s)
  (hn:x ≠ "__name__":=by decide) (hd:(x == ("__debug__":Str))=false:=by decide):wpAny (model X.prog X.w) X.A (eval (.Name x pos) X.env) Q E s:=by
 obtain ⟨mb,h1,h2⟩:=I.mod.blt
 exact Calls.Name_function_global I.ok.kind hg (Calls.loadGlobal_builtin (by rw [I.ok.glob]; exact I.mod.glob.keeps I.bk) hm (by rw [I.ok.blt]; exact h1.keeps I.bk) ((h2 x hn).trans hv) h) hd
theorem Yd {x:Str} {v:V} {u:Value} {pos:Pos} (hg:Gl X x) (hm:X.mg x=some u) (r:ZL v u) (hd:(x == ("__debug__":Str))=false:=by decide):PE X (.Name x pos) (tC v):=
 fun _ _ _ H _ I h=>Wm I hg hm ⟨v,H,I,r,h⟩ hd
theorem Ye {x:Str} {v:V} {u:Value} {pos:Pos} (hg:Gl X x) (hm:X.mg x=none) (hv:bootBuiltins x=some u) (r:ZL v u) (hn:x ≠ "__name__":=by decide) (hd:(x == ("__debug__":Str))=false:=by decide):PE X (.Name x pos) (tC v):=
 fun _ _ _ H _ I h=>JU I hg hm hv ⟨v,H,I,r,h⟩ hn hd
variable {a b:Expr} {ta tb:TE} {pos:Pos}
variable {tA tB' :TT} {rest:List Expr}
def tAnd (t u:TT):TT:=fun σ H Q=>t σ H fun c H1=>if c=true then u σ H1 Q else Q false H1
def tOr (t u:TT):TT:=fun σ H Q=>t σ H fun c H1=>if c=true then Q true H1 else u σ H1 Q
def tNot (t:TT):TT:=fun σ H Q=>t σ H fun c H1=>Q (!c) H1
theorem VF (ha:PT X a tA):PW X (.BoolOp .And [a] pos) tA:=by
 intro wh pins s σ H Q I h
 refine isTrue_and (thn (ha pins s σ H Q I h) fun c s1 e=> ?_)
 cases c with
 | true=>exact isTrue_and_nil e
 | false=>exact e
theorem XJ (ha:PT X a tA):PW X (.BoolOp .Or [a] pos) tA:=by
 intro wh pins s σ H Q I h
 refine isTrue_or (thn (ha pins s σ H Q I h) fun c s1 e=> ?_)
 cases c with
 | false=>exact isTrue_or_nil e
 | true=>exact e
theorem XL (ha:PT X a tA) (hb:PW X (.BoolOp .And (b :: rest) pos) tB'):PW X (.BoolOp .And (a :: b :: rest) pos) (tAnd tA tB'):=by
 intro wh pins s σ H Q I h
 refine isTrue_and (thn (ha pins s σ H _ I h) fun c s1 ⟨H1,I1,q1⟩=> ?_)
 cases c with
 | true=>exact hb wh pins s1 σ H1 Q I1 q1
 | false=>exact ⟨H1,I1,q1⟩
theorem gf (ha:PT X a tA) (hb:PW X (.BoolOp .Or (b :: rest) pos) tB'):PW X (.BoolOp .Or (a :: b :: rest) pos) (tOr tA tB'):=by
 intro wh pins s σ H Q I h
 refine isTrue_or (thn (ha pins s σ H _ I h) fun c s1 ⟨H1,I1,q1⟩=> ?_)
 cases c with
 | true=>exact ⟨H1,I1,q1⟩
 | false=>exact hb wh pins s1 σ H1 Q I1 q1
theorem XM (ha:PT X a tA):PT X (.UnaryOp .Not a pos) (tNot tA):=by
 intro pins s σ H Q I h
 exact isTrue_not (ha pins s σ H (fun c H1=>Q (!c) H1) I h)
def gh (ta tb:TE):TE:=fun σ H Q=>ta σ H fun x H1=>∃ c,x= .bl c/\if c=true then tb σ H1 Q else Q (.bl false) H1
def tOrV (ta tb:TE):TE:=fun σ H Q=>ta σ H fun x H1=>∃ c,x= .bl c/\if c=true then Q (.bl true) H1 else tb σ H1 Q
def gi (ta:TE):TE:=fun σ H Q=>ta σ H fun x H1=>∃ c,x= .bl c/\Q (.bl (!c)) H1
theorem XN {op} {t:TE} (h:PE X a t):PE X (.BoolOp op [a] pos) t:=fun pins s σ H Q I hw=>BoolOp_one (h pins s σ H Q I hw)
theorem XO (ha:PE X a ta) (hb:PE X (.BoolOp .And (b :: rest) pos) tb):PE X (.BoolOp .And (a :: b :: rest) pos) (gh ta tb):=by
 intro pins s σ H Q I h
 refine BoolOp_and (thn (ha pins s σ H _ I h) fun v s1 ⟨x,H1,I1,r1,q1⟩=> ?_)
 obtain ⟨c,rfl,q1⟩:=q1
 cases r1
 refine wpAny_truthy_bool ?_
 cases c with
 | true=>exact hb pins s1 σ H1 Q I1 q1
 | false=>exact ⟨.bl false,H1,I1,rfl,q1⟩
theorem gj (ha:PE X a ta) (hb:PE X (.BoolOp .Or (b :: rest) pos) tb):PE X (.BoolOp .Or (a :: b :: rest) pos) (tOrV ta tb):=by
 intro pins s σ H Q I h
 refine BoolOp_or (thn (ha pins s σ H _ I h) fun v s1 ⟨x,H1,I1,r1,q1⟩=> ?_)
 obtain ⟨c,rfl,q1⟩:=q1
 cases r1
 refine wpAny_truthy_bool ?_
 cases c with
 | false=>exact hb pins s1 σ H1 Q I1 q1
 | true=>exact ⟨.bl true,H1,I1,rfl,q1⟩
theorem XQ (ha:PE X a ta):PE X (.UnaryOp .Not a pos) (gi ta):=by
 intro pins s σ H Q I h
 refine UnaryOp_ (thn (ha pins s σ H _ I h) fun v s1 ⟨x,H1,I1,r1,q1⟩=> ?_)
 obtain ⟨c,rfl,q1⟩:=q1
 cases r1
 exact not_of (wpAny_truthy_bool ⟨.bl (!c),H1,I1,rfl,q1⟩)
def tIf (t:TT) (ta tb:TE):TE:=fun σ H Q=>t σ H fun c H1=>if c=true then ta σ H1 Q else tb σ H1 Q
theorem QF {c:Expr} (hc:PT X c tA) (ha:PE X a ta) (hb:PE X b tb):PE X (.IfExp c a b pos) (tIf tA ta tb):=by
 intro pins s σ H Q I h
 refine wpAny_IfExp (thn (hc pins s σ H _ I h) fun d s1 ⟨H1,I1,q1⟩=> ?_)
 cases d with
 | true=>exact ha pins s1 σ H1 Q I1 q1
 | false=>exact hb pins s1 σ H1 Q I1 q1
end
end L2
namespace L2
open PySem PySem.Spec PyProof.Rows
def SqL (K:PySem.W.Frag) (H:Hp) (a:Addr) (xs:List V):Prop:=
 Rd H a (.lst xs)\/
  ∃ (o:Obj) (its:Array Value) (n:Nat),K.lookup a=some o/\o.cls= .type "list"/\o.dict=none/\o.data= .seq its n/\its.size<=sizeLine/\ZE xs its.toList
def SqT (K:PySem.W.Frag) (H:Hp) (a:Addr) (xs:List V):Prop:=
 Rd H a (.tup xs)\/
  ∃ (o:Obj) (its:Array Value) (n:Nat),K.lookup a=some o/\o.cls= .type "tuple"/\o.data= .seq its n/\its.size<=sizeLine/\ZE xs its.toList
def absV:Value->Option V
 | .none=>some .non
 | .bool b=>some (.bl b)
 | .int i _=>some (.int i)
 | .str x _=>some (.str x)
 | .bytes b _=>some (.byt b)
 | .float b _=>some (.flt b)
 | .ref a=>some (.ref a)
 | .type n=>some (.ty n)
 | _=>none
theorem ZL.abs {x:V} {u:Value} (r:ZL x u):absV u=some x:=by
 cases x with
 | non=>cases r; rfl
 | bl _=>cases r; rfl
 | int _=>obtain ⟨t,rfl⟩:=r; rfl
 | str _=>obtain ⟨t,rfl⟩:=r; rfl
 | byt _=>obtain ⟨t,rfl⟩:=r; rfl
 | flt _=>obtain ⟨t,rfl⟩:=r; rfl
 | ref _=>cases r; rfl
 | ty _=>cases r; rfl
theorem ZL.inj {x y:V} {u:Value} (r:ZL x u) (q:ZL y u):x=y:=Option.some.inj (r.abs.symm.trans q.abs)
theorem ZE.inj:∀ {xs ys:List V} {us:List Value},ZE xs us->ZE ys us->xs=ys
 | _,_,_, .nil, .nil=>rfl
 | _,_,_, .cons r t, .cons r' t' =>by rw [r.inj r',ZE.inj t t']
section
variable {X:Cx} {pins:List (Addr×Obj)} {σ:St} {H:Hp} {s:Shared} {a:Addr} {xs ys:List V}
theorem SqL.of {K:PySem.W.Frag} (h:H a=some (.lst xs)):SqL K H a xs:= .inl (.inl h)
theorem SqT.of {K:PySem.W.Frag} (h:H a=some (.tup xs)):SqT K H a xs:= .inl (.inl h)
theorem Inv.list (I:Inv X pins σ H s) (h:SqL X.K H a xs):∃ its:List Value,ZE xs its/\PlainL s.heap a its.toArray/\xs.length<=sizeLine:=by
 rcases h with h | ⟨o,its,n,hk,hc,hd,hs,hz,r⟩
 ·obtain ⟨z,its,n,r,e⟩:=h.ok I.hok
  exact ⟨its,r,⟨_,n,e,rfl,rfl,rfl⟩,z⟩
 ·refine ⟨its.toList,r,⟨o,n,I.kIn a o hk,hc,hd,by simpa using hs⟩, ?_⟩
  have e:=r.length
  simp only [Array.length_toList] at e
  omega
theorem Inv.tuple (I:Inv X pins σ H s) (h:SqT X.K H a xs):∃ its:List Value,ZE xs its/\IsTup s.heap a its.toArray/\xs.length<=sizeLine:=by
 rcases h with h | ⟨o,its,n,hk,hc,hs,hz,r⟩
 ·obtain ⟨z,its,r,p⟩:=h.ok I.hok
  exact ⟨its,r,p,z⟩
 ·refine ⟨its.toList,r,⟨o,I.kIn a o hk,hc,n,by simpa using hs⟩, ?_⟩
  have e:=r.length
  simp only [Array.length_toList] at e
  omega
theorem Inv.list_inj (I:Inv X pins σ H s) (h:SqL X.K H a xs) (h' :SqL X.K H a ys):xs=ys:=by
 obtain ⟨its,r,⟨o,n,e,_,_,d⟩,_⟩:=I.list h
 obtain ⟨its',r',⟨o',n',e',_,_,d'⟩,_⟩:=I.list h'
 rw [e] at e'; cases e'
 rw [d] at d'
 injection d' with d1 _
 have:its=its' :=by simpa using congrArg Array.toList d1
 subst this
 exact r.inj r'
theorem Inv.tuple_inj (I:Inv X pins σ H s) (h:SqT X.K H a xs) (h' :SqT X.K H a ys):xs=ys:=by
 obtain ⟨its,r,⟨o,e,_,n,d⟩,_⟩:=I.tuple h
 obtain ⟨its',r',⟨o',e',_,n',d'⟩,_⟩:=I.tuple h'
 rw [e] at e'; cases e'
 rw [d] at d'
 injection d' with d1 _
 have:its=its' :=by simpa using congrArg Array.toList d1
 subst this
 exact r.inj r'
end
abbrev Cx.wish (X:Cx) (E:Value->Shared->Prop):Cx:={ X with xe:=E }
abbrev Cx.nox (X:Cx):Cx:=X.wish fun _ _=>False
theorem Cx.Ok.wish {X:Cx} (ok:X.Ok) (E:Value->Shared->Prop):(X.wish E).Ok:=
 ⟨ok.mod,ok.kind,ok.glob,ok.blt,ok.above,ok.inj,ok.has,ok.cab,ok.hd,ok.frames,ok.stk,ok.exf,ok.bs,ok.bsz,ok.noex,ok.exfs,ok.funs,ok.frf⟩
theorem Cx.Ok.unwish {X:Cx} {E:Value->Shared->Prop} (ok:(X.wish E).Ok):X.Ok:=
 ⟨ok.mod,ok.kind,ok.glob,ok.blt,ok.above,ok.inj,ok.has,ok.cab,ok.hd,ok.frames,ok.stk,ok.exf,ok.bs,ok.bsz,ok.noex,ok.exfs,ok.funs,ok.frf⟩
section
variable {X:Cx} {pins:List (Addr×Obj)} {σ:St} {H:Hp} {s:Shared} {E:Value->Shared->Prop}
theorem Inv.wish (I:Inv X pins σ H s) (E:Value->Shared->Prop):Inv (X.wish E) pins σ H s:=⟨I.ok.wish E,I.os,I.bare,I.base,I.loc,I.cell,I.free,I.freeC,I.pin,I.hok,I.len⟩
theorem Inv.unwish (I:Inv (X.wish E) pins σ H s):Inv X pins σ H s:=⟨I.ok.unwish,I.os,I.bare,I.base,I.loc,I.cell,I.free,I.freeC,I.pin,I.hok,I.len⟩
theorem SP.unwish {D:QE} {f:Flow} {s' :Shared} (h:SP (X.wish E) pins D f s'):SP X pins D f s' :=by
 cases f with
 | next=>obtain ⟨σ',H',I,q⟩:=h; exact ⟨σ',H',I.unwish,q⟩
 | brk=>obtain ⟨σ',H',I,q⟩:=h; exact ⟨σ',H',I.unwish,q⟩
 | cont=>obtain ⟨σ',H',I,q⟩:=h; exact ⟨σ',H',I.unwish,q⟩
 | ret u=>obtain ⟨v,σ',H',I,r,q⟩:=h; exact ⟨v,σ',H',I.unwish,r,q⟩
theorem PSs.nox {st:List Stmt} {t:TS} (h:PSs X.nox st t):PSs X st t:=fun pins s σ H D I hw=>
 wpAny_mono (h pins s σ H D (I.wish _) hw) (fun _ _ q=>q.unwish) fun _ _ z=>False.elim z
end
section
variable {X:Cx} {st:Stmt} {rest:List Stmt} {t u:TS} {e:Expr} {te:TE} {pos:Pos}
def gm:TS:=fun D σ H=>D.nx σ H
def tSeq (t u:TS):TS:=fun D σ H=>t { D with nx:=u D } σ H
theorem VG:PSs X [] gm:=fun _ _ σ H _ I h=>wpAny_execs_nil ⟨σ,H,I,h⟩
theorem QG (h1:PS X st t) (h2:PSs X rest u):PSs X (st :: rest) (tSeq t u):=by
 intro pins s σ H D I h
 refine wpAny_execs_cons (thn (h1 pins s σ H { D with nx:=u D } I h) fun f s1 q=> ?_)
 cases f with
 | next=>
  obtain ⟨σ',H',I',q⟩:=q
  exact h2 pins s1 σ' H' D I' q
 | ret v=>exact q
 | brk=>exact q
 | cont=>exact q
theorem Yf (h1:PS X st t):PSs X [st] t:=by
 intro pins s σ H D I h
 refine wpAny_execs_cons (thn (h1 pins s σ H D I h) fun f s1 q=> ?_)
 cases f with
 | next=>exact wpAny_execs_nil q
 | ret v=>exact q
 | brk=>exact q
 | cont=>exact q
theorem Inv.quiet {pins:List (Addr×Obj)} {σ:St} {H:Hp} {s:Shared} (I:Inv X pins σ H s):interactive X.env=false:=by simp [interactive,I.ok.kind]
def gp (te:TE):TS:=fun D σ H=>te σ H fun _ H1=>D.nx σ H1
theorem U4 (he:PE X e te) (hs:swapsWith e none pos.line X.env=pure false:=by rfl):PS X (.Expr e pos) (gp te):=by
 intro pins s σ H D I h
 exact wpAny_Expr_any (thn (he pins s σ H _ I h) fun v s1 ⟨x,H1,I1,r1,q1⟩=>⟨σ,H1,I1,q1⟩) I.quiet hs
def tRet (te:TE):TS:=fun D σ H=>te σ H D.rt
theorem XR (he:PE X e te):PS X (.Return (some e) pos) (tRet te):=by
 intro pins s σ H D I h
 exact wpAny_Return_some (thn (he pins s σ H _ I h) fun v s1 ⟨x,H1,I1,r1,q1⟩=>⟨x,σ,H1,I1,r1,q1⟩)
def tIfS (c:TT) (t u:TS):TS:=fun D σ H=>c σ H fun b H1=>if b=true then t D σ H1 else u D σ H1
theorem gq {c:Expr} {a b:List Stmt} {tc:TT} (hc:PT X c tc) (ha:PSs X a t) (hb:PSs X b u):PS X (.If c a b pos) (tIfS tc t u):=by
 intro pins s σ H D I h
 refine wpAny_If (thn (hc pins s σ H _ I h) fun d s1 ⟨H1,I1,q1⟩=> ?_)
 cases d with
 | true=>exact ha pins s1 σ H1 D I1 q1
 | false=>exact hb pins s1 σ H1 D I1 q1
end
abbrev TG:=V->St->Hp->(St->Hp->Prop)->Prop
abbrev TGs:=List V->St->Hp->(St->Hp->Prop)->Prop
def PG (X:Cx) (target:Expr) (t:TG):Prop:=
 ∀ (pins:List (Addr×Obj)) (s:Shared) (σ:St) (H:Hp) (v:V) (u:Value) (Q:St->Hp->Prop),Inv X pins σ H s->ZL v u->t v σ H Q->
  wpAny (model X.prog X.w) X.A (assign target X.env u) (fun _ s' =>∃ σ' H',Inv X pins σ' H' s' /\Q σ' H') X.xe s
def PGs (X:Cx) (ts:List Expr) (t:TGs):Prop:=
 ∀ (pins:List (Addr×Obj)) (s:Shared) (σ:St) (H:Hp) (vs:List V) (us:List Value) (Q:St->Hp->Prop),Inv X pins σ H s->ZE vs us->t vs σ H Q->
  wpAny (model X.prog X.w) X.A (assignInOrder ((assignEach ts X.env).map (·.2)) us) (fun _ s' =>∃ σ' H',Inv X pins σ' H' s' /\Q σ' H') X.xe s
section
variable {X:Cx} {pos:Pos}
def u5 (i:Nat):TG:=fun v σ H Q=>Q (σ.set i (some v)) H
theorem zu {i:Nat} {x:Str} (hN:X.N.Nodup) (hi:X.N[i]? =some x) (hx:Loc X.env.scope x) (hf:X.fn x=true\/X.env.scope.names.lookup x=some .local:=by first | exact .inl rfl | exact .inr rfl | assumption):PG X (.Name x pos) (u5 i):=by
 intro pins s σ H v u Q I r h
 exact wpAny_assign_Name (Jp I hN hi hx r (fun s' I' =>⟨_,H,I',h⟩) hf)
def gr:TGs:=fun vs σ H Q=>vs=[]/\Q σ H
def Yg (t:TG) (u:TGs):TGs:=fun vs σ H Q=>∃ v r,vs=v :: r/\t v σ H fun σ' H' =>u r σ' H' Q
theorem JF:PGs X [] gr:=by
 intro pins s σ H vs us Q I r h
 obtain ⟨e,h⟩:=h
 subst e
 cases r
 exact assignInOrder_nil ⟨σ,H,I,h⟩
theorem ZF {e:Expr} {es:List Expr} {t:TG} {u:TGs} (h1:PG X e t) (h2:PGs X es u)
  (hs:(assignEach (e :: es) X.env).map (·.2)=assign e X.env :: (assignEach es X.env).map (·.2):=by rfl):PGs X (e :: es) (Yg t u):=by
 intro pins s σ H vs us Q I r h
 obtain ⟨v,vr,e1,h⟩:=h
 subst e1
 cases r with
 | cons r rr=>
  rw [hs]
  refine assignInOrder_cons (thn (h1 pins s σ H _ _ _ I r h) fun _ s1 ⟨σ1,H1,I1,q1⟩=> ?_)
  exact h2 pins s1 σ1 H1 _ _ Q I1 rr q1
def gs (K:PySem.W.Frag) (n:Nat) (t:TGs):TG:=fun v σ H Q=>∃ a xs,v= .ref a/\SqT K H a xs/\xs.length=n/\t xs σ H Q
theorem W2 {es:List Expr} {k:Nat} {t:TGs} {n:Nat} (hc:X.calm=true) (h:PGs X es t)
  (hn:(assignEach es X.env).length=n:=by rfl) (hst:(assignEach es X.env).findIdx? (·.1)=none:=by rfl):PG X (.Tuple es k pos) (gs X.K n t):=by
 intro pins s σ H v u Q I r hw
 obtain ⟨a,xs,e1,hq,hl,hw⟩:=hw
 subst e1
 cases r
 obtain ⟨its,rv,ht,hz⟩:=I.tuple hq
 refine assign_Tuple_tuple (I.ok.hd hc) ht (by simp [hn,← hl,rv.length]) hst fun h' hx=> ?_
 have I1:Inv X pins σ H { s with heap:=h' }:=I.kept (t' :=s.toks) fun b o e=>hx b o (Nat.ne_of_lt (Heap.lt_size e)) e
 exact h pins _ σ H xs _ Q I1 (by simpa using rv) hw
def tAsg (te:TE) (g:TG):TS:=fun D σ H=>te σ H fun x H1=>g x σ H1 D.nx
theorem UG {i:Nat} {x:Str} {e:Expr} {te:TE} {pos' :Pos} (hN:X.N.Nodup) (hi:X.N[i]? =some x) (hx:Loc X.env.scope x) (he:PE X e te) (hs:swapsWith e (some (.Name x pos')) pos.line X.env=pure false:=by rfl) (hf:X.fn x=true\/X.env.scope.names.lookup x=some .local:=by first | exact .inl rfl | exact .inr rfl | assumption):
  PS X (.Assign [.Name x pos'] e pos) (tAsg te (u5 i)):=by
 intro pins s σ H D I h
 refine wpAny_Assign_Name (thn (he pins s σ H _ I h) fun v s1 ⟨y,H1,I1,r1,q1⟩=> ?_) hs
 exact Jp I1 hN hi hx r1 (fun s2 I2=>⟨_,H1,I2,q1⟩) hf
def tPar (i j:Nat) (ta:TA):TS:=fun D σ H=>ta σ H fun vs H1=>∃ v w,vs=[v,w]/\D.nx ((σ.set i (some v)).set j (some w)) H1
theorem XS {i j:Nat} {x y:Str} {a b:Expr} {ta:TA} {px py pt:Pos} {kt k2 pt2} (hc:X.calm=true) (hN:X.N.Nodup) (hi:X.N[i]? =some x) (hj:X.N[j]? =some y) (hij:i ≠ j)
  (hx:X.env.scope.names.lookup x=some .local) (hy:X.env.scope.names.lookup y=some .local) (ha:PA X [a,b] ta)
  (hw:swappedStores [.Tuple [.Name x px, .Name y py] kt pt] (.Tuple [a,b] k2 pt2) X.env=pure (some [x,y]))
  (hs:swapsWithSole [.Tuple [.Name x px, .Name y py] kt pt] (.Tuple [a,b] k2 pt2) pos.line X.env=pure false:=by rfl):
  PS X (.Assign [.Tuple [.Name x px, .Name y py] kt pt] (.Tuple [a,b] k2 pt2) pos) (tPar i j ta):=by
 intro pins s σ H D I h
 rw [exec_Assign_arm]
 refine wpAny_bind (wpAny_standAt ?_)
 rw [hs]
 refine wpAny_bind (wpAny_pure ?_)
 rw [if_neg (by decide)]
 refine wpAny_bind (Tuple_ (thn (ha _ pins s σ H _ I h) fun us s1 ⟨vs,H1,I1,r1,q1⟩=> ?_))
 obtain ⟨v,w,e1,q1⟩:=q1
 subst e1
 obtain ⟨u1,u2,rfl,rv,rw'⟩:∃ u1 u2,us=[u1,u2]/\ZL v u1/\ZL w u2:=by
  cases r1 with
  | cons p q=>
   cases q with
   | cons p' q' =>
    cases q'
    exact ⟨_,_,rfl,p,p'⟩
 refine wpAny_newObj_type ?_ (by show 2<=sizeLine; decide)
 have I2:Inv X pins σ H1 { s1 with heap:=s1.heap.push { cls:= .type "tuple",data:= .seq [u1,u2].toArray } }:=I1.kept (t' :=s1.toks) fun b o e=>Heap.get?_push_of_some _ e
 rw [hw]
 refine wpAny_bind (wpAny_pure ?_)
 show wpAny (model X.prog X.w) X.A (do rule "assign.swapped-stores"; let items ← unpackItems (.ref s1.heap.objs.size) 2 none; assignInOrder [fun v=>bindName X.env y v,fun v=>bindName X.env x v] items.reverse; pure Flow.next) _ _ _
 refine wpAny_bind (wpAny_rule (wpAny_bind (unpackItems_tuple (items:= #[u1,u2]) (I.ok.hd hc) (IsTup.new s1.heap _) fun h' hx' => ?_)))
 have I3:=I2.kept (h' :=h') (t' :=s1.toks) fun b o e=>hx' b o (Nat.ne_of_lt (Heap.lt_size e)) e
 show wpAny _ _ (assignInOrder [fun v=>bindName X.env y v,fun v=>bindName X.env x v] [u2,u1] >>= fun _=>pure Flow.next) _ _ _
 refine wpAny_bind (assignInOrder_cons (wpAny_bindName (Jp I3 hN hj (.inl hy) rw' (fun s2 I4=> ?_) (.inr hy))))
 refine assignInOrder_cons (wpAny_bindName (Jp I4 hN hi (.inl hx) rv (fun s3 I5=>assignInOrder_nil (wpAny_pure ?_)) (.inr hx)))
 rw [List.set_comm _ _ (Ne.symm hij)] at I5
 exact ⟨_,H1,I5,q1⟩
end
section
variable {X:Cx} {pos:Pos}
def XT (c:TT) (tb:TS):TS:=fun D σ H=>∃ W:Nat->St->Hp->Prop,(∃ m,W m σ H)/\∀ m σ H,W m σ H->
 c σ H fun b H1=>if b=true then ∃ N:St->Hp->Prop,(∀ σ' H',N σ' H' ->∃ m',m' < m/\W m' σ' H')/\tb { D with nx:=N,ct:=N,bk:=D.nx } σ H1 else D.nx σ H1
theorem QH {c:Expr} {body:List Stmt} {tc:TT} {tb:TS} (hp:PassesOwn (model X.prog X.w) X.A X.env X.xe) (hc:PT X c tc) (hb:PSs X body tb):PS X (.While c body [] pos) (XT tc tb):=by
 intro pins s σ H D I h
 obtain ⟨W,⟨m0,w0⟩,turn⟩:=h
 refine wpAny_While (codeAny_whileLoop (fun n s' =>∃ σ' H',Inv X pins σ' H' s' /\W n σ' H') ?_ m0 ⟨σ,H,I,w0⟩)
 rintro n s1 ⟨σ1,H1,I1,w1⟩
 refine wpAny_passesOwn hp (thn (hc pins s1 σ1 H1 _ I1 (turn n σ1 H1 w1)) fun b s2 ⟨H2,I2,q2⟩=> ?_)
 cases b with
 | true=>
  obtain ⟨N,hN,q2⟩:=q2
  rw [if_pos rfl]
  refine wpAny_passesOwn hp (thn (hb pins s2 σ1 H2 _ I2 q2) fun f s3 q3=> ?_)
  cases f with
  | next=>
   obtain ⟨σ3,H3,I3,n3⟩:=q3
   obtain ⟨m',hm,w3⟩:=hN σ3 H3 n3
   exact ⟨m',hm,σ3,H3,I3,w3⟩
  | cont=>
   obtain ⟨σ3,H3,I3,n3⟩:=q3
   obtain ⟨m',hm,w3⟩:=hN σ3 H3 n3
   exact ⟨m',hm,σ3,H3,I3,w3⟩
  | brk=>exact q3
  | ret v=>exact q3
 | false=>
  rw [if_neg Bool.false_ne_true]
  exact wpAny_execs_nil ⟨σ1,H2,I2,q2⟩
end
structure It where
 go:Nat->Hp->Prop
 yld:Nat->Hp->V->Hp->Prop
 stop:Nat->Hp->Prop
def uY (X:Cx) (pins:List (Addr×Obj)) (H:Hp) (b:Addr):Prop:=
 H b=none/\b ≠ X.env.locals/\b ∉ X.fs/\(b∈X.ex\/X.s₀.heap.objs.size<=b)/\(∀ x c,X.env.cells.lookup x=some c->c ≠ b)/\∀ p∈X.pn++pins,p.1 ≠ b
theorem Inv.fpOk {X:Cx} {pins:List (Addr×Obj)} {σ:St} {H H' :Hp} {s:Shared} {b:Addr} (I:Inv X pins σ H s) (hb:s.heap.objs.size<=b) (hn:H' b=none):uY X pins H' b:=by
 refine ⟨hn,Nat.ne_of_gt (Nat.lt_of_lt_of_le I.lt hb),I.nofs hb, .inr (Nat.le_trans I.sz hb),fun x c e z=> ?_,fun p hp z=> ?_⟩
 ·obtain ⟨v,q⟩:=I.cell x c e
  exact absurd (Nat.lt_of_lt_of_le q.lt (by rw [z]; exact hb)) (Nat.lt_irrefl _)
 ·exact absurd (Nat.lt_of_lt_of_le (Heap.lt_size (I.pin p hp).1) (by rw [z]; exact hb)) (Nat.lt_irrefl _)
structure Qx (P:Program) (w:World) (K:PySem.W.Frag) (tg:Expr) (J:It) (fp:List Addr) (it:Addr) (tn:Nat->Heap->Prop):Prop where
 mem:it∈fp
 obj:∀ i h,tn i h->∀ b∈fp,∃ o,h.get? b=some o/\∀ v,o.data ≠ .cell v
 keep:∀ i h h',tn i h->(∀ b∈fp,∀ o,h.get? b=some o->h'.get? b=some o)->tn i h'
 item:∀ (X:Cx),X.prog=P->X.w=w->X.K=K->X.calm=true->∀ (i:Nat) (pins:List (Addr×Obj)) (s:Shared) (σ:St) (H:Hp) (E:Value->Shared->Prop),Inv X pins σ H s->(∀ b∈fp,uY X pins H b)->tn i s.heap->J.go i H->
  wpAny (model P w) X.A (pyNext (.ref it)) (fun r s1=>∃ u,r=some u/\
   wpAny (model P w) X.A (letOwnedTupleGo tg (.ref it) u) (fun _ s2=>∃ x H',Inv X pins σ H' s2/\ZL x u/\J.yld i H x H' /\tn (i+1) s2.heap/\∀ b∈fp,H' b=none) E s1) E s
 done:∀ (X:Cx),X.prog=P->X.w=w->X.K=K->X.calm=true->∀ (i:Nat) (pins:List (Addr×Obj)) (s:Shared) (σ:St) (H:Hp) (E:Value->Shared->Prop),Inv X pins σ H s->(∀ b∈fp,uY X pins H b)->tn i s.heap->J.stop i H->
  wpAny (model P w) X.A (pyNext (.ref it)) (fun r s1=>r=none/\Inv X pins σ H s1) E s
 self:∀ (A:Around) (i:Nat) (s:Shared) (Q:Value->Shared->Prop) (E:Value->Shared->Prop),tn i s.heap->Q (.ref it) s->wpAny (model P w) A (pyIter (.ref it)) Q E s
abbrev TI:=St->Hp->(It->Hp->Prop)->Prop
def PIE (X:Cx) (pins:List (Addr×Obj)) (σ:St) (tg:Expr) (R:It->Hp->Prop) (itv:Value) (s2:Shared):Prop:=
 ∃ (it:Addr) (fp:List Addr) (tn:Nat->Heap->Prop) (J:It) (H' :Hp),itv= .ref it/\Inv X pins σ H' s2/\Qx X.prog X.w X.K tg J fp it tn/\tn 0 s2.heap/\(∀ b∈fp,uY X pins H' b)/\R J H'
def PI (X:Cx) (tg iter:Expr) (wi:TI):Prop:=
 ∀ (pins:List (Addr×Obj)) (s:Shared) (σ:St) (H:Hp) (R:It->Hp->Prop),Inv X pins σ H s->wi σ H R->
  wpAny (model X.prog X.w) X.A (eval iter X.env) (fun v s1=>wpAny (model X.prog X.w) X.A (pyIter v) (PIE X pins σ tg R) X.xe s1) X.xe s
theorem QI {M:Model} {A:Around} {E:Value->Shared->Prop} {s:Shared} {tg:Expr} {it:Addr} {u:Value} {o:Obj} {n:String} {vs:Array Value} {Q:Unit->Shared->Prop} (ho:s.heap.get? it=some o) (hc:o.cls= .type n) (hd:o.data= .fields vs)
  (hn:["enumerate","zip","dict_itemiterator","dict_reverseitemiterator","odict_iterator","itertools.zip_longest","itertools.pairwise"].contains n=false) (hQ:Q () s):wpAny M A (letOwnedTupleGo tg (.ref it) u) Q E s:=by
 unfold letOwnedTupleGo
 cases tg <;> first
  | exact wpAny_pure hQ
  | (cases u <;> first
    | exact wpAny_pure hQ
    | (refine wpAny_bind (wpAny_load ho ?_); rw [hc,hd]; show wpAny M A (if (["enumerate","zip","dict_itemiterator","dict_reverseitemiterator","odict_iterator","itertools.zip_longest","itertools.pairwise"].contains n && vs[0]? == some (rawInt _))=true then _ else _) Q E s; rw [if_neg (by intro h; rw [hn,Bool.false_and] at h; cases h)]; exact wpAny_pure hQ))
def Itl (K:PySem.W.Frag) (a:Addr):It:=
 ⟨fun i H=>∃ xs x,SqL K H a xs/\xs[i]? =some x,fun i H x H' =>H' =H/\∀ xs,SqL K H a xs->xs[i]? =some x,fun i H=>∃ xs,SqL K H a xs/\xs.length<=i⟩
def Itt (K:PySem.W.Frag) (a:Addr):It:=
 ⟨fun i H=>∃ xs x,SqT K H a xs/\xs[i]? =some x,fun i H x H' =>H' =H/\∀ xs,SqT K H a xs->xs[i]? =some x,fun i H=>∃ xs,SqT K H a xs/\xs.length<=i⟩
def Itr (lo:Int) (n:Nat):It:=⟨fun i _=>i < n,fun i H x H' =>H' =H/\x= .int (lo+i),fun i _=>n<=i⟩
theorem Yh {P:Program} {w:World} {K:PySem.W.Frag} {tg:Expr} (a it:Addr):Qx P w K tg (Itl K a) [it] it (fun i h=>h.IsListIter it a i) where
 mem:=by simp
 obj:=fun i h st b hb=>by
  have e:b=it:=by simpa using hb
  subst e
  obtain ⟨o,e,c,d⟩:=st
  exact ⟨o,e,fun v z=>by rw [d] at z; cases z⟩
 keep:=fun i h h' st k=>st.at fun o e=>k it (by simp) o e
 item:=by
  intro X hP hw hK hc i pins s σ H E I hf st hg
  subst hP hw hK
  obtain ⟨xs,x,hq,hx⟩:=hg
  obtain ⟨its,rv,p,hz⟩:=I.list hq
  obtain ⟨u,hu,ru⟩:=rv.get hx
  obtain ⟨f0,f1,f2,f3,f4,f5⟩:=hf it (by simp)
  refine wpAny_pyNext_list_item st p.isList (x:=u) (by simpa using hu) fun h' st' sb=> ?_
  have I1:Inv X pins σ H { s with heap:=h' }:=I.turned (t' :=s.toks) (fun b o hb e=>(sb.2 b hb).trans e) f0 f1 f3 f4 f5
  obtain ⟨o,e,c,d⟩:=id st'
  exact ⟨u,rfl,QI (s:={ s with heap:=h' }) e c d (by decide) ⟨x,H,I1,ru,⟨rfl,fun ys hy=>by rw [I.list_inj hy hq]; exact hx⟩,st',fun b hb=>(hf b hb).1⟩⟩
 done:=by
  intro X hP hw hK hc i pins s σ H E I hf st hg
  subst hP hw hK
  obtain ⟨xs,hq,hx⟩:=hg
  obtain ⟨its,rv,p,hz⟩:=I.list hq
  obtain ⟨f0,f1,f2,f3,f4,f5⟩:=hf it (by simp)
  have hl:=rv.length
  exact wpAny_pyNext_list_end (I.ok.hd hc) st p.isList (by simp; omega) fun h' eb=>⟨rfl,I.turned (t' :=s.toks) (fun b o hb e=>eb b o hb e) f0 f1 f3 f4 f5⟩
 self:=fun _ _ _ _ _ st h=>wpAny_pyIter_listiter st h
theorem yw {P:Program} {w:World} {K:PySem.W.Frag} {tg:Expr} (a it:Addr):Qx P w K tg (Itt K a) [it] it (fun i h=>h.IsTupleIter it a i) where
 mem:=by simp
 obj:=fun i h st b hb=>by
  have e:b=it:=by simpa using hb
  subst e
  obtain ⟨o,e,c,d⟩:=st
  exact ⟨o,e,fun v z=>by rw [d] at z; cases z⟩
 keep:=fun i h h' st k=>st.at fun o e=>k it (by simp) o e
 item:=by
  intro X hP hw hK hc i pins s σ H E I hf st hg
  subst hP hw hK
  obtain ⟨xs,x,hq,hx⟩:=hg
  obtain ⟨its,rv,p,hz⟩:=I.tuple hq
  obtain ⟨u,hu,ru⟩:=rv.get hx
  obtain ⟨f0,f1,f2,f3,f4,f5⟩:=hf it (by simp)
  refine wpAny_pyNext_tuple_item st (show s.heap.IsTuple a its.toArray from p) (x:=u) (by simpa using hu) fun h' st' sb=> ?_
  have I1:Inv X pins σ H { s with heap:=h' }:=I.turned (t' :=s.toks) (fun b o hb e=>(sb.2 b hb).trans e) f0 f1 f3 f4 f5
  obtain ⟨o,e,c,d⟩:=id st'
  exact ⟨u,rfl,QI (s:={ s with heap:=h' }) e c d (by decide) ⟨x,H,I1,ru,⟨rfl,fun ys hy=>by rw [I.tuple_inj hy hq]; exact hx⟩,st',fun b hb=>(hf b hb).1⟩⟩
 done:=by
  intro X hP hw hK hc i pins s σ H E I hf st hg
  subst hP hw hK
  obtain ⟨xs,hq,hx⟩:=hg
  obtain ⟨its,rv,p,hz⟩:=I.tuple hq
  obtain ⟨f0,f1,f2,f3,f4,f5⟩:=hf it (by simp)
  have hl:=rv.length
  exact wpAny_pyNext_tuple_end (I.ok.hd hc) st (show s.heap.IsTuple a its.toArray from p) (by simp; omega) fun h' eb=>⟨rfl,I.turned (t' :=s.toks) (fun b o hb e=>eb b o hb e) f0 f1 f3 f4 f5⟩
 self:=fun _ _ _ _ _ st h=>wpAny_pyIter_tupleiter st h
theorem yx {P:Program} {w:World} {K:PySem.W.Frag} {tg:Expr} (it:Addr) (lo:Int) (n:Nat):Qx P w K tg (Itr lo n) [it] it (fun i h=>IsRangeIter h it (lo+(i:Nat)*1) ((n:Int) - (i:Nat)) 1) where
 mem:=by simp
 obj:=fun i h st b hb=>by
  have e:b=it:=by simpa using hb
  subst e
  exact ⟨_,st,fun v z=>by
   have z' :Data.fields _=Data.cell v:=z
   cases z'⟩
 keep:=fun i h h' st k=>k it (by simp) _ st
 item:=by
  intro X hP hw hK hc i pins s σ H E I hf st hg
  subst hP hw hK
  obtain ⟨f0,f1,f2,f3,f4,f5⟩:=hf it (by simp)
  have W:=Walks.range (prog:=X.prog) (w:=X.w) (I.ok.hd hc) it lo 1 n
  refine W.item i s _ _ hg st fun v h' tk hv st' kk=> ?_
  obtain ⟨t,rfl⟩:=hv
  have I1:Inv X pins σ H { s with heap:=h',toks:=tk }:=I.turned (fun b o hb e=>kk b o (by simpa using hb) e) f0 f1 f3 f4 f5
  refine ⟨_,rfl,QI (s:={ s with heap:=h',toks:=tk }) (n:="range_iterator") st' rfl rfl (by decide) ⟨.int (lo+i),H,I1,⟨t, ?_⟩,⟨rfl,rfl⟩,st',fun b hb=>(hf b hb).1⟩⟩
  rw [Int.mul_one]
 done:=by
  intro X hP hw hK hc i pins s σ H E I hf st hg
  subst hP hw hK
  obtain ⟨f0,f1,f2,f3,f4,f5⟩:=hf it (by simp)
  exact wpAny_pyNext_range_end (I.ok.hd hc) st (by have:n<=i:=hg; omega) fun h' eb=>⟨rfl,I.turned (t' :=s.toks) (fun b o hb e=>eb b o hb e) f0 f1 f3 f4 f5⟩
 self:=fun _ _ _ _ _ st h=>wpAny_pyIter_rangeiter st h
end L2
namespace L2
open PySem PySem.Spec PyProof.Rows
section
variable {X:Cx} {tg:Expr}
theorem UH {pins:List (Addr×Obj)} {σ:St} {H:Hp} {s:Shared} {R:It->Hp->Prop} {E:Value->Shared->Prop} {lo hi:Int} {t u v:Tok} {tk:Nat} (I:Inv X pins σ H s) (h1: -(2 ^ 62)<=lo) (h2:lo < 2 ^ 62) (h3: -(2 ^ 62)<=hi) (h4:hi < 2 ^ 62)
  (q:R (Itr lo (hi - lo).toNat) H):wpAny (model X.prog X.w) X.A (pyIter (.ref s.heap.objs.size)) (PIE X pins σ tg R) E { s with heap:=s.heap.push { cls:= .type "range",data:= .fields #[.int lo t, .int hi u, .int 1 v] },toks:=tk }:=by
 refine wpAny_pyIter_range (IsRange.new ..) (small_one h1 h2 h3 h4) ?_
 have I1:Inv X pins σ H { s with heap:=s.heap.push { cls:= .type "range",data:= .fields #[.int lo t, .int hi u, .int 1 v] },toks:=tk }:=I.kept fun b o e=>Heap.get?_push_of_some _ e
 refine ⟨(s.heap.push { cls:= .type "range",data:= .fields #[.int lo t, .int hi u, .int 1 v] }).objs.size,[(s.heap.push { cls:= .type "range",data:= .fields #[.int lo t, .int hi u, .int 1 v] }).objs.size],_,_,H,rfl,
  I1.kept (t' :=tk) fun b o e=>Heap.get?_push_of_some _ e,yx _ lo (hi - lo).toNat, ?_,fun b hb=> ?_,q⟩
 ·have e1:lo+((0:Nat):Int)*1=lo:=by simp
  have e2:(((hi - lo).toNat:Nat):Int) - ((0:Nat):Int)=Builtin.Range.rangeSize lo hi 1:=by rw [rangeSize_one]; split <;> omega
  show IsRangeIter _ _ (lo+((0:Nat):Int)*1) ((((hi - lo).toNat:Nat):Int) - ((0:Nat):Int)) 1
  rw [e1,e2]
  exact Heap.get?_push_size _ rfl
 ·have e:b=(s.heap.push { cls:= .type "range",data:= .fields #[.int lo t, .int hi u, .int 1 v] }).objs.size:=by simpa using hb
  subst e
  exact I1.fpOk (Nat.le_refl _) (I1.hok.fresh (Nat.le_refl _))
def gu (ta:TA):TI:=fun σ H R=>ta σ H fun vs H1=>∃ j:Int,vs=[.int j]/\ -(2 ^ 62)<=j/\j < 2 ^ 62/\R (Itr 0 j.toNat) H1
def gv (ta:TA):TI:=fun σ H R=>ta σ H fun vs H1=>∃ i j:Int,vs=[.int i, .int j]/\(-(2 ^ 62)<=i/\i < 2 ^ 62/\ -(2 ^ 62)<=j/\j < 2 ^ 62)/\R (Itr i (j - i).toNat) H1
theorem Yi {a:Expr} {ta:TA} {p pos:Pos} (hg:Gl X "range") (hm:X.mg "range"=none) (ha:PA X [a] ta) (hs:starEach [a] X.env=[(false,eval a X.env)]:=by rfl):PI X tg (.Call (.Name "range" p) [a] [] pos) (gu ta):=by
 intro pins s σ H R I h
 refine Call_ (JU I hg hm boot_range (PyProof.Rows.callWith_type1 (thn (ha pos pins s σ H _ I h) fun us s1 ⟨vs,H1,I1,r1,q1⟩=> ?_) hs rfl))
 obtain ⟨j,e,q1,q2,q⟩:=q1
 subst e
 cases r1 with
 | cons r rr=>
  cases rr
  obtain ⟨t,rfl⟩:=r
  exact call_range_1 (UH I1 (by omega) (by omega) q1 q2 (by simpa using q))
theorem Yj {a b:Expr} {ta:TA} {p pos:Pos} (hg:Gl X "range") (hm:X.mg "range"=none) (ha:PA X [a,b] ta) (hs:starEach [a,b] X.env=[(false,eval a X.env),(false,eval b X.env)]:=by rfl) (hs2:starEach [b] X.env=[(false,eval b X.env)]:=by rfl):
  PI X tg (.Call (.Name "range" p) [a,b] [] pos) (gv ta):=by
 intro pins s σ H R I h
 refine Call_ (JU I hg hm boot_range (PyProof.Rows.callWith_type1 (thn (ha pos pins s σ H _ I h) fun us s1 ⟨vs,H1,I1,r1,q1⟩=> ?_) (by rw [hs,hs2]) (by rw [hs2]; rfl)))
 obtain ⟨i,j,e,⟨q1,q2,q3,q4⟩,q⟩:=q1
 subst e
 cases r1 with
 | cons r rr=>
  cases rr with
  | cons r' rr=>
   cases rr
   obtain ⟨t,rfl⟩:=r
   obtain ⟨t',rfl⟩:=r'
   exact call_range_2 (UH I1 q1 q2 q3 q4 q)
def tFor (wi:TI) (g:TG) (tb:TS):TS:=fun D σ H=>wi σ H fun J H1=>∃ W:Nat->Nat->St->Hp->Prop,(∃ m,W 0 m σ H1)/\∀ i m σ H,W i m σ H->
 (J.stop i H/\D.nx σ H)\/(J.go i H/\∃ N:St->Hp->Prop,(∀ σ' H',N σ' H' ->∃ m',m' < m/\W (i+1) m' σ' H')/\∀ x H',J.yld i H x H' ->g x σ H' fun σ2 H2=>tb { D with nx:=N,ct:=N,bk:=D.nx } σ2 H2)
def u6 (fp:List Addr) (h:Heap):List (Addr×Obj):=fp.filterMap fun b=>(h.get? b).map fun o=>(b,o)
theorem jY {fp:List Addr} {h:Heap} {b:Addr} {o:Obj} (hb:b∈fp) (e:h.get? b=some o):(b,o)∈u6 fp h:=List.mem_filterMap.mpr ⟨b,hb,by rw [e]; rfl⟩
theorem Yk {fp:List Addr} {h:Heap} {p:Addr×Obj} (hp:p∈u6 fp h):p.1∈fp/\h.get? p.1=some p.2:=by
 obtain ⟨b,hb,e⟩:=List.mem_filterMap.mp hp
 cases q:h.get? b with
 | none=>rw [q] at e; cases e
 | some o=>
  rw [q] at e
  have e' :(b,o)=p:=Option.some.inj e
  subst e'
  exact ⟨hb,q⟩
theorem Inv.pinned {pins:List (Addr×Obj)} {σ:St} {H:Hp} {s:Shared} {fp:List Addr} (I:Inv X pins σ H s) (hf:∀ b∈fp,uY X pins H b) (ho:∀ b∈fp,∃ o,s.heap.get? b=some o/\∀ v,o.data ≠ .cell v):Inv X (pins++u6 fp s.heap) σ H s:=
 I.pins_of fun p hp=>(List.mem_append.mp hp).elim (fun z=>I.pin p (List.mem_append_right _ z)) fun z=>by
  obtain ⟨hb,e⟩:=Yk z
  obtain ⟨f0,f1,f2,_⟩:=hf p.1 hb
  obtain ⟨o,e',d⟩:=ho p.1 hb
  rw [e] at e'; cases e'
  exact ⟨e,f0,f1,f2,d⟩
theorem Inv.unpinned {pins pl:List (Addr×Obj)} {σ:St} {H:Hp} {s:Shared} (I:Inv X (pins++pl) σ H s):Inv X pins σ H s:=I.pins_of fun p hp=>I.pin p (List.mem_append_right _ (List.mem_append_left _ hp))
theorem XU {iter:Expr} {body:List Stmt} {wi:TI} {g:TG} {tb:TS} {pos:Pos} (hp:PassesOwn (model X.prog X.w) X.A X.env X.xe) (hc:X.calm=true) (hi:PI X tg iter wi) (hg:PG X tg g) (hb:PSs X body tb)
  (hs:∀ x,foldedSetIterable iter X.env x=pure x:=by intro _; rfl):PS X (.For tg iter body [] pos) (tFor wi g tb):=by
 intro pins s σ H D I h
 refine wpAny_For (thn (hi pins s σ H _ I h) fun v s1 h1=>thn h1 fun itv s2 h2=> ?_) hs
 obtain ⟨it,fp,tn,J,H2,e,I2,T,st2,f2,W,⟨m0,w0⟩,turn⟩:=h2
 subst e
 have stat:∀ {H' :Hp},(∀ b∈fp,H' b=none)->∀ b∈fp,uY X pins H' b:=fun hn b hb=>⟨hn b hb,(f2 b hb).2⟩
 refine codeAny_forLoop_any (fun n s' =>∃ i σ' H',Inv X pins σ' H' s' /\tn i s'.heap/\(∀ b∈fp,H' b=none)/\W i n σ' H') ?_ m0 ⟨0,σ,H2,I2,st2,fun b hb=>(f2 b hb).1,w0⟩
 rintro n s3 ⟨i,σ3,H3,I3,st3,fr3,w3⟩
 rcases turn i n σ3 H3 w3 with ⟨stop,qn⟩ | ⟨go,N,hN,step⟩
 ·refine wpAny_passesOwn hp (thn (T.done X rfl rfl rfl hc i pins s3 σ3 H3 X.xe I3 (stat fr3) st3 stop) fun r s4 ⟨hr,I4⟩=> ?_)
  subst hr
  exact wpAny_execs_nil ⟨σ3,H3,I4,qn⟩
 ·refine wpAny_passesOwn hp (thn (T.item X rfl rfl rfl hc i pins s3 σ3 H3 X.xe I3 (stat fr3) st3 go) fun r s4 ⟨u,hr,h4⟩=> ?_)
  subst hr
  refine wpAny_passesOwn hp (thn h4 fun _ s5 ⟨x,H5,I5,r5,y5,st5,fr5⟩=> ?_)
  have I5' :=I5.pinned (stat fr5) (T.obj _ _ st5)
  refine wpAny_passesOwn hp (thn (hg _ s5 σ3 H5 x u _ I5' r5 (step x H5 y5)) fun _ s6 ⟨σ6,H6,I6,q6⟩=> ?_)
  refine wpAny_passesOwn hp (thn (hb _ s6 σ6 H6 _ I6 q6) fun f s7 q7=> ?_)
  have again:∀ {σ7:St} {H7:Hp},Inv X (pins++u6 fp s5.heap) σ7 H7 s7->N σ7 H7->∃ m,m < n/\∃ i σ' H',Inv X pins σ' H' s7/\tn i s7.heap/\(∀ b∈fp,H' b=none)/\W i m σ' H' :=fun {σ7 H7} I7 n7=>by
   obtain ⟨m',hm,w7⟩:=hN σ7 H7 n7
   refine ⟨m',hm,i+1,σ7,H7,I7.unpinned,T.keep _ _ _ st5 fun b hb o e=>(I7.pin (b,o) (List.mem_append_right _ (List.mem_append_right _ (jY hb e)))).1,fun b hb=> ?_,w7⟩
   obtain ⟨o,e,d⟩:=T.obj _ _ st5 b hb
   exact (I7.pin (b,o) (List.mem_append_right _ (List.mem_append_right _ (jY hb e)))).2.1
  cases f with
  | next=>obtain ⟨σ7,H7,I7,n7⟩:=q7; exact again I7 n7
  | cont=>obtain ⟨σ7,H7,I7,n7⟩:=q7; exact again I7 n7
  | brk=>obtain ⟨σ7,H7,I7,q7⟩:=q7; exact ⟨σ7,H7,I7.unpinned,q7⟩
  | ret v=>obtain ⟨x7,σ7,H7,I7,r7,q7⟩:=q7; exact ⟨x7,σ7,H7,I7.unpinned,r7,q7⟩
end
end L2
namespace L2
open PySem PySem.Spec PyProof.Rows
abbrev R2:=V->V->Hp->VK->Prop
def OpR (X:Cx) (f:Value->Value->Sem Value) (r:R2):Prop:=
 ∀ (pins:List (Addr×Obj)) (s:Shared) (σ:St) (H:Hp) (x y:V) (v u:Value) (Q:VK),Inv X pins σ H s->ZL x v->ZL y u->r x y H Q->
  wpAny (model X.prog X.w) X.A (f v u) (EP X pins σ Q) X.xe s
def UnR (X:Cx) (f:Value->Sem Value) (r:V->Hp->VK->Prop):Prop:=
 ∀ (pins:List (Addr×Obj)) (s:Shared) (σ:St) (H:Hp) (x:V) (v:Value) (Q:VK),Inv X pins σ H s->ZL x v->r x H Q->
  wpAny (model X.prog X.w) X.A (f v) (EP X pins σ Q) X.xe s
def j4 (X:Cx) (f:Value) (r:List V->Hp->VK->Prop):Prop:=
 ∀ (pins:List (Addr×Obj)) (s:Shared) (σ:St) (H:Hp) (xs:List V) (us:List Value) (Q:VK),Inv X pins σ H s->ZE xs us->r xs H Q->
  wpAny (model X.prog X.w) X.A (call f us) (EP X pins σ Q) X.xe s
def TruR (X:Cx) (r:V->Hp->(Bool->Hp->Prop)->Prop):Prop:=
 ∀ (pins:List (Addr×Obj)) (s:Shared) (σ:St) (H:Hp) (x:V) (v:Value) (Q:Bool->Hp->Prop),Inv X pins σ H s->ZL x v->r x H Q->
  wpAny (model X.prog X.w) X.A (truthy v) (TP X pins σ Q) X.xe s
def tOp (r:R2) (ta tb:TE):TE:=fun σ H Q=>ta σ H fun x H1=>tb σ H1 fun y H2=>r x y H2 Q
def tUn (r:V->Hp->VK->Prop) (ta:TE):TE:=fun σ H Q=>ta σ H fun x H1=>r x H1 Q
def rI (C:Int->Int->Prop) (g:Int->Int->V):R2:=fun x y H Q=>∃ i j,x= .int i/\y= .int j/\C i j/\Q (g i j) H
def rI0 (g:Int->Int->V):R2:=fun x y H Q=>∃ i j,x= .int i/\y= .int j/\Q (g i j) H
def rU (g:Int->V):V->Hp->VK->Prop:=fun x H Q=>∃ i,x= .int i/\Q (g i) H
section
variable {X:Cx} {a b c:Expr} {ta tb tc:TE} {pos:Pos}
theorem gw (ha:PE X a ta) (hb:PE X b tb) {pins:List (Addr×Obj)} {s:Shared} {σ:St} {H:Hp} {R:V->V->Hp->Prop} (I:Inv X pins σ H s)
  (h:ta σ H fun x H1=>tb σ H1 fun y H2=>R x y H2) {Q:Value->Shared->Prop} {f:Value->Value->Sem Value}
  (hf:∀ v u s2 x y H2,Inv X pins σ H2 s2->ZL x v->ZL y u->R x y H2->wpAny (model X.prog X.w) X.A (f v u) Q X.xe s2):
  wpAny (model X.prog X.w) X.A (eval a X.env) (fun v s₁=>wpAny (model X.prog X.w) X.A (eval b X.env) (fun u s₂=>wpAny (model X.prog X.w) X.A (f v u) Q X.xe s₂) X.xe s₁) X.xe s:=by
 refine thn (ha pins s σ H _ I h) fun v s1 ⟨x,H1,I1,r1,q1⟩=> ?_
 refine thn (hb pins s1 σ H1 _ I1 q1) fun u s2 ⟨y,H2,I2,r2,q2⟩=> ?_
 exact hf v u s2 x y H2 I2 r1 r2 q2
theorem gy {op:Operator} {r:R2} (ho:OpR X (binaryOp op) r) (ha:PE X a ta) (hb:PE X b tb):PE X (.BinOp a op b pos) (tOp r ta tb):=by
 intro pins s σ H Q I h
 exact wpAny_BinOp (gw ha hb I h fun v u s2 x y H2 I2 rx ry q=>ho pins s2 σ H2 x y v u Q I2 rx ry q)
theorem gz {op:UnaryOp} {r:V->Hp->VK->Prop} (ho:UnR X (unaryOp op) r) (ha:PE X a ta):PE X (.UnaryOp op a pos) (tUn r ta):=by
 intro pins s σ H Q I h
 exact UnaryOp_ (thn (ha pins s σ H _ I h) fun v s1 ⟨x,H1,I1,r1,q1⟩=>ho pins s1 σ H1 x v Q I1 r1 q1)
theorem opI {f:Value->Value->Sem Value} {C:Int->Int->Prop} {g:Int->Int->Int}
  (rule:∀ (i j:Int) (t u:Tok) (s:Shared) (Q:Value->Shared->Prop) (E:Value->Shared->Prop),C i j->Q (.int (g i j) s.toks) { s with toks:=s.toks+1 }->wpAny (model X.prog X.w) X.A (f (.int i t) (.int j u)) Q E s):
  OpR X f (rI C fun i j=> .int (g i j)):=by
 intro pins s σ H x y v u Q I rx ry h
 obtain ⟨i,j,rfl,rfl,hc,q⟩:=h
 obtain ⟨t,rfl⟩:=rx
 obtain ⟨t',rfl⟩:=ry
 exact rule i j t t' s _ _ hc ⟨.int (g i j),H,I.tok _,⟨_,rfl⟩,q⟩
theorem GV {f:Value->Value->Sem Value} {g:Int->Int->Int}
  (rule:∀ (i j:Int) (t u:Tok) (s:Shared) (Q:Value->Shared->Prop) (E:Value->Shared->Prop),Q (.int (g i j) s.toks) { s with toks:=s.toks+1 }->wpAny (model X.prog X.w) X.A (f (.int i t) (.int j u)) Q E s):
  OpR X f (rI0 fun i j=> .int (g i j)):=by
 intro pins s σ H x y v u Q I rx ry h
 obtain ⟨i,j,rfl,rfl,q⟩:=h
 obtain ⟨t,rfl⟩:=rx
 obtain ⟨t',rfl⟩:=ry
 exact rule i j t t' s _ _ ⟨.int (g i j),H,I.tok _,⟨_,rfl⟩,q⟩
theorem Kv {f:Value->Value->Sem Value} {g:Int->Int->Bool}
  (rule:∀ (i j:Int) (t u:Tok) (s:Shared) (Q:Value->Shared->Prop) (E:Value->Shared->Prop),Q (.bool (g i j)) s->wpAny (model X.prog X.w) X.A (f (.int i t) (.int j u)) Q E s):
  OpR X f (rI0 fun i j=> .bl (g i j)):=by
 intro pins s σ H x y v u Q I rx ry h
 obtain ⟨i,j,rfl,rfl,q⟩:=h
 obtain ⟨t,rfl⟩:=rx
 obtain ⟨t',rfl⟩:=ry
 exact rule i j t t' s _ _ ⟨.bl (g i j),H,I,rfl,q⟩
def CDiv (i j:Int):Prop:=0 < j/\j < 1073741824
def WY (i j:Int):Prop:=(-(2 ^ 64) < i/\i < 2 ^ 64)\/(-(2 ^ 64) < j/\j < 2 ^ 64)
theorem WY.ok {i j:Int} (h:WY i j):IntMulOk i j:=by
 rcases h with ⟨h1,h2⟩ | ⟨h1,h2⟩
 ·exact .of_left (intBits_le_64 h1 h2)
 ·exact .of_right (intBits_le_64 h1 h2)
theorem XV:OpR X (binaryOp .Add) (rI0 fun i j=> .int (i+j)):=GV fun _ _ _ _ _ _ _ q=>add_int q
theorem XW:OpR X (binaryOp .Sub) (rI0 fun i j=> .int (i - j)):=GV fun _ _ _ _ _ _ _ q=>sub_int q
theorem XX:OpR X (binaryOp .Mult) (rI WY fun i j=> .int (i*j)):=opI fun _ _ _ _ _ _ _ hc q=>mul_int q hc.ok
theorem VH:OpR X (binaryOp .FloorDiv) (rI CDiv fun i j=> .int (i / j)):=opI fun i j _ _ _ _ _ hc q=>by
 have h1:(0:Int) < j:=hc.1
 have h2:j < 1073741824:=hc.2
 exact floordiv_int (by omega) (by rw [Int.fdiv_eq_ediv_of_nonneg i (by omega)]; exact q) (.inl (PyProof.noPylong_small (by omega)))
theorem XY:OpR X (binaryOp .Mod) (rI (fun _ j=>0 < j) fun i j=> .int (i % j)):=opI fun i j _ _ _ _ _ hc q=>by
 have h1:(0:Int) < j:=hc
 exact mod_int' (by omega) (by rw [Int.fmod_eq_emod_of_nonneg i (by omega)]; exact q)
theorem unI {f:Value->Sem Value} {g:Int->Int}
  (rule:∀ (i:Int) (t:Tok) (s:Shared) (Q:Value->Shared->Prop) (E:Value->Shared->Prop),Q (.int (g i) s.toks) { s with toks:=s.toks+1 }->wpAny (model X.prog X.w) X.A (f (.int i t)) Q E s):
  UnR X f (rU fun i=> .int (g i)):=by
 intro pins s σ H x v Q I rx h
 obtain ⟨i,rfl,q⟩:=h
 obtain ⟨t,rfl⟩:=rx
 exact rule i t s _ _ ⟨.int (g i),H,I.tok _,⟨_,rfl⟩,q⟩
theorem XZ:UnR X (unaryOp .USub) (rU fun i=> .int (-i)):=unI fun _ _ _ _ _ q=>neg_int q
theorem Yl:OpR X (binaryOp .Add) (fun x y H Q=>∃ i k,x= .int i/\y= .bl k/\Q (.int (i+b2i k)) H):=by
 intro pins s σ H x y v u Q I rx ry h
 obtain ⟨i,k,rfl,rfl,q⟩:=h
 obtain ⟨t,rfl⟩:=rx
 cases ry
 exact add_int_bool ⟨.int (i+b2i k),H,I.tok _,⟨_,rfl⟩,q⟩
end
section
variable {X:Cx} {a b c:Expr} {ta tb tc:TE} {pos:Pos}
theorem gA:OpR X (compareOp .Lt) (rI0 fun i j=> .bl (decide (i < j))):=Kv fun _ _ _ _ _ _ _ q=>lt_int q
theorem gB:OpR X (compareOp .LtE) (rI0 fun i j=> .bl (decide (i<=j))):=Kv fun _ _ _ _ _ _ _ q=>le_int q
theorem gC:OpR X (compareOp .Gt) (rI0 fun i j=> .bl (decide (j < i))):=Kv fun _ _ _ _ _ _ _ q=>gt_int q
theorem gD:OpR X (compareOp .GtE) (rI0 fun i j=> .bl (decide (j<=i))):=Kv fun _ _ _ _ _ _ _ q=>ge_int q
theorem zm (b:Expr) {op:CmpOp} (h:op ≠ .In:=by decide) (h2:op ≠ .NotIn:=by decide):behindInMarks op b=false:=by
 have e1:(op == CmpOp.In)=false:=by cases op <;> first | rfl | exact absurd rfl h
 have e2:(op == CmpOp.NotIn)=false:=by cases op <;> first | rfl | exact absurd rfl h2
 cases b <;> simp [behindInMarks,e1,e2]
theorem VI {op:CmpOp} {r:R2} (ho:OpR X (compareOp op) r) (ha:PE X a ta) (hb:PE X b tb) (hm:behindInMarks op b=false):PE X (.Compare a [op] [b] pos) (tOp r ta tb):=by
 intro pins s σ H Q I h
 exact wpAny_Compare1 (gw ha hb I h fun v u s2 x y H2 I2 rx ry q=>ho pins s2 σ H2 x y v u Q I2 rx ry q) hm
def k6 (t:TE):TT:=fun σ H Q=>t σ H fun x H' =>∃ k,x= .bl k/\Q k H'
theorem Ym {op:CmpOp} {r:R2} (ho:OpR X (compareOp op) r) (ha:PE X a ta) (hb:PE X b tb) (hm:behindInMarks op b=false):PT X (.Compare a [op] [b] pos) (k6 (tOp r ta tb)):=by
 intro pins s σ H Q I h
 refine wpAny_isTrue_Compare1 (thn (ha pins s σ H _ I h) fun v s1 ⟨x,H1,I1,r1,q1⟩=>thn (hb pins s1 σ H1 _ I1 q1) fun u s2 ⟨y,H2,I2,r2,q2⟩=>
  thn (ho pins s2 σ H2 x y v u _ I2 r1 r2 q2) fun c s3 ⟨z,H3,I3,r3,k,e,q3⟩=> ?_) hm
 subst e
 cases r3
 exact wpAny_truthy_bool ⟨H3,I3,q3⟩
def V2 (r r' :R2) (ta tb tc:TE):TE:=fun σ H Q=>ta σ H fun x H1=>tb σ H1 fun y H2=>r x y H2 fun z H3=>∃ k,z= .bl k/\
 (if k=true then tc σ H3 fun w' H4=>r' y w' H4 Q else Q (.bl false) H3)
theorem QJ {op op' :CmpOp} {r r' :R2} (ho:OpR X (compareOp op) r) (ho' :OpR X (compareOp op') r') (ha:PE X a ta) (hb:PE X b tb) (hc:PE X c tc)
  (hm:lastMarks [op,op'] [b,c]=false:=by with_unfolding_all rfl):PE X (.Compare a [op,op'] [b,c] pos) (V2 r r' ta tb tc):=by
 intro pins s σ H Q I h
 refine Compare_chain (thn (ha pins s σ H _ I h) fun v s1 ⟨x,H1,I1,r1,q1⟩=>chain_link (thn (hb pins s1 σ H1 _ I1 q1) fun u s2 ⟨y,H2,I2,r2,q2⟩=>
  thn (ho pins s2 σ H2 x y v u _ I2 r1 r2 q2) fun d s3 ⟨z,H3,I3,r3,k,e,q3⟩=> ?_)) hm
 subst e
 cases r3
 refine wpAny_truthy_bool ?_
 cases k with
 | false=>exact ite_ff ⟨.bl false,H3,I3,rfl,q3⟩
 | true=>exact ite_tt (chain_last (thn (hc pins s3 σ H3 _ I3 q3) fun w' s4 ⟨z',H4,I4,r4,q4⟩=>ho' pins s4 σ H4 y z' u w' Q I4 r2 r4 q4))
theorem QK {op op' :CmpOp} {r r' :R2} (ho:OpR X (compareOp op) r) (ho' :OpR X (compareOp op') r') (ha:PE X a ta) (hb:PE X b tb) (hc:PE X c tc)
  (hm:lastMarks [op,op'] [b,c]=false:=by with_unfolding_all rfl):PT X (.Compare a [op,op'] [b,c] pos) (k6 (V2 r r' ta tb tc)):=by
 intro pins s σ H Q I h
 refine isTrue_chain (thn (ha pins s σ H _ I h) fun v s1 ⟨x,H1,I1,r1,q1⟩=>test_link (thn (hb pins s1 σ H1 _ I1 q1) fun u s2 ⟨y,H2,I2,r2,q2⟩=>
  thn (ho pins s2 σ H2 x y v u _ I2 r1 r2 q2) fun d s3 ⟨z,H3,I3,r3,k,e,q3⟩=> ?_)) hm
 subst e
 cases r3
 refine wpAny_truthy_bool ?_
 cases k with
 | false=>
  obtain ⟨k',e',q'⟩:=q3
  cases e'
  exact ite_ff ⟨H3,I3,q'⟩
 | true=>
  refine ite_tt (test_last (thn (hc pins s3 σ H3 _ I3 q3) fun w' s4 ⟨z',H4,I4,r4,q4⟩=>thn (ho' pins s4 σ H4 y z' u w' _ I4 r2 r4 q4) fun d' s5 ⟨z2,H5,I5,r5,k2,e2,q5⟩=> ?_))
  subst e2
  cases r5
  exact wpAny_truthy_bool ⟨H5,I5,q5⟩
def GW (K:PySem.W.Frag) (x:V) (H:Hp) (k:Bool):Prop:=
 match x with
 | .non=>k=false
 | .bl b=>k=b
 | .int i=>k=(i != 0)
 | .str y=>y.length<=sizeLine/\k=((y.length:Int) != 0)
 | .byt y=>y.size<=sizeLine/\k=((y.size:Int) != 0)
 | .ref p=>(∃ xs,SqL K H p xs/\k= !xs.isEmpty)\/(∃ xs,SqT K H p xs/\k= !xs.isEmpty)\/∃ kvs,H p=some (.dK kvs)/\k= !kvs.isEmpty
 | _=>False
theorem yy {κ:Type} {kvs:List (κ×V)} {vs:List (κ×Value)} (r:KV kvs vs):(!vs.isEmpty)= !kvs.isEmpty:=by
 cases r <;> rfl
theorem W3 {xs:List V} {its:List Value} (r:ZE xs its):(!its.toArray.isEmpty)= !xs.isEmpty:=by
 cases r <;> simp
theorem W4:(sizeLine:Nat) < 2 ^ 63:=by rw [sizeLine_eq]; decide
theorem k7:TruR X (fun x H Q=>∃ k,GW X.K x H k/\Q k H):=by
 intro pins s σ H x v Q I rx h
 obtain ⟨k,e,q⟩:=h
 have hl:=W4
 have hs:sizeLine=16777216:=sizeLine_eq
 cases x with
 | non=>
  cases rx
  have e' :k=false:=e
  subst e'
  exact truthy_none ⟨H,I,q⟩
 | bl b=>
  cases rx
  have e' :k=b:=e
  subst e'
  exact wpAny_truthy_bool ⟨H,I,q⟩
 | int i=>
  obtain ⟨t,rfl⟩:=rx
  have e' :k=(i != 0):=e
  subst e'
  exact PySem.P.truthy_int ⟨H,I,q⟩
 | str y=>
  obtain ⟨t,rfl⟩:=rx
  obtain ⟨hy,e'⟩:y.length<=sizeLine/\k=((y.length:Int) != 0):=e
  subst e'
  exact PySem.P.truthy_str (by omega) ⟨H,I.tok _,q⟩
 | byt y=>
  obtain ⟨t,rfl⟩:=rx
  obtain ⟨hy,e'⟩:y.size<=sizeLine/\k=((y.size:Int) != 0):=e
  subst e'
  exact PySem.W.truthy_bytes (by omega) ⟨H,I.tok _,q⟩
 | ref p=>
  cases rx
  have e' :(∃ xs,SqL X.K H p xs/\k= !xs.isEmpty)\/(∃ xs,SqT X.K H p xs/\k= !xs.isEmpty)\/∃ kvs,H p=some (.dK kvs)/\k= !kvs.isEmpty:=e
  rcases e' with ⟨xs,hx,e'⟩ | ⟨xs,hx,e'⟩ | ⟨kvs,hx,e'⟩
  ·subst e'
   obtain ⟨its,r,pl,hz⟩:=I.list hx
   have hlen:=r.length
   exact wpAny_truthy_list pl.isList (by simp only [List.size_toArray]; omega) ⟨H,I.tok _,by rw [W3 r]; exact q⟩
  ·subst e'
   obtain ⟨its,r,pl,hz⟩:=I.tuple hx
   have hlen:=r.length
   exact truthy_tuple pl (by simp only [List.size_toArray]; omega) ⟨H,I.tok _,by rw [W3 r]; exact q⟩
  ·subst e'
   obtain ⟨hz,hS,vs,r,m⟩:kvs.length<=sizeLine/\(p == sysModules)=false/\∃ vs,KV kvs vs/\s.heap.DictOf (U3 X.prog X.w) p vs:=I.hok p _ hx
   have hlen:kvs.length=vs.length:=Paired.length r
   exact wpAny_truthy_dict hS m (by omega) ⟨H,I.tok _,by rw [yy r]; exact q⟩
 | _=>exact (show False from e).elim
theorem QL (ha:PE X a ta) (he:∀ whole,isTrue a X.env whole=(do let v ← whole; standAt a.pos; holding [v] (truthy v))):
  PT X a (fun σ H Q=>ta σ H fun x H' =>∃ k,GW X.K x H' k/\Q k H'):=by
 intro pins s σ H Q I h
 exact isTrue_plain (thn (ha pins s σ H _ I h) fun v s1 ⟨x,H1,I1,r1,q1⟩=>k7 pins s1 σ H1 x v Q I1 r1 q1) (he _)
theorem yz:OpR X (binaryOp .Add) (fun x y H Q=>∃ i j,x= .str i/\y= .str j/\i.length+j.length<=sizeLine/\Q (.str (i++j)) H):=by
 intro pins s σ H x y v u Q I rx ry h
 obtain ⟨i,j,rfl,rfl,hz,q⟩:=h
 obtain ⟨t,rfl⟩:=rx
 obtain ⟨t',rfl⟩:=ry
 exact add_str (fun t' tk=>⟨.str (i++j),H,I.tok _,⟨_,rfl⟩,q⟩) hz
theorem jI {x:V} {us:List Value} (r:ZE [x] us):∃ u,us=[u]/\ZL x u:=by
 cases r with
 | cons r1 r2=>cases r2; exact ⟨_,rfl,r1⟩
theorem yA {x y:V} {us:List Value} (r:ZE [x,y] us):∃ u w',us=[u,w']/\ZL x u/\ZL y w' :=by
 cases r with
 | cons r1 r2=>
  cases r2 with
  | cons r3 r4=>cases r4; exact ⟨_,_,rfl,r1,r3⟩
theorem QM:j4 X (.builtin "abs") (fun xs H Q=>∃ i,xs=[.int i]/\Q (.int (if i < 0 then -i else i)) H):=by
 intro pins s σ H xs us Q I r h
 obtain ⟨i,rfl,q⟩:=h
 obtain ⟨u,rfl,t,rfl⟩:=jI r
 exact call_abs_int fun u tk=>⟨.int (if i < 0 then -i else i),H,I.tok _,⟨_,rfl⟩,q⟩
theorem Yn (hc:X.calm=true):j4 X (.builtin "max") (fun xs H Q=>∃ i j,xs=[.int i, .int j]/\Q (.int (if j > i then j else i)) H):=by
 intro pins s σ H xs us Q I r h
 obtain ⟨i,j,rfl,q⟩:=h
 obtain ⟨u,w',rfl,⟨t,rfl⟩,⟨t',rfl⟩⟩:=yA r
 refine max_two_ints (I.ok.hd hc) fun h' tk k=>⟨_,H,I.kept k, ?_,q⟩
 by_cases hj:j > i
 ·rw [if_pos hj,if_pos hj]; exact ⟨_,rfl⟩
 ·rw [if_neg hj,if_neg hj]; exact ⟨_,rfl⟩
theorem Yo (hc:X.calm=true):j4 X (.builtin "min") (fun xs H Q=>∃ i j,xs=[.int i, .int j]/\Q (.int (if j < i then j else i)) H):=by
 intro pins s σ H xs us Q I r h
 obtain ⟨i,j,rfl,q⟩:=h
 obtain ⟨u,w',rfl,⟨t,rfl⟩,⟨t',rfl⟩⟩:=yA r
 refine min_two_ints (I.ok.hd hc) fun h' tk k=>⟨_,H,I.kept k, ?_,q⟩
 by_cases hj:j < i
 ·rw [if_pos hj,if_pos hj]; exact ⟨_,rfl⟩
 ·rw [if_neg hj,if_neg hj]; exact ⟨_,rfl⟩
theorem Yp:j4 X (.type "int") (fun xs H Q=>(∃ i,xs=[.int i]/\Q (.int i) H)\/∃ k,xs=[.bl k]/\Q (.int (if k then 1 else 0)) H):=by
 intro pins s σ H xs us Q I r h
 rcases h with ⟨i,rfl,q⟩ | ⟨k,rfl,q⟩
 ·obtain ⟨u,rfl,t,rfl⟩:=jI r
  exact call_int_int ⟨.int i,H,I,⟨_,rfl⟩,q⟩
 ·obtain ⟨u,rfl,r1⟩:=jI r
  cases r1
  exact call_int_bool ⟨.int (if k then 1 else 0),H,I.tok _,⟨_,rfl⟩,q⟩
end
end L2
namespace L2
open PySem PySem.Spec PyProof.Rows
structure gE (h:Heap) (x dx C:Addr) (mA:Str->Option Value):Prop where
 obj:h.get? x=some (PySem.W.instObj C dx)
 ns:h.Ns1 dx mA
 ne:dx ≠ x
theorem Yq {h:Heap} {dx:Addr} {mA:Str->Option Value} (n:h.Ns1 dx mA):∃ od,h.get? dx=some od/\∀ name,PySem.W.lookIn name od=some (mA name):=by
 obtain ⟨o,es,ep,ho,hd,hk,_,hm⟩:=n
 refine ⟨o,ho,fun name=> ?_⟩
 have e:=hm name
 unfold nsFind findBy at e
 rw [← Array.find?_toList] at e
 unfold PySem.W.lookIn
 rw [hd]
 dsimp only
 split
 ·rename_i y q
  rw [q] at e
  exact congrArg some e
 ·rename_i q
  rw [q] at e
  have a:es.toList.any (·.refKey)=false:=by
   rw [List.any_eq_false]
   intro y hy
   obtain ⟨z,t,hkey⟩:=hk y (Array.mem_toList_iff.mp hy)
   simp [DictEntry.refKey,hkey]
  have a' :¬ es.toList.any (·.refKey)=true:=by rw [a]; exact Bool.false_ne_true
  rw [if_neg a']
  exact congrArg some e
theorem gE.look {h:Heap} {x dx C:Addr} {mA:Str->Option Value} (I:gE h x dx C mA):∃ od,PySem.W.InstAt h x (PySem.W.instObj C dx) C (some od)/\∀ name,PySem.W.lookIn name od=some (mA name):=
 let ⟨od,ho,hl⟩:=Yq I.ns
 ⟨od,⟨I.obj,rfl,rfl,ho⟩,hl⟩
section
variable {prog:Program} {w:World} {A:Around} {E:Value->Shared->Prop} {s:Shared} {K:PySem.W.Frag} {x dx C f:Addr} {mA:Str->Option Value} {name:Str} {v:Value}
end
section
variable {P:Program} {w:World} {H H' :Hp} {h h' :Heap} {a C dx:Addr} {fs fs' :List (Str×V)}
theorem VJ (hok:HOk P w H h) (e:H a=some (.ins C dx fs)):∃ mA,gE h a dx C mA/\(∀ f,gc (fs.lookup f) (mA f))/\PySem.Within mA (fs.map (·.1))/\fs.length<=1000/\H dx=some (.own a):=by
 obtain ⟨d,z,ne,ob,mA,n,r,q⟩:=(show ZH P w H h a (.ins C dx fs) from hok a _ e)
 exact ⟨mA,⟨ob,n,ne⟩,r,q,z,d⟩
end
structure Cls (K:PySem.W.Frag) (C:Addr):Prop where
 pg:PySem.W.plainGet K C Str.empty=true
 hd:PySem.W.hasDictIn K C=true
 po:PySem.W.plainOver K C=true
 sa:PySem.W.findIn K (.ref C) "__setattr__"=some (some (.builtin "object.__setattr__"))
theorem Cls.get {K:PySem.W.Frag} {C:Addr} (c:Cls K C) (f:Str):PySem.W.plainGet K C f=true:=c.pg
section
variable {X:Cx} {pins:List (Addr×Obj)} {σ:St} {H:Hp} {s:Shared} {a C dx:Addr} {fs:List (Str×V)} {f:Str} {v:V} {A:Around} {E:Value->Shared->Prop}
end
section
variable {X:Cx} {o e value:Expr} {f:Str} {pos pos' tpos:Pos} {ta tv:TE}
end
section
variable {X:Cx} {pins:List (Addr×Obj)} {σ:St} {H:Hp} {s:Shared} {A:Around} {E:Value->Shared->Prop} {Q:Value->Shared->Prop} {c:Value} {b:Bool}
inductive yB (K:PySem.W.Frag) (H:Hp):V->Value->Prop where
 | non:yB K H .non (.type "NoneType")
 | bl (x:Bool):yB K H (.bl x) (.type "bool")
 | int (i:Int):yB K H (.int i) (.type "int")
 | str (x:Str):yB K H (.str x) (.type "str")
 | flt (x:UInt64):yB K H (.flt x) (.type "float")
 | lst {a:Addr} {xs:List V} (e:H a=some (.lst xs)):yB K H (.ref a) (.type "list")
 | frz {a:Addr} {o:Obj} {xs:List V} (e:H a=some (.frz o (.lst xs))):yB K H (.ref a) (.type "list")
 | tup {a:Addr} {xs:List V} (e:H a=some (.tup xs)):yB K H (.ref a) (.type "tuple")
 | dK {a:Addr} {kvs:List (Key×V)} (e:H a=some (.dK kvs)):yB K H (.ref a) (.type "dict")
 | dT {a:Addr} {kvs:List (List Key×V)} (e:H a=some (.dT kvs)):yB K H (.ref a) (.type "dict")
 | ins {a C dx:Addr} {fs:List (Str×V)} (e:H a=some (.ins C dx fs)) (cl:Cls K C) (ha:PySem.W.findIn K (.ref C) "__class__"=some (some (.builtin "object.__class__")))
   (hn:PySem.W.specialIn K (.builtin "object.__class__") "__get__"=some (some (.builtin "getset_descriptor.__get__"))) (htk:PySem.W.takesIn K (.builtin "object.__class__")=some true)
   (hm:PySem.W.mroIn K C (.type "object")=some true):yB K H (.ref a) (.ref C)
theorem Yr {x:V} {u t:Value} (I:Inv X pins σ H s) (rx:ZL x u) (ty:yB X.K H x t) (e:PySem.W.kitOne X.K t c=some b) (h:∀ tk,Q (.bool b) { s with toks:=tk }):
  wpAny (model X.prog X.w) A (call (.builtin "isinstance") [u,c]) Q E s:=by
 cases ty with
 | non=>cases (show u=Value.none from rx); exact PySem.W.kia_one PySem.W.kitx_none I.kIn True.intro e (fun z=>nomatch z) h
 | bl y=>cases (show u=Value.bool y from rx); exact PySem.W.kia_one PySem.W.kitx_bool I.kIn True.intro e (fun z=>nomatch z) h
 | int i=>obtain ⟨t,q⟩:=(show ∃ t,u=Value.int i t from rx); cases q; exact PySem.W.kia_one PySem.W.kitx_int I.kIn True.intro e (fun z=>nomatch z) h
 | str y=>obtain ⟨t,q⟩:=(show ∃ t,u=Value.str y t from rx); cases q; exact PySem.W.kia_one PySem.W.kitx_str I.kIn True.intro e (fun z=>nomatch z) h
 | flt y=>obtain ⟨t,q⟩:=(show ∃ t,u=Value.float y t from rx); cases q; exact PySem.W.kia_one PySem.W.kitx_float I.kIn True.intro e (fun z=>nomatch z) h
 | @lst a xs ea=>
  cases (show u=Value.ref a from rx)
  obtain ⟨_,_,n,_,h1⟩:=(show ZH X.prog X.w H s.heap a (.lst xs) from I.hok a _ ea)
  exact PySem.W.kia_one PySem.W.kitx_list I.kIn ⟨_,h1,rfl⟩ e (fun z=>nomatch z) h
 | @frz a ob xs ea=>
  cases (show u=Value.ref a from rx)
  obtain ⟨_,_,_,n,_,h1⟩:=(show ZH X.prog X.w H s.heap a (.frz ob (.lst xs)) from I.hok a _ ea)
  exact PySem.W.kia_one PySem.W.kitx_list I.kIn ⟨_,h1,rfl⟩ e (fun z=>nomatch z) h
 | @tup a xs ea=>
  cases (show u=Value.ref a from rx)
  obtain ⟨_,_,_,p⟩:=(show ZH X.prog X.w H s.heap a (.tup xs) from I.hok a _ ea)
  obtain ⟨o,h1,h2,_⟩:=p
  exact PySem.W.kia_one PySem.W.kitx_tuple I.kIn ⟨o,h1,h2⟩ e (fun z=>nomatch z) h
 | @dK a kvs ea=>
  cases (show u=Value.ref a from rx)
  obtain ⟨_,_,vs,_,p⟩:=(show ZH X.prog X.w H s.heap a (.dK kvs) from I.hok a _ ea)
  obtain ⟨o,es,ep,h1,h2,_⟩:=p
  exact PySem.W.kia_one PySem.W.kitx_dict I.kIn ⟨o,h1,h2.1⟩ e (fun z=>nomatch z) h
 | @dT a kvs ea=>
  cases (show u=Value.ref a from rx)
  obtain ⟨_,_,xs,_,o,es,ep,h1,h2,_⟩:=(show ZH X.prog X.w H s.heap a (.dT kvs) from I.hok a _ ea)
  exact PySem.W.kia_one PySem.W.kitx_dict I.kIn ⟨o,h1,h2.1⟩ e (fun z=>nomatch z) h
 | @ins a C dx fs ea cl ha hn htk hm=>
  cases (show u=Value.ref a from rx)
  obtain ⟨mA,O,_⟩:=VJ I.hok ea
  obtain ⟨od,J,_⟩:=O.look
  exact PySem.W.kia_one (PySem.W.kitx_own (cl.get _) cl.hd ha hn htk hm) I.kIn J e (fun z=>nomatch z) h
end
end L2
namespace L2
open PySem PySem.Spec PyProof.Rows
structure JG (k:Nat) (A:Around):Prop where
 hd:A.handled=none
 dp:A.depth+3*k+5 < recursionLimit
 un:A.units+16*k+200 < cLine
theorem JG.mono {j k:Nat} {A:Around} (r:JG k A) (h:j<=k):JG j A:=⟨r.hd,by have:=r.dp; omega,by have:=r.un; omega⟩
theorem JG.deeper {k:Nat} {A:Around} (r:JG (k+1) A) (env:Env):JG k (A.deeper env):=
 ⟨r.hd,by have:=r.dp; show A.depth+1+3*k+5 < _; omega,by have:=r.un; show A.units+3+16*k+200 < _; omega⟩
theorem JG.depth {k:Nat} {A:Around} (r:JG k A):A.depth < recursionLimit:=by have:=r.dp; omega
theorem JG.units {k:Nat} {A:Around} (r:JG k A):A.units+64 < cLine:=by have:=r.un; omega
def tNil:TA:=fun _ H Q=>Q [] H
def gF (ta:TE) (tr:TA):TA:=fun σ H Q=>ta σ H fun x H1=>tr σ H1 fun xs H2=>Q (x :: xs) H2
section
variable {X:Cx} {e:Expr} {es:List Expr} {te:TE} {t:TA} {pos:Pos}
theorem Zu:PA X [] tNil:=fun _ _ _ _ H Q I h=>Calls.spliced_nil ⟨[],H,I, .nil,h⟩
theorem zH (ha:PE X e te) (hr:PA X es t) (hs:starEach (e :: es) X.env=(false,eval e X.env) :: starEach es X.env:=by rfl):PA X (e :: es) (gF te t):=by
 intro pos pins s σ H Q I h
 rw [hs]
 show wpAny _ _ (spliced ((false,eval e X.env) :: backTo pos (starEach es X.env))) _ _ s
 refine Calls.spliced_cons (thn (ha pins s σ H _ I h) fun u s1 ⟨x,H1,I1,r1,q1⟩=> ?_)
 exact thn (hr pos pins s1 σ H1 _ I1 q1) fun us s2 ⟨xs,H2,I2,r2,q2⟩=>⟨x :: xs,H2,I2, .cons r1 r2,q2⟩
def tTup (t:TA):TE:=fun σ H Q=>t σ H fun xs H1=>xs.length<=sizeLine/\∀ p,H1 p=none->Q (.ref p) (upd H1 p (.tup xs))
def tLst (t:TA):TE:=fun σ H Q=>t σ H fun xs H1=>xs.length<=sizeLine/\∀ p,H1 p=none->Q (.ref p) (upd H1 p (.lst xs))
theorem k8 {x1} (h:PA X es t):PE X (.Tuple es x1 pos) (tTup t):=by
 intro pins s σ H Q I hq
 refine wpAny_Tuple_spliced (thn (h pos pins s σ H _ I hq) fun us s1 ⟨xs,H1,I1,r,z,q⟩=>⟨by rw [← r.length]; exact z, ?_⟩)
 have hf:H1 s1.heap.objs.size=none:=I1.hok.fresh (Nat.le_refl _)
 refine ⟨.ref s1.heap.objs.size,upd H1 s1.heap.objs.size (.tup xs),I1.laid (t' :=s1.toks) (fun b u e=>Heap.get?_push_of_some _ e) (Nat.le_refl _) ?_,rfl,q _ hf⟩
 exact ⟨z,us,r,⟨_,Heap.get?_push_size _ rfl,rfl,_,rfl⟩⟩
theorem V3 (h:PA X es t):PE X (.List es pos) (tLst t):=by
 intro pins s σ H Q I hq
 refine wpAny_List_spliced (thn (h pos pins s σ H _ I hq) fun us s1 ⟨xs,H1,I1,r,z,q⟩=>⟨by rw [← r.length]; exact z, ?_⟩)
 have hf:H1 s1.heap.objs.size=none:=I1.hok.fresh (Nat.le_refl _)
 refine ⟨.ref s1.heap.objs.size,upd H1 s1.heap.objs.size (.lst xs),I1.laid (t' :=s1.toks) (fun b u e=>Heap.get?_push_of_some _ e) (Nat.le_refl _) ?_,rfl,q _ hf⟩
 exact ⟨z,us,0,r,Heap.get?_push_size _ rfl⟩
end
abbrev Sp:=List V->Hp->VK->XK->Prop
abbrev CXT:=List Env->Hp->Shared->XK->Value->Shared->Prop
structure Kw (P:Program) (w:World) (K:PySem.W.Frag) (mg:Str->Option Value) (base:Heap) (A:Around) (outer:List Env) (s:Shared) (H:Hp):Prop where
 frames:A.frames=some outer
 mod:Mod K mg base
 bs:∀ b o,base.get? b=some o->s.heap.get? b=some o/\H b=none
 bsz:base.objs.size<=s.heap.objs.size
 funs:s.heap.FunFrames base outer
 frf:∀ b∈frs outer,H b=none
 hok:HOk P w H s.heap
 bare:AllBare s.gens
def CE (outer:List Env) (P:Program) (w:World) (H:Hp) (s:Shared) (Q:VK) (u:Value) (s' :Shared):Prop:=
 ∃ v H',s'.os=s.os/\AllBare s'.gens/\Un (frs outer) [] H H' s.heap s'.heap/\HOk P w H' s'.heap/\ZL v u/\Q v H'
def CR (CX:CXT) (outer:List Env) (P:Program) (w:World) (H:Hp) (s:Shared) (Q:VK) (E:XK) (r:Result) (s' :Shared):Prop:=
 match r with
 | .ok (.ret u)=>CE outer P w H s Q u s'
 | .ok _=>False
 | .error e=>CX outer H s E e s'
structure ZB (P:Program) (w:World) (K:PySem.W.Frag) (mg:Str->Option Value) (base:Heap) (CX:CXT) (k:Nat) (f:Addr) (fd:FuncData) (ps:List Str) (sp:Sp):Prop where
 len:∀ vs H Q E,sp vs H Q E->vs.length=ps.length
 run:∀ (A:Around) (outer:List Env) (s:Shared) (H:Hp) (args:Args) (us:List Value) (vs:List V) (Q:VK) (E:XK),JG k A->Kw P w K mg base A outer s H->BindsTo s fd args (ps.zip us)->ZE vs us->sp vs H Q E->
  codeAny (model P w) A (.call (.ref f) args) (CR CX outer P w H s Q E) s
section
variable {X:Cx} {pins:List (Addr×Obj)} {σ:St} {H:Hp} {s s' :Shared}
theorem Inv.env0 (I:Inv X pins σ H s):Kw X.prog X.w X.K X.mg X.base X.A X.stack s H:=
 ⟨I.ok.frames,I.ok.mod,I.bs,Nat.le_trans I.ok.bsz I.sz,I.stack,I.stkFree,I.hok,I.bare⟩
theorem Inv.after {Q:VK} {u:Value} (I:Inv X pins σ H s) (h:CE X.stack X.prog X.w H s Q u s'):EP X pins σ Q u s' :=by
 obtain ⟨v,H',os,bare,un,hok,r,q⟩:=h
 obtain ⟨hh,g,d,t,os'⟩:=s'
 obtain rfl:os' =s.os:=os
 exact ⟨v,H',I.call (h' :=hh) (g' :=g) (d' :=d) (t' :=t) (ch:=[]) un hok bare (fun b z=>absurd z (by simp)),r,q⟩
end
def gG (sp:Sp) (dvs:List V) (E:XK) (t:TA):TE:=fun σ H Q=>t σ H fun vs H1=>sp (vs++dvs) H1 Q E
def Binds (K:PySem.W.Frag) (fd:FuncData) (ps:List Str) (ds:List Value):Prop:=
 ∀ (s:Shared) (us:List Value),K.In s.heap->(us++ds).length=ps.length->BindsTo s fd ⟨us,[]⟩ (ps.zip (us++ds))
theorem Binds.all {K:PySem.W.Frag} {fd:FuncData} {ps:List Str} (h:∀ us:List Value,us.length=ps.length->bindArgs fd ⟨us,[]⟩=pure (ps.zip us)):Binds K fd ps []:=fun s us _ hl=>by
 rw [List.append_nil] at hl ⊢
 exact .of_eq (h us hl)
def Jf (CX:CXT) (X:Cx) (E:XK):Prop:=∀ (pins:List (Addr×Obj)) (σ:St) (H:Hp) (s:Shared) (e:Value) (s' :Shared),Inv X pins σ H s->CX X.stack H s E e s' ->X.xe e s'
section
variable {X:Cx} {CX:CXT} {k:Nat} {f C:Addr} {fd:FuncData} {ps:List Str} {sp:Sp} {dvs:List V} {ds:List Value} {E:XK} {x m:Str} {p pos apos:Pos} {e o:Expr} {es:List Expr} {ta:TE} {t:TA}
theorem k9 {pins:List (Addr×Obj)} {σ:St} {H:Hp} {s:Shared} {Q:VK} {us:List Value} {vs:List V} (F:ZB X.prog X.w X.K X.mg X.base CX k f fd ps sp) (hr:JG k X.A) (hb:Binds X.K fd ps ds) (hd:ZE dvs ds) (hx:Jf CX X E)
  (I:Inv X pins σ H s) (r:ZE vs us) (h:sp (vs++dvs) H Q E):wpAny (model X.prog X.w) X.A (call (.ref f) us) (EP X pins σ Q) X.xe s:=by
 have r2:ZE (vs++dvs) (us++ds):=r.append hd
 have hl:(us++ds).length=ps.length:=by rw [← r2.length]; exact F.len _ _ _ _ h
 refine wpAny_call (codeAny_mono (F.run X.A X.stack s H ⟨us,[]⟩ (us++ds) (vs++dvs) Q E hr I.env0 (hb s us I.kIn hl) r2 h) fun r s' hq=> ?_)
 cases r with
 | error e=>exact hx pins σ H s e s' I hq
 | ok fl=>
  cases fl with
  | ret u=>exact I.after hq
  | next=>exact False.elim hq
  | brk=>exact False.elim hq
  | cont=>exact False.elim hq
theorem Ys (F:ZB X.prog X.w X.K X.mg X.base CX k f fd ps sp) (hr:JG k X.A) (hg:Gl X x) (hm:X.mg x=some (.ref f)) (hk:PySem.W.keepIn X.K (.ref f)=true) (hb:Binds X.K fd ps ds) (hd:ZE dvs ds) (hx:Jf CX X E)
  (ha:PA X (e :: es) t) (hdb:(x == ("__debug__":Str))=false:=by decide) (he:starEach (e :: es) X.env=(false,eval e X.env) :: starEach es X.env:=by rfl) (hpl:(backTo pos (starEach es X.env)).any (·.1)=false:=by rfl):
  PE X (.Call (.Name x p) (e :: es) [] pos) (gG sp dvs E t):=by
 intro pins s σ H Q I h
 refine wpAny_Call_Name_kw (Wm I hg hm ?_ hdb)
 refine PySem.W.callWith_K (h₀:=X.base) I.ok.mod.kin hk (thn (ha pos pins s σ H _ I h) fun us s1 ⟨vs,H1,I1,r,q⟩=>⟨I1.kIn, ?_⟩) he hpl
 exact k9 F hr hb hd hx I1 r q
end
section
variable {X:Cx} {CX:CXT} {k:Nat} {f C:Addr} {fd:FuncData} {ps ks:List Str} {sp:Sp} {E:XK} {x m:Str} {p pos apos kpos:Pos} {e o:Expr} {es:List Expr} {kws:List Keyword} {te ta:TE} {t tk:TA} {nm:Option Str}
variable {g:List Value->List Value->List Value} {gV:List V->List V->List V}
end
structure zp (N P:List Str) (sc:Scope):Prop where
 kind:sc.kind= .function
 co:sc.isCoroutine=false
 gen:sc.isGenerator=false
 nd:N.Nodup
 pre:N.take P.length=P
 par:∀ x∈P,sc.names.lookup x=some .local\/sc.names.lookup x=some .cell
 nofree:∀ y∈sc.names,y.2 ≠ .free
theorem u7 {kindOf:Str->Option NameKind} {x:Str}:∀ {binds:List (Str×Value)} {m:Str->Option Value},(∀ v,(x,v) ∉ binds)->bindL kindOf binds m x=m x
 | [],_,_=>rfl
 | (n,v) :: r,m,h=>by
  unfold bindL
  rw [u7 fun w hw=>h w (List.mem_cons_of_mem _ hw)]
  split
  ·have:x ≠ n:=by rintro rfl; exact h v List.mem_cons_self
   simp [this]
  ·rfl
theorem u8 {kindOf:Str->Option NameKind} {x:Str}:∀ {binds:List (Str×Value)} {m:Str->Option Value},(∀ v,(x,v) ∉ binds)->bindC kindOf binds m x=m x
 | [],_,_=>rfl
 | (n,v) :: r,m,h=>by
  unfold bindC
  rw [u8 fun w hw=>h w (List.mem_cons_of_mem _ hw)]
  split
  ·rfl
  ·have:x ≠ n:=by rintro rfl; exact h v List.mem_cons_self
   simp [this]
theorem u9 {kindOf:Str->Option NameKind} {x:Str} {v:Value}:∀ {P:List Str} {vs:List Value} {i:Nat} {m:Str->Option Value},P.Nodup->P[i]? =some x->vs[i]? =some v->kindOf x=some .local->
  bindL kindOf (P.zip vs) m x=some v
 | [],_,_,_,_,h,_,_=>by simp at h
 | _ :: _,[],_,_,_,_,h,_=>by simp at h
 | p :: P,w :: vs,0,m,nd,h1,h2,hk=>by
  simp at h1 h2; subst h1; subst h2
  show bindL kindOf ((p,w) :: P.zip vs) m p=_
  unfold bindL
  rw [u7 fun v hv=>(List.nodup_cons.mp nd).1 (List.of_mem_zip hv).1,if_pos hk]
  simp
 | p :: P,w :: vs,i+1,m,nd,h1,h2,hk=>by
  show bindL kindOf ((p,w) :: P.zip vs) m x=_
  unfold bindL
  exact u9 (i:=i) (List.nodup_cons.mp nd).2 (by simpa using h1) (by simpa using h2) hk
theorem ua {kindOf:Str->Option NameKind} {x:Str} {v:Value}:∀ {P:List Str} {vs:List Value} {i:Nat} {m:Str->Option Value},P.Nodup->P[i]? =some x->vs[i]? =some v->kindOf x ≠ some .local->
  bindC kindOf (P.zip vs) m x=some v
 | [],_,_,_,_,h,_,_=>by simp at h
 | _ :: _,[],_,_,_,_,h,_=>by simp at h
 | p :: P,w :: vs,0,m,nd,h1,h2,hk=>by
  simp at h1 h2; subst h1; subst h2
  show bindC kindOf ((p,w) :: P.zip vs) m p=_
  unfold bindC
  rw [u8 fun v hv=>(List.nodup_cons.mp nd).1 (List.of_mem_zip hv).1,if_neg hk]
  simp
 | p :: P,w :: vs,i+1,m,nd,h1,h2,hk=>by
  show bindC kindOf ((p,w) :: P.zip vs) m x=_
  unfold bindC
  exact ua (i:=i) (List.nodup_cons.mp nd).2 (by simpa using h1) (by simpa using h2) hk
def start (N:List Str) (vs:List V):St:=vs.map some++List.replicate (N.length - vs.length) none
def wV (CX:CXT) (P:Program) (w:World) (K:PySem.W.Frag) (mg:Str->Option Value) (base:Heap) (N:List Str) (qual:Str) (scope:Scope) (f:Addr) (cd:Value) (A:Around) (outer:List Env) (s:Shared) (H:Hp) (E:XK):Cx where
 prog:=P
 w:=w
 K:=K
 mg:=mg
 base:=base
 A:=A.deeper (envOfC qual scope s.heap.objs.size f cd)
 N:=N
 s₀:=s
 H₀:=H
 env:=envOfC qual scope s.heap.objs.size f cd
 outer:=outer
 stack:=envOfC qual scope s.heap.objs.size f cd :: outer
 ex:=[]
 calm:=true
 fn:=fun _=>true
 pn:=[]
 xe:=fun e s' =>wpAny (model P w) (A.deeper (envOfC qual scope s.heap.objs.size f cd)) (leaving (envOfC qual scope s.heap.objs.size f cd) e) (fun _ s'' =>CX outer H s E e s'') (fun e' s'' =>CX outer H s E e' s'') s'
theorem UI {sc:Scope} {n:Nat} {x:Str} (h:sc.names.lookup x=some .cell):∃ c,(cellsFrom n sc.names []).lookup x=some c:=by
 have q:=PySem.W.cellsFrom_some sc.names n [] (.inl h)
 exact Option.isSome_iff_exists.mp q
theorem Yt {CX:CXT} {P:Program} {w:World} {K:PySem.W.Frag} {mg:Str->Option Value} {base:Heap} {N ps:List Str} {qual:Str} {scope:Scope} {f:Addr} {cd:Value} {A:Around} {outer:List Env} {s s1:Shared} {H:Hp} {E:XK} {us:List Value} {vs:List V}
  (S:zp N ps scope) (hd:A.handled=none) (e0:Kw P w K mg base A outer s H) (hl:vs.length=ps.length) (r:ZE vs us)
  (x:InCallC s s.heap.objs.size (bindL (envOfC qual scope s.heap.objs.size f cd).kindOf (ps.zip us) fun _=>none) (cellsFrom (s.heap.objs.size+1) scope.names []) (bindC (envOfC qual scope s.heap.objs.size f cd).kindOf (ps.zip us) fun _=>none) s1):
  Inv (wV CX P w K mg base N qual scope f cd A outer s H E) [] (start N vs) H s1:=by
 have hpl:ps.length<=N.length:=by have:=congrArg List.length S.pre; rw [List.length_take] at this; omega
 obtain ⟨h1,tk,rfl,hk⟩:=x.done
 have noA:∀ b:Addr,b ∉ (wV CX P w K mg base N qual scope f cd A outer s H E).ex:=fun b z=>absurd (show b∈([]:List Addr) from z) (by simp)
 refine ⟨⟨e0.mod,S.kind,rfl,rfl,Nat.le_refl _,fun y z c h1 h2=> ?_,fun y hy=> ?_,fun y c _ h=> ?_,fun _=>hd,Around.frames_deeper e0.frames, .inr ⟨rfl,rfl⟩,fun b z=>absurd z (noA b),e0.bs,e0.bsz,fun b _ _=>noA b,fun b z=>absurd z (noA b),e0.funs,e0.frf⟩,
  rfl,e0.bare,Un.kept hk,⟨_,x.toInCall.ns,fun i y v h1 h2 h3=> ?_⟩,fun y c h=>⟨_,x.cell y c h⟩,e0.hok.fresh (Nat.le_refl _),fun y c h=> ?_,fun p hp=>absurd (show p∈([]:List (Addr×Obj)) from hp) (by simp),e0.hok.kept hk, ?_⟩
 ·exact name_of_addr x.apart (PySem.mem_of_lookup h1) (PySem.mem_of_lookup h2)
 ·have hy:scope.names.lookup y=some .cell\/scope.names.lookup y=some .free:=hy
  rcases hy with hy | hy
  ·exact UI hy
  ·exact absurd rfl (S.nofree _ (PySem.mem_of_lookup hy))
 ·exact Nat.le_of_lt (x.above y c (PySem.mem_of_lookup h))
 ·have hi:i < vs.length:=by
   unfold start at h2
   by_cases hi:i < vs.length
   ·exact hi
   ·rw [List.getElem?_append_right (by simpa using hi)] at h2
    rw [List.getElem?_replicate] at h2
    split at h2 <;> cases h2
  have ha:vs[i]? =some v:=by
   unfold start at h2
   rw [List.getElem?_append_left (by simpa using hi),List.getElem?_map] at h2
   cases e:vs[i]? with
   | none=>rw [e] at h2; cases h2
   | some a=>rw [e] at h2; cases h2; rfl
  obtain ⟨u,hu,rv⟩:=r.get ha
  have hp:ps[i]? =some y:=by
   rw [← S.pre,List.getElem?_take_of_lt (by omega)]; exact h1
  have ndP:ps.Nodup:=by rw [← S.pre]; exact S.nd.sublist (List.take_sublist _ _)
  refine ⟨u,rv, ?_⟩
  rcases S.par y (List.mem_of_getElem? hp) with k | k
  ·exact .inl ⟨k,u9 ndP hp hu k⟩
  ·obtain ⟨c,e⟩:=UI (n:=s.heap.objs.size+1) k
   refine .inr ⟨.inl k,c,e, ?_⟩
   have q:=x.cell y c e
   rw [ua ndP hp hu (by show scope.names.lookup y ≠ _; rw [k]; decide)] at q
   exact q
 ·exact e0.hok.fresh (Nat.le_of_lt (x.above y c (PySem.mem_of_lookup h)))
 ·unfold start
  show _=N.length
  rw [List.length_append,List.length_map,List.length_replicate]
  omega
theorem ka {CX:CXT} {P:Program} {w:World} {K:PySem.W.Frag} {mg:Str->Option Value} {base:Heap} {k:Nat} {f:Addr} {name qual:Str} {params:Arguments} {body:List Stmt} {scope:Scope} {dV kV doc pm cdv ct oc:Value} {an od:Option Addr}
  {osl:Array (Option Value)} {N ps:List Str} {sp:Sp} (lk:K.lookup f=some ⟨oc,od, .func (PySem.W.fnOf name qual params body scope dV kV doc pm an cdv ct),osl⟩) (hcd:PySem.W.codeIn K cdv qual=true) (S:zp N ps scope)
  (len:∀ vs H Q E,sp vs H Q E->vs.length=ps.length)
  (hbody:∀ (A:Around) (outer:List Env) (s:Shared) (H:Hp) (vs:List V) (Q:VK) (E:XK),JG k (A.deeper (envOfC qual scope s.heap.objs.size f cdv))->sp vs H Q E->
   ∃ t,PSs (wV CX P w K mg base N qual scope f cdv A outer s H E) body t/\t { nx:=fun _ H' =>Q .non H',rt:=Q } (start N vs) H):
  ZB P w K mg base CX (k+1) f (PySem.W.fnOf name qual params body scope dV kV doc pm an cdv ct) ps sp:=by
 refine ⟨len,fun A outer s H args us vs Q E hr e0 hb r hsp=> ?_⟩
 have hl:=len _ _ _ _ hsp
 have KX:K.In s.heap:=e0.mod.kin.keeps fun b o e=>(e0.bs b o e).1
 have lim:s.heap.NoLimit:=e0.mod.nolimit.keeps fun b o e=>(e0.bs b o e).1
 have hkind:∀ y∈ps.zip us,scope.names.lookup y.1=some .local\/(scope.names.lookup y.1=some .cell/\((cellsFrom (s.heap.objs.size+1) scope.names []).lookup y.1).isSome=true):=fun ⟨n,v⟩ hy=>by
  rcases S.par n (List.of_mem_zip hy).1 with q | q
  ·exact .inl q
  ·exact .inr ⟨q,PySem.W.cellsFrom_some _ _ _ (.inl q)⟩
 refine codeAny_call_function hr.depth (KX _ _ lk) rfl S.co S.gen rfl (PySem.W.codeRec_of KX hcd) (hb _ _ _ _ ?_)
 refine wpAny_newFunctionEnv_cells S.kind hkind fun env he s1 x=> ?_
 subst he
 refine ⟨lim.keeps x.toInCall.keep,codeAny_func ?_⟩
 obtain ⟨t,ht,hq⟩:=hbody A outer s H vs Q E (hr.deeper _) hsp
 have I:Inv (wV CX P w K mg base N qual scope f cdv A outer s H E) [] (start N vs) H s1:=Yt S hr.hd e0 hl r x
 refine wpAny_mono (ht [] s1 (start N vs) H _ I hq) (fun fl s' hs=> ?_) fun e s' hs=>hs
 have fin:∀ {σ' :St} {H' :Hp} {v:V} {u:Value},Inv (wV CX P w K mg base N qual scope f cdv A outer s H E) [] σ' H' s' ->ZL v u->Q v H' ->CE outer P w H s Q u s' :=
  fun {σ' H' v u} J rv q=>⟨v,H',J.os,J.bare,J.base,J.hok,rv,q⟩
 cases fl with
 | ret u=>
  obtain ⟨v,σ',H',J,rv,q⟩:=hs
  exact fin J rv q
 | next=>
  obtain ⟨σ',H',J,q⟩:=hs
  exact fin (v:=V.non) (u:=Value.none) J rfl q
 | brk=>
  obtain ⟨_,_,_,q⟩:=hs
  exact False.elim q
 | cont=>
  obtain ⟨_,_,_,q⟩:=hs
  exact False.elim q
end L2
namespace L2
open PySem PySem.Spec PyProof.Rows
section
variable {X:Cx} {x:Str} {p pos:Pos} {e:Expr} {es:List Expr} {t:TA} {id T:String} {r:List V->Hp->VK->Prop}
def tCB (r:List V->Hp->VK->Prop) (t:TA):TE:=fun σ H Q=>t σ H fun vs H1=>r vs H1 Q
theorem jz (hc:j4 X (.builtin id) r) (hg:Gl X x) (hm:X.mg x=none) (hv:bootBuiltins x=some (.builtin id)) (ha:PA X (e :: es) t) (hn:x ≠ "__name__":=by decide) (hdb:(x == ("__debug__":Str))=false:=by decide)
  (he:starEach (e :: es) X.env=(false,eval e X.env) :: starEach es X.env:=by rfl) (hpl:(backTo pos (starEach es X.env)).any (·.1)=false:=by rfl):PE X (.Call (.Name x p) (e :: es) [] pos) (tCB r t):=by
 intro pins s σ H Q I h
 refine wpAny_Call_Name_kw (JU I hg hm hv ?_ hn hdb)
 exact PyProof.Rows.callWith_builtin1 (thn (ha pos pins s σ H _ I h) fun us s1 ⟨vs,H1,I1,r1,q1⟩=>hc pins s1 σ H1 vs us Q I1 r1 q1) he hpl
theorem Jq (hc:j4 X (.type T) r) (hg:Gl X x) (hm:X.mg x=none) (hv:bootBuiltins x=some (.type T)) (ha:PA X (e :: es) t) (hn:x ≠ "__name__":=by decide) (hdb:(x == ("__debug__":Str))=false:=by decide)
  (he:starEach (e :: es) X.env=(false,eval e X.env) :: starEach es X.env:=by rfl) (hpl:(backTo pos (starEach es X.env)).any (·.1)=false:=by rfl):PE X (.Call (.Name x p) (e :: es) [] pos) (tCB r t):=by
 intro pins s σ H Q I h
 refine wpAny_Call_Name_kw (JU I hg hm hv ?_ hn hdb)
 exact PyProof.Rows.callWith_type1 (thn (ha pos pins s σ H _ I h) fun us s1 ⟨vs,H1,I1,r1,q1⟩=>hc pins s1 σ H1 vs us Q I1 r1 q1) he hpl
end
end L2
namespace HT
open PySem PyProof.Rows
section
open PySem.SeqAt
open PySem.AutoSeq1 (wpAny_loadPart')
open PySem.MeetsSeq PySem.MeetsSeq2 PySem.MeetsSeq3
end
section
variable {prog:Program} {w:World} {A:Around} {E:Value->Shared->Prop} {s:Shared}
theorem cat_tup {t b:Addr} {vs ws:List Value} {Q:Value->Shared->Prop} (ht:IsTup s.heap t vs.toArray) (hb:IsTup s.heap b ws.toArray) (hv:vs ≠ [])
  (h1:ws=[]->Q (.ref t) s) (h2:ws ≠ []->Q (.ref s.heap.objs.size) { s with heap:=s.heap.push { cls:= .type "tuple",data:= .seq (vs++ws).toArray } })
  (hsz:vs.length+ws.length<=sizeLine):wpAny (model prog w) A (binaryOp .Add (.ref t) (.ref b)) Q E s:=by
 obtain ⟨⟨cls,dd,data,sl⟩,ho,hc,n,hd⟩:=id ht
 obtain ⟨⟨cls2,dd2,data2,sl2⟩,ho2,hc2,n2,hd2⟩:=id hb
 simp only at hc hd hc2 hd2
 subst hc hd hc2 hd2
 have e:vs.toArray++ws.toArray=(vs++ws).toArray:=by simp
 by_cases hw:ws=[]
 ·exact concat_meets ⟨_,ho,rfl⟩ ⟨_,ho2,rfl⟩ noFill_tuple_add seq_tuple_add PySem.F.slot_tuple_add PySem.F.entry_tuple_add (PySem.F.args_tuple_add_2 _ _)
   (tuple_addW1 t b vs.toArray ws.toArray n n2 dd dd2 sl sl2 (by simpa using hv) (by simp [hw])) ⟨ho,ho2,h1 hw⟩
 ·refine concat_meets ⟨_,ho,rfl⟩ ⟨_,ho2,rfl⟩ noFill_tuple_add seq_tuple_add PySem.F.slot_tuple_add PySem.F.entry_tuple_add (PySem.F.args_tuple_add_2 _ _)
   (tuple_addW2 t b vs.toArray ws.toArray n n2 dd dd2 sl sl2 (by simpa using hv) (by simpa using hw) (by rw [List.size_toArray,List.size_toArray]; exact hsz)) ⟨ho,ho2, ?_⟩
  rw [e]
  exact h2 hw
def sIx (n d:Nat):Option Int->Nat
 | none=>d
 | some v=>if v < 0 then (v+(n:Int)).toNat else min v.toNat n
theorem sIx_none (n d:Nat):sIx n d none=d:=rfl
theorem sIx_nat (n d k:Nat):sIx n d (some (k:Int))=min k n:=by
 show (if (k:Int) < 0 then ((k:Int)+(n:Int)).toNat else min (k:Int).toNat n)=min k n
 rw [if_neg (by omega),Int.toNat_natCast]
theorem kb (n d:Nat) (hd:d<=n) (o:Option Int):sIx n d o<=n:=by
 cases o with
 | none=>exact hd
 | some v=>
  show (if v < 0 then (v+(n:Int)).toNat else min v.toNat n)<=n
  by_cases hv:v < 0
  ·rw [if_pos hv]; omega
  ·rw [if_neg hv]; exact Nat.min_le_right _ _
theorem Yu (v:Int) (n d:Nat):(if v < 0 then max (v+(n:Int)) 0 else min v (n:Int))=((sIx n d (some v):Nat):Int):=by
 show (if v < 0 then max (v+(n:Int)) 0 else min v (n:Int))=(((if v < 0 then (v+(n:Int)).toNat else min v.toNat n):Nat):Int)
 by_cases hv:v < 0
 ·simp only [if_pos hv]; omega
 ·simp only [if_neg hv]; omega
theorem yC (lo hi:Option Int) (n:Nat):Builtin.Slice.sliceAdjust lo hi 1 (n:Int)=(((sIx n 0 lo:Nat):Int),((sIx n n hi:Nat):Int)):=by
 have h1:¬ ((1:Int) < 0):=by omega
 unfold Builtin.Slice.sliceAdjust
 simp only [h1,if_false]
 refine Prod.ext ?_ ?_
 ·cases lo with
  | none=>rfl
  | some v=>exact Yu v n 0
 ·cases hi with
  | none=>rfl
  | some v=>exact Yu v n n
theorem yD (i j:Nat):Builtin.Slice.slicePlaces (i:Int) (j:Int) 1=j - i:=by
 unfold Builtin.Slice.slicePlaces
 have h1:(1:Int) > 0:=by omega
 simp only [h1,if_true,Int.ediv_one]
 split <;> omega
theorem W5 {v:Value} {o:Option Int} {Q:Option Int->Shared->Prop} (p:IsPart v o) (h:Q o s):wpAny (model prog w) A (Builtin.Slice.slicePartIndex v) Q E s:=by
 cases p with
 | none=>exact slicePart_none h
 | int i t=>exact slicePart_int h
theorem sliceApplied_gen {sl:Addr} {vl vu:Value} {lo hi:Option Int} {n:Nat} {Q:Int×Int×Nat->Shared->Prop} (hs:s.heap.IsSliceOf sl vl vu .none) (pl:IsPart vl lo) (pu:IsPart vu hi)
  (h:Q (((sIx n 0 lo:Nat):Int),1,sIx n n hi - sIx n 0 lo) s):wpAny (model prog w) A (Builtin.Slice.sliceApplied (.ref sl) (pure (n:Int))) Q E s:=by
 obtain ⟨os,hos,hcs,hds⟩:=id hs
 unfold Builtin.Slice.sliceApplied Builtin.Slice.sliceFields
 refine wpAny_bind (wpAny_bind (wpAny_field hos hds (x:=vl) rfl (wpAny_bind (wpAny_field hos hds (x:=vu) rfl (wpAny_bind (wpAny_field hos hds (x:= .none) rfl (wpAny_pure ?_)))))))
 refine wpAny_bind (slicePart_none ?_)
 show wpAny _ _ (if ((1:Int) == 0)=true then _ else _) _ _ s
 rw [if_neg (by decide)]
 refine wpAny_bind (W5 pl (wpAny_bind (W5 pu (wpAny_bind (wpAny_pure ?_)))))
 show wpAny _ _ (match Builtin.Slice.sliceAdjust lo hi 1 (n:Int) with | (lo,hi)=>pure (lo,(1:Int),Builtin.Slice.slicePlaces lo hi 1)) _ _ s
 rw [yC lo hi n]
 show wpAny _ _ (pure (((sIx n 0 lo:Nat):Int),(1:Int),Builtin.Slice.slicePlaces ((sIx n 0 lo:Nat):Int) ((sIx n n hi:Nat):Int) 1)) _ _ s
 rw [yD]
 exact wpAny_pure h
theorem QN (xs:Array Value) (i k:Nat):((List.range k).filterMap fun (m:Nat)=>xs[((i:Int)+(m:Int)*1).toNat]?).toArray=((xs.toList.drop i).take k).toArray:=by
 have e:(fun (m:Nat)=>xs[((i:Int)+(m:Int)*1).toNat]?)=fun m=>xs[i+m]? :=by
  funext m
  have:((i:Int)+(m:Int)*1).toNat=i+m:=by omega
  rw [this]
 rw [e]
 have:=pick_run xs i k
 rw [List.filterMap_map] at this
 have e2:((fun x=>xs[x]?) ∘ fun x=>i+x)=fun m=>xs[i+m]? :=rfl
 rw [e2] at this
 rw [this]
theorem getItem_tuple_cut {t sl:Addr} {items:Array Value} {vl vu:Value} {lo hi:Option Int} {Q:Value->Shared->Prop} (ht:IsTup s.heap t items) (hs:s.heap.IsSliceOf sl vl vu .none) (pl:IsPart vl lo) (pu:IsPart vu hi)
  (hw:¬ (sIx items.size 0 lo=0/\sIx items.size items.size hi=items.size))
  (h:Q (.ref s.heap.objs.size) { s with heap:=s.heap.push { cls:= .type "tuple",data:= .seq ((items.toList.drop (sIx items.size 0 lo)).take (sIx items.size items.size hi - sIx items.size 0 lo)).toArray } })
  (hsz:items.size<=sizeLine):wpAny (model prog w) A (getItem (.ref t) (.ref sl)) Q E s:=by
 have htake:sizeOk (.seq ((items.toList.drop (sIx items.size 0 lo)).take (sIx items.size items.size hi - sIx items.size 0 lo)).toArray):=by
  show ((items.toList.drop (sIx items.size 0 lo)).take (sIx items.size items.size hi - sIx items.size 0 lo)).toArray.size<=sizeLine
  rw [List.size_toArray,List.length_take,List.length_drop,Array.length_toList]
  omega
 have hj:sIx items.size items.size hi<=items.size:=kb _ _ (Nat.le_refl _) hi
 obtain ⟨os,hos,hcs,hds⟩:=id hs
 have hTs:s.TypeIs (.ref sl) "slice":=⟨os,hos,hcs⟩
 unfold getItem
 try with_reducible refine wpAny_holding ?_
 first | refine wpAny_bind (wpAny_pure ?_) | skip
 refine wpAny_bind (wpAny_sequenceKey ht.typeIs (by decide) ?_)
 refine wpAny_bind (wpAny_callSpecial?_slot (name:=Str.ofString "__getitem__") ht.typeIs PyProof.Rows.slot_tuple_getitem
  (wpAny_call_entry PyProof.Rows.slot_tuple_getitem ht.typeIs entry_tuple_getitem ?_ (args_tuple_getitem _ _)))
 show wpAny _ _ (Builtin.Tuple.tupleItemsOf (.ref t) >>= _) _ _ s
 refine wpAny_bind (tupleItemsOf_ ht ?_)
 refine wpAny_bind (wpAny_typeOf hTs ?_)
 rw [if_pos (by decide)]
 refine wpAny_bind (sliceApplied_gen hs pl pu ?_)
 have hno:¬ ((((sIx items.size 0 lo:Nat):Int) == 0 && (1:Int) == 1 && (sIx items.size items.size hi - sIx items.size 0 lo) == items.size)=true):=by
  intro q
  rw [Bool.and_eq_true,Bool.and_eq_true] at q
  have q1:((sIx items.size 0 lo:Nat):Int)=0:=eq_of_beq q.1.1
  have q2:sIx items.size items.size hi - sIx items.size 0 lo=items.size:=eq_of_beq q.2
  exact hw ⟨by omega,by omega⟩
 show wpAny _ _ (if (((sIx items.size 0 lo:Nat):Int) == 0 && (1:Int) == 1 && (sIx items.size items.size hi - sIx items.size 0 lo) == items.size)=true then _ else _) _ _ s
 rw [if_neg hno,QN]
 first
  | exact wpAny_bind (m:=Builtin.Tuple.tupleExact _) (wpAny_newObj_type (wpAny_pure ⟨_,rfl,wpAny_pure h⟩) htake)
  | exact wpAny_bind (m:=Builtin.Tuple.tupleExact _) (wpAny_newObj_type (wpAny_bind (wpAny_pure (wpAny_pure ⟨_,rfl,wpAny_pure h⟩))) htake)
  | exact wpAny_bind (wpAny_bind (m:=Builtin.Tuple.tupleExact _) (wpAny_newObj_type (wpAny_pure (wpAny_pure ⟨_,rfl,wpAny_pure h⟩)) htake))
  | exact wpAny_bind (wpAny_bind (m:=Builtin.Tuple.tupleExact _) (wpAny_newObj_type (wpAny_pure ⟨_,rfl,wpAny_pure h⟩) htake))
end
end HT
namespace L2
open PySem PySem.Spec PyProof.Rows
abbrev TO:=St->Hp->(Option Int->Hp->Prop)->Prop
def PO (X:Cx) (e:Option Expr) (t:TO):Prop:=
 ∀ (pins:List (Addr×Obj)) (s:Shared) (σ:St) (H:Hp) (Q:Option Int->Hp->Prop),Inv X pins σ H s->t σ H Q->
  wpAny (model X.prog X.w) X.A (evalPart e X.env) (fun u s' =>∃ o H',Inv X pins σ H' s' /\IsPart u o/\Q o H') X.xe s
def VL:TO:=fun _ H Q=>Q none H
def gH (t:TE):TO:=fun σ H Q=>t σ H fun x H1=>∃ i,x= .int i/\Q (some i) H1
section
variable {X:Cx} {e:Expr} {te:TE} {lo hi:Option Expr} {tl th:TO} {pos p2:Pos}
theorem VM:PO X none VL:=by
 intro pins s σ H Q I h
 rw [evalPart_none]
 exact wpAny_pure ⟨none,H,I, .none,h⟩
theorem VN (h:PE X e te):PO X (some e) (gH te):=by
 intro pins s σ H Q I hw
 rw [evalPart_some]
 refine thn (h pins s σ H _ I hw) fun u s1 ⟨x,H1,I1,r1,q1⟩=> ?_
 obtain ⟨i,rfl,q⟩:=q1
 obtain ⟨t,rfl⟩:=r1
 exact ⟨some i,H1,I1, .int i t,q⟩
def SlR (X:Cx) (r:V->Option Int->Option Int->Hp->VK->Prop):Prop:=
 ∀ (pins:List (Addr×Obj)) (s:Shared) (σ:St) (H:Hp) (x:V) (v vl vu:Value) (lo hi:Option Int) (sl:Addr) (Q:VK),Inv X pins σ H s->ZL x v->s.heap.IsSliceOf sl vl vu .none->IsPart vl lo->IsPart vu hi->r x lo hi H Q->
  ∃ T id,typeLookup (.type T) "__getitem__"=pure (some (.builtin id))/\s.TypeIs v T/\wpAny (model X.prog X.w) X.A (getItem v (.ref sl)) (EP X pins σ Q) X.xe s
theorem SlR.or {r r' :V->Option Int->Option Int->Hp->VK->Prop} (h:SlR X r) (h' :SlR X r'):SlR X (fun x lo hi H Q=>r x lo hi H Q\/r' x lo hi H Q):=by
 intro pins s σ H x v vl vu lo hi sl Q I rx hs pl pu q
 rcases q with q | q
 ·exact h pins s σ H x v vl vu lo hi sl Q I rx hs pl pu q
 ·exact h' pins s σ H x v vl vu lo hi sl Q I rx hs pl pu q
def tSl (r:V->Option Int->Option Int->Hp->VK->Prop) (te:TE) (tl th:TO):TE:=fun σ H Q=>te σ H fun x H1=>tl σ H1 fun l H2=>th σ H2 fun u H3=>r x l u H3 Q
theorem QO {r:V->Option Int->Option Int->Hp->VK->Prop} (hr:SlR X r) (he:PE X e te) (hl:PO X lo tl) (hu:PO X hi th):PE X (.Subscript e (.Slice lo hi none p2) pos) (tSl r te tl th):=by
 intro pins s σ H Q I h
 refine Subscript_ (thn (he pins s σ H _ I h) fun v s1 ⟨x,H1,I1,r1,q1⟩=> ?_)
 refine wpAny_Slice (thn (hl pins s1 σ H1 _ I1 q1) fun vl s2 ⟨l,H2,I2,pl,q2⟩=>thn (hu pins s2 σ H2 _ I2 q2) fun vu s3 ⟨u,H3,I3,pu,q3⟩=> ?_)
 rw [evalPart_none]
 refine wpAny_pure ?_
 have I4:Inv X pins σ H3 { s3 with heap:=s3.heap.push { cls:= .type "slice",data:= .fields #[vl,vu, .none] } }:=I3.kept (t' :=s3.toks) fun b ob q=>Heap.get?_push_of_some _ q
 obtain ⟨T,id,hT,ht,hg⟩:=hr pins { s3 with heap:=s3.heap.push { cls:= .type "slice",data:= .fields #[vl,vu, .none] } } σ H3 x v vl vu l u s3.heap.objs.size Q I4 r1 (Heap.IsSliceOf.new ..) pl pu q3
 show wpAny (model X.prog X.w) X.A (subscriptTail e (.Slice lo hi none p2) v (.ref s3.heap.objs.size)) (EP X pins σ Q) X.xe { s3 with heap:=s3.heap.push { cls:= .type "slice",data:= .fields #[vl,vu, .none] } }
 exact tail_any (ops:=[.ref s3.heap.objs.size,v]) ht hT hg (by with_unfolding_all rfl)
def V4 (xs:List V) (lo hi:Option Int):List V:=(xs.drop (HT.sIx xs.length 0 lo)).take (HT.sIx xs.length xs.length hi - HT.sIx xs.length 0 lo)
theorem wv (xs:List V) (lo hi:Option Int):(V4 xs lo hi).length<=xs.length:=by
 unfold V4
 rw [List.length_take,List.length_drop]
 omega
def rSlT (K:PySem.W.Frag):V->Option Int->Option Int->Hp->VK->Prop:=fun x lo hi H Q=>∃ a xs,x= .ref a/\SqT K H a xs/\
 ¬ (HT.sIx xs.length 0 lo=0/\HT.sIx xs.length xs.length hi=xs.length)/\∀ p,H p=none->Q (.ref p) (upd H p (.tup (V4 xs lo hi)))
theorem kd:SlR X (rSlT X.K):=by
 intro pins s σ H x v vl vu lo hi sl Q I rx hs pl pu h
 obtain ⟨a,xs,rfl,hx,hw,q⟩:=h
 cases rx
 obtain ⟨its,r,ht,hz⟩:=I.tuple hx
 have hlen:its.toArray.size=xs.length:=by rw [List.size_toArray]; exact r.length.symm
 refine ⟨"tuple",_,PyProof.Rows.slot_tuple_getitem.lookup,ht.typeIs, ?_⟩
 refine HT.getItem_tuple_cut ht hs pl pu (by rw [hlen]; exact hw) ?_ (by rw [hlen]; exact hz)
 rw [hlen]
 refine ⟨.ref s.heap.objs.size,_,I.laid (t' :=s.toks) (o:= .tup (V4 xs lo hi)) (fun b ob q=>Heap.get?_push_of_some _ q) (Nat.le_refl _) ?_,rfl,q _ (I.hok.fresh (Nat.le_refl _))⟩
 exact ⟨Nat.le_trans (wv xs lo hi) hz,_,(r.drop (HT.sIx xs.length 0 lo)).take (HT.sIx xs.length xs.length hi - HT.sIx xs.length 0 lo),IsTup.new _ _⟩
def gI (K:PySem.W.Frag):R2:=fun x y H Q=>∃ a b xs ys,x= .ref a/\y= .ref b/\SqT K H a xs/\SqT K H b ys/\xs ≠ []/\xs.length+ys.length<=sizeLine/\
 (ys=[]->Q (.ref a) H)/\(ys ≠ []->∀ p,H p=none->Q (.ref p) (upd H p (.tup (xs++ys))))
theorem ZE.nil_iff {xs:List V} {us:List Value} (r:ZE xs us):us=[]↔xs=[]:=by
 cases r with
 | nil=>simp
 | cons _ _=>simp
theorem VO:OpR X (binaryOp .Add) (gI X.K):=by
 intro pins s σ H x y v u Q I rx ry h
 obtain ⟨a,b,xs,ys,rfl,rfl,ha,hb,hx,hz,q1,q2⟩:=h
 cases rx
 cases ry
 obtain ⟨its,r1,p1,_⟩:=I.tuple ha
 obtain ⟨its2,r2,p2,_⟩:=I.tuple hb
 refine HT.cat_tup p1 p2 (fun z=>hx (r1.nil_iff.mp z)) (fun z=>⟨.ref a,H,I,rfl,q1 (r2.nil_iff.mp z)⟩) (fun z=> ?_) (by rw [← r1.length,← r2.length]; exact hz)
 refine ⟨.ref s.heap.objs.size,_,I.laid (t' :=s.toks) (o:= .tup (xs++ys)) (fun b ob q=>Heap.get?_push_of_some _ q) (Nat.le_refl _) ?_,rfl,q2 (fun w=>z (r2.nil_iff.mpr w)) _ (I.hok.fresh (Nat.le_refl _))⟩
 exact ⟨by rw [List.length_append]; exact hz,_,r1.append r2,IsTup.new _ _⟩
end
end L2
namespace L2
open PySem PySem.Spec PyProof.Rows
def ixN (n:Nat) (i:Int):Option Nat:=if 0<=i then (if i < n then some i.toNat else none) else if -(n:Int)<=i then some (i+n).toNat else none
def atI {α:Type} (xs:List α) (i:Int):Option α:=(ixN xs.length i).bind fun j=>xs[j]?
theorem VP {n:Nat} {i:Int} {j:Nat} (h:ixN n i=some j):seqIndex? i n=some j/\j < n/\ -(n:Int)<=i/\i < n:=by
 unfold ixN at h
 by_cases h0:0<=i
 ·rw [if_pos h0] at h
  by_cases h1:i < n
  ·rw [if_pos h1] at h
   have e:i.toNat=j:=Option.some.inj h
   exact ⟨by rw [seqIndex_of h0 h1,e],by omega,by omega,h1⟩
  ·rw [if_neg h1] at h; cases h
 ·rw [if_neg h0] at h
  by_cases h1: -(n:Int)<=i
  ·rw [if_pos h1] at h
   have e:(i+n).toNat=j:=Option.some.inj h
   exact ⟨by rw [seqIndex_neg (by omega) h1,e],by omega,h1,by omega⟩
  ·rw [if_neg h1] at h; cases h
theorem U5 {α:Type} {xs:List α} {i:Int} {v:α} (h:atI xs i=some v):∃ j,seqIndex? i xs.length=some j/\xs[j]? =some v/\j < xs.length/\ -(xs.length:Int)<=i/\i < xs.length:=by
 unfold atI at h
 cases e:ixN xs.length i with
 | none=>rw [e] at h; cases h
 | some j=>
  rw [e] at h
  obtain ⟨h1,h2,h3,h4⟩:=VP e
  exact ⟨j,h1,h,h2,h3,h4⟩
theorem jp {α:Type} {xs:List α} {j:Nat} {v:α} (h:xs[j]? =some v):atI xs (j:Int)=some v:=by
 have hj:j < xs.length:=(List.getElem?_eq_some_iff.mp h).1
 have e:ixN xs.length (j:Int)=some j:=by
  unfold ixN
  rw [if_pos (by omega),if_pos (by omega)]; simp
 unfold atI; rw [e]; exact h
def Yv (b:Expr):Prop:=∀ o i,subscripted b false o i=operate [o,i] (getItem o i)
def IxR (X:Cx) (r:R2):Prop:=
 ∀ (value slice:Expr) (pins:List (Addr×Obj)) (s:Shared) (σ:St) (H:Hp) (x y:V) (v u:Value) (Q:VK),Inv X pins σ H s->ZL x v->ZL y u->r x y H Q->
  subscripted slice false v u=operate [v,u] (getItem v u)->wpAny (model X.prog X.w) X.A (subscriptTail value slice v u) (EP X pins σ Q) X.xe s
def MtR (X:Cx) (id:String) (r:V->List V->Hp->VK->Prop):Prop:=
 ∀ (pins:List (Addr×Obj)) (s:Shared) (σ:St) (H:Hp) (x:V) (xs:List V) (v:Value) (us:List Value) (Q:VK),Inv X pins σ H s->ZL x v->ZE xs us->r x xs H Q->
  wpAny (model X.prog X.w) X.A (call (.builtin id) (v :: us)) (EP X pins σ Q) X.xe s
section
variable {X:Cx} {a b:Expr} {ta tb:TE} {pos:Pos}
theorem IxR.or {r r' :R2} (h:IxR X r) (h' :IxR X r'):IxR X (fun x y H Q=>r x y H Q\/r' x y H Q):=by
 intro value slice pins s σ H x y v u Q I rx ry q hs
 rcases q with q | q
 ·exact h value slice pins s σ H x y v u Q I rx ry q hs
 ·exact h' value slice pins s σ H x y v u Q I rx ry q hs
theorem gJ {r:R2} (hr:IxR X r) (ha:PE X a ta) (hb:PE X b tb) (hs:Yv b):PE X (.Subscript a b pos) (tOp r ta tb):=by
 intro pins s σ H Q I h
 exact Subscript_ (gw ha hb I h fun v u s2 x y H2 I2 rx ry q=>hr a b pins s2 σ H2 x y v u Q I2 rx ry q (hs _ _))
def GX (K:PySem.W.Frag):R2:=fun x y H Q=>∃ p xs i v,x= .ref p/\y= .int i/\SqL K H p xs/\atI xs i=some v/\Q v H
def GY (K:PySem.W.Frag):R2:=fun x y H Q=>∃ p xs i v,x= .ref p/\y= .int i/\SqT K H p xs/\atI xs i=some v/\Q v H
def GZ:R2:=fun x y H Q=>∃ z i c,x= .str z/\y= .int i/\z.length<=sizeLine/\atI z.cps.toList i=some c/\Q (.str ⟨#[c]⟩) H
theorem VQ:IxR X (GX X.K):=by
 intro value slice pins s σ H x y v u Q I rx ry h hs
 obtain ⟨p,xs,i,z,rfl,rfl,hq,he,q⟩:=h
 cases rx
 obtain ⟨t,rfl⟩:=ry
 obtain ⟨its,r,pl,hz⟩:=I.list hq
 obtain ⟨j,h1,h2,h3,h4,h5⟩:=U5 he
 obtain ⟨w,ew,rw'⟩:=r.get h2
 have hl:=r.length
 have hn:=W4
 have fin:EP X pins σ Q w s:=⟨z,H,I,rw',q⟩
 by_cases h0:0<=i
 ·have hj:i.toNat=j:=by
   rw [seqIndex_of h0 h5] at h1
   exact Option.some.inj h1
  exact item_listR pl.isList h0 (by omega) (by rw [hj]; simpa using ew) fin hs
 ·have hj:(i+(its.toArray.size:Int)).toNat=j:=by
   rw [seqIndex_neg (by omega) h4] at h1
   rw [List.size_toArray,← hl]
   exact Option.some.inj h1
  exact subscriptTail_builtinR (x:=w) pl.isList.typeIs slot_list_getitem.lookup
   (wpAny_getItem_list_neg (Q:=fun r s' =>r=w/\EP X pins σ Q r s') pl.isList (by omega) (by rw [List.size_toArray] <;> omega) (by omega) (by rw [hj]; simpa using ew) ⟨rfl,fin⟩) hs
theorem ke:IxR X (GY X.K):=by
 intro value slice pins s σ H x y v u Q I rx ry h hs
 obtain ⟨p,xs,i,z,rfl,rfl,hq,he,q⟩:=h
 cases rx
 obtain ⟨t,rfl⟩:=ry
 obtain ⟨its,r,pl,hz⟩:=I.tuple hq
 obtain ⟨j,h1,h2,h3,h4,h5⟩:=U5 he
 obtain ⟨w,ew,rw'⟩:=r.get h2
 have hl:=r.length
 have hn:=W4
 have fin:EP X pins σ Q w s:=⟨z,H,I,rw',q⟩
 exact subscriptTail_builtinR (x:=w) pl.typeIs slot_tuple_getitem.lookup
  (getItem_tuple (j:=j) (Q:=fun r s' =>r=w/\EP X pins σ Q r s') pl (by omega) (by omega) (by rw [List.size_toArray,← hl]; exact h1) (by simpa using ew) ⟨rfl,fin⟩) hs
theorem kf:IxR X GZ:=by
 intro value slice pins s σ H x y v u Q I rx ry h hs
 obtain ⟨z,i,c,rfl,rfl,hz,he,q⟩:=h
 obtain ⟨t,rfl⟩:=rx
 obtain ⟨t',rfl⟩:=ry
 obtain ⟨j,h1,h2,h3,h4,h5⟩:=U5 he
 have hl:z.cps.toList.length=z.length:=by simp [Str.length]
 rw [hl] at h1 h4 h5
 have hn:=W4
 exact tail_any (typeIs_str s z t) slot_str_getitem.lookup (getItem_str (c:=c) (by
  have e1:decide (i < -(2 ^ 63:Int))=false:=decide_eq_false (by omega)
  have e2:decide (i ≥ 2 ^ 63)=false:=decide_eq_false (by omega)
  rw [e1,e2,Bool.or_false]) (by rw [h1]; simpa using h2) ⟨.str ⟨#[c]⟩,H,I.tok _,⟨_,rfl⟩,q⟩) hs
def rIx (K:PySem.W.Frag):R2:=fun x y H Q=>GX K x y H Q\/GY K x y H Q\/GZ x y H Q
theorem kg:IxR X (rIx X.K):=VQ.or (ke.or kf)
theorem ub (lo hi:Option Int) (n:Nat):(sliceBounds lo hi none n).1=((HT.sIx n 0 lo:Nat):Int)/\(sliceBounds lo hi none n).2.1=((HT.sIx n n hi:Nat):Int)/\(sliceBounds lo hi none n).2.2=1:=by
 refine ⟨?_, ?_,rfl⟩
 ·cases lo with
  | none=>simp [sliceBounds,HT.sIx]
  | some i=>
   simp only [sliceBounds,HT.sIx,Option.getD_none,show (1:Int) > 0 by decide,if_true]
   by_cases h:i < 0
   ·simp only [h,if_true] <;> omega
   ·simp only [h,if_false] <;> omega
 ·cases hi with
  | none=>simp [sliceBounds,HT.sIx]
  | some i=>
   simp only [sliceBounds,HT.sIx,Option.getD_none,show (1:Int) > 0 by decide,if_true]
   by_cases h:i < 0
   ·simp only [h,if_true] <;> omega
   ·simp only [h,if_false] <;> omega
theorem Wn (its:List Value) (lo hi:Option Int):slicePick its.toArray lo hi none=((its.drop (HT.sIx its.length 0 lo)).take (HT.sIx its.length its.length hi - HT.sIx its.length 0 lo)).toArray:=by
 obtain ⟨h1,h2,h3⟩:=ub lo hi its.toArray.size
 unfold slicePick
 rw [h1,h2,h3]
 simp only [sliceRange_one,pick_run,List.size_toArray] <;> rfl
def rSlL (K:PySem.W.Frag):V->Option Int->Option Int->Hp->VK->Prop:=fun x lo hi H Q=>∃ a xs,x= .ref a/\SqL K H a xs/\∀ p,H p=none->Q (.ref p) (upd H p (.lst (V4 xs lo hi)))
theorem VR:SlR X (rSlL X.K):=by
 intro pins s σ H x v vl vu lo hi sl Q I rx hs pl pu h
 obtain ⟨a,xs,rfl,hx,q⟩:=h
 cases rx
 obtain ⟨its,r,ht,hz⟩:=I.list hx
 have hlen:=r.length
 refine ⟨"list",_,slot_list_getitem.lookup,ht.isList.typeIs, ?_⟩
 refine wpAny_getItem_list_slice ht.isList hs pl pu .none (by simp) ?_ (by rw [List.size_toArray] <;> omega)
 rw [Wn,← hlen]
 refine ⟨.ref s.heap.objs.size,_,I.laid (t' :=s.toks) (o:= .lst (V4 xs lo hi)) (fun b ob q=>Heap.get?_push_of_some _ q) (Nat.le_refl _) ?_,rfl,q _ (I.hok.fresh (Nat.le_refl _))⟩
 exact ⟨Nat.le_trans (wv xs lo hi) hz,_,0,(r.drop (HT.sIx xs.length 0 lo)).take (HT.sIx xs.length xs.length hi - HT.sIx xs.length 0 lo),Heap.get?_push_size _ rfl⟩
theorem uc:j4 X (.builtin "len") (fun xs H Q=>∃ p ys,xs=[.ref p]/\(SqL X.K H p ys\/SqT X.K H p ys)/\Q (.int ys.length) H):=by
 intro pins s σ H xs us Q I r h
 obtain ⟨p,ys,rfl,hq,q⟩:=h
 obtain ⟨u,rfl,rx⟩:=jI r
 cases rx
 have hn:=W4
 rcases hq with hq | hq
 ·obtain ⟨its,r',pl,hz⟩:=I.list hq
  have hlen:=r'.length
  exact Calls.call_len_list pl.isList (by simp only [List.size_toArray] <;> omega) ⟨.int ys.length,H,I.tok _,⟨s.toks+1,by rw [List.size_toArray,hlen]⟩,q⟩
 ·obtain ⟨its,r',pl,hz⟩:=I.tuple hq
  have hlen:=r'.length
  exact len_tuple pl (by simp only [List.size_toArray] <;> omega) ⟨.int ys.length,H,I.tok _,⟨s.toks+1,by rw [List.size_toArray,hlen]⟩,q⟩
theorem ud:j4 X (.builtin "len") (fun xs H Q=>∃ z,xs=[.str z]/\z.length<=sizeLine/\Q (.int z.length) H):=by
 intro pins s σ H xs us Q I r h
 obtain ⟨z,rfl,hz,q⟩:=h
 obtain ⟨u,rfl,t,rfl⟩:=jI r
 have hn:=W4
 exact len_str (by omega) ⟨.int z.length,H,I.tok _,⟨_,rfl⟩,q⟩
theorem j4.or {f:Value} {r r' :List V->Hp->VK->Prop} (h:j4 X f r) (h' :j4 X f r'):j4 X f (fun xs H Q=>r xs H Q\/r' xs H Q):=by
 intro pins s σ H xs us Q I rs q
 rcases q with q | q
 ·exact h pins s σ H xs us Q I rs q
 ·exact h' pins s σ H xs us Q I rs q
theorem Wo:j4 X (.type "tuple") (fun xs H Q=>∃ p ys,xs=[.ref p]/\((SqL X.K H p ys/\∀ l,H l=none->Q (.ref l) (upd H l (.tup ys)))\/(SqT X.K H p ys/\Q (.ref p) H))):=by
 intro pins s σ H xs us Q I r h
 obtain ⟨p,ys,rfl,h⟩:=h
 obtain ⟨u,rfl,rx⟩:=jI r
 cases rx
 rcases h with ⟨hq,q⟩ | ⟨hq,q⟩
 ·obtain ⟨its,r',pl,hz⟩:=I.list hq
  have hlen:=r'.length
  refine call_tuple_list pl.isList (fun h' kp=> ?_) (by simp only [List.size_toArray] <;> omega)
  have I1:Inv X pins σ H { s with heap:=h' }:=I.kept (t' :=s.toks) kp
  have I2:Inv X pins σ (upd H h'.objs.size (.tup ys)) { s with heap:=h'.push { cls:= .type "tuple",data:= .seq its.toArray } }:=
   I1.laid (t' :=s.toks) (fun b o e=>Heap.get?_push_of_some _ e) (Nat.le_refl _) (show ZH X.prog X.w _ _ _ (.tup ys) from ⟨hz,its,r',IsTup.new _ _⟩)
  exact ⟨.ref h'.objs.size,_,I2,rfl,q _ (I1.hok.fresh (Nat.le_refl _))⟩
 ·obtain ⟨its,r',pl,hz⟩:=I.tuple hq
  exact call_tuple_same pl ⟨.ref p,H,I,rfl,q⟩
def tyV (K:PySem.W.Frag) (T:String) (x:V) (H:Hp):Prop:=match x with
 | .str _=>T="str"
 | .int _=>T="int"
 | .ref p=>(T="list"/\∃ xs,SqL K H p xs)\/(T="tuple"/\∃ o,K.lookup p=some o/\o.cls= .type "tuple"/\o.dict=none)\/
   (T="dict"/\((∃ kvs,H p=some (.dK kvs))\/∃ kvs,H p=some (.dT kvs)))\/(T="set"/\∃ S n,H p=some (.set S n))
 | _=>False
theorem kh {pins:List (Addr×Obj)} {σ:St} {H:Hp} {s:Shared} {T:String} {x:V} {v:Value} (I:Inv X pins σ H s) (r:ZL x v) (ty:tyV X.K T x H):
  s.TypeIs v T/\∀ a,v= .ref a->∃ ob,s.heap.get? a=some ob/\ob.dict=none:=by
 cases x with
 | str z=>
  obtain ⟨t,rfl⟩:=r
  cases (show T="str" from ty)
  exact ⟨typeIs_str s z t,fun _ e=>nomatch e⟩
 | int i=>
  obtain ⟨t,rfl⟩:=r
  cases (show T="int" from ty)
  exact ⟨typeIs_int s i t,fun _ e=>nomatch e⟩
 | ref p=>
  cases r
  rcases ty with ⟨rfl,xs,hq⟩ | ⟨rfl,o,hk,hc,hd⟩ | ⟨rfl,hk⟩ | ⟨rfl,S,n,hk⟩
  ·obtain ⟨its,_,pl,_⟩:=I.list hq
   refine ⟨pl.isList.typeIs,fun a e=> ?_⟩
   cases e
   obtain ⟨o,n,e,c,hd,_⟩:=pl
   exact ⟨o,e,hd⟩
  ·refine ⟨⟨o,I.kIn p o hk,hc⟩,fun a e=> ?_⟩
   cases e
   exact ⟨o,I.kIn _ o hk,hd⟩
  ·have z:∃ o,s.heap.get? p=some o/\o.ExactDict:=by
    rcases hk with ⟨kvs,hk⟩ | ⟨kvs,hk⟩
    ·obtain ⟨_,_,_,_,o,_,_,e,ex,_⟩:=I.hok p _ hk
     exact ⟨o,e,ex⟩
    ·obtain ⟨_,_,_,_,o,_,_,e,ex,_⟩:=I.hok p _ hk
     exact ⟨o,e,ex⟩
   obtain ⟨o,e,ex⟩:=z
   refine ⟨⟨o,e,ex.1⟩,fun a e2=> ?_⟩
   cases e2
   exact ⟨o,e,ex.2.1⟩
  ·obtain ⟨o,_,_,_,e,ex,_⟩:=I.hok p _ hk
   refine ⟨⟨o,e,ex.1⟩,fun a e2=> ?_⟩
   cases e2
   exact ⟨o,e,ex.2.1⟩
 | _=>exact False.elim ty
def tBM (K:PySem.W.Frag) (T:String) (r:V->List V->Hp->VK->Prop) (to:TE) (t:TA):TE:=fun σ H Q=>to σ H fun x H1=>tyV K T x H1/\t σ H1 fun xs H2=>r x xs H2 Q
variable {o e:Expr} {es:List Expr} {to:TE} {t:TA} {name:Str} {apos cpos:Pos} {T id:String} {r:V->List V->Hp->VK->Prop}
theorem Yw (pa:PlainAttrs T) (slot:Slot T name id) (hty:typeOf (.builtin id)=pure (.type "method_descriptor")) (hm:MtR X id r) (ho:PE X o to) (ha:PA X (e :: es) t)
  (hbase:attributeBase o name X.env (eval o X.env)=eval o X.env:=by rfl)
  (hfew:((backTo cpos (starEach (e :: es) X.env)).all (fun x=> !x.1) && (backToKw cpos (keywordEach [] X.env)).all (fun x=>x.1.isSome)
   && decide ((e :: es).length+([]:List Keyword).length+(if ([]:List Keyword).isEmpty then 0 else 1) < 30))=true:=by rfl)
  (hline:(apos.endLine == cpos.line)=true:=by rfl) (hs:starEach (e :: es) X.env=(false,eval e X.env) :: starEach es X.env:=by rfl) (hplain:(backTo cpos (starEach es X.env)).any (·.1)=false:=by rfl):
  PE X (.Call (.Attribute o name apos) (e :: es) [] cpos) (tBM X.K T r to t):=by
 intro pins s σ H Q I h
 refine wpAny_Call_method_late hbase hfew hline rfl (thn (ho pins s σ H _ I h) fun v s1 ⟨x,H1,I1,r1,ty,q1⟩=> ?_)
 obtain ⟨h1,h2⟩:=kh I1 r1 ty
 refine ⟨T,id,pa,slot,hty,h1,h2, ?_⟩
 have hA:=ha cpos pins s1 σ H1 _ I1 q1
 rw [hs] at hA ⊢
 refine Calls.callWith_builtin (by show (false || (backTo cpos (starEach es X.env)).any (·.1))=false; rw [hplain] <;> rfl) (Calls.evalArgs_plain ?_)
 exact thn hA fun us s2 ⟨vs,H2,I2,r2,q2⟩=>hm pins s2 σ H2 x vs v us Q I2 r1 r2 q2
end
end L2
namespace L2
open PySem PySem.Spec PyProof.Rows
def MtM (X:Cx) (id:String) (r:V->List V->Hp->VK->Prop):Prop:=
 ∀ (pins:List (Addr×Obj)) (s:Shared) (σ:St) (H:Hp) (x:V) (xs:List V) (v:Value) (us:List Value) (Q:VK),Inv X pins σ H s->ZL x v->ZE xs us->r x xs H Q->
  wpAny (model X.prog X.w) X.A (call (.builtin id) (v :: us)) (EP X pins σ Q) X.xe s
theorem ZE.one:∀ {x:V} {us:List Value},ZE [x] us->∃ u,us=[u]/\ZL x u
 | _,_, .cons r .nil=>⟨_,rfl,r⟩
theorem ZE.rep {xs:List V} {us:List Value} (h:ZE xs us):∀ k:Nat,ZE (List.replicate k xs).flatten (List.replicate k us).flatten
 | 0=> .nil
 | k+1=>by
  rw [List.replicate_succ,List.replicate_succ,List.flatten_cons,List.flatten_cons]
  exact ZE.append h (ZE.rep h k)
theorem Jr (its:List Value):∀ (k:Nat) (acc:List Value),
  List.foldl (fun x1 x2=>x1++x2) acc.toArray (List.replicate k its.toArray)=(acc++(List.replicate k its).flatten).toArray
 | 0,acc=>by simp
 | k+1,acc=>by
  have e:acc.toArray++its.toArray=(acc++its).toArray:=by simp
  have e2:(acc++its)++(List.replicate k its).flatten=acc++(List.replicate (k+1) its).flatten:=by
   rw [List.replicate_succ,List.flatten_cons,List.append_assoc]
  rw [← e2,← Jr its k (acc++its),← e,List.replicate_succ,List.foldl_cons]
section
variable {X:Cx} {pins:List (Addr×Obj)} {σ:St} {H:Hp} {s:Shared} {l b:Addr} {xs ys zs:List V}
theorem Inv.lset {its its' :List Value} {n:Nat} {f:Array Value->Array Value} {t' :Nat} (I:Inv X pins σ H s) (hH:H l=some (.lst xs))
  (e:s.heap.get? l=some { cls:= .type "list",data:= .seq its.toArray n }) (hf:f its.toArray=its'.toArray) (hv:ZE ys its') (hz:ys.length<=sizeLine):
  Inv X pins σ (upd H l (.lst ys)) { s with heap:=s.heap.update l (Obj.mapSeq f),toks:=t' }:=by
 have q:=PySem.IsL.update e f
 rw [hf] at q
 refine I.write (x:=l) (e:=l) (by rw [hH]; exact trivial) (.inl rfl) (fun b' u hb hu=>(Heap.get?_update_other s.heap (Obj.mapSeq f) (Ne.symm hb)).trans hu) ⟨_,q⟩ ?_
 exact ⟨hz,its',_,hv,q⟩
theorem Inv.lnew {its:List Value} {t' :Nat} (I:Inv X pins σ H s) (hv:ZE ys its) (hz:ys.length<=sizeLine):
  Inv X pins σ (upd H s.heap.objs.size (.lst ys)) { s with heap:=s.heap.push { cls:= .type "list",data:= .seq its.toArray },toks:=t' }:=
 I.laid (fun _ _ q=>Heap.get?_push_of_some _ q) (Nat.le_refl _) ⟨hz,its,0,hv,Heap.get?_push_size _ rfl⟩
theorem Inv.fresh (I:Inv X pins σ H s):H s.heap.objs.size=none:=I.hok.fresh (Nat.le_refl _)
theorem Inv.lstM (I:Inv X pins σ H s) (hH:H l=some (.lst xs)):xs.length<=sizeLine/\∃ (its:List Value) (n:Nat),ZE xs its/\xs.length=its.length/\s.heap.get? l=some { cls:= .type "list",data:= .seq its.toArray n }:=by
 obtain ⟨z,its,n,r,e⟩:=I.hok l _ hH
 exact ⟨z,its,n,r,r.length,e⟩
theorem UJ {n:Nat} (h:n<=sizeLine):Builtin.List.listTooLong n=false:=by
 unfold Builtin.List.listTooLong
 exact decide_eq_false (by omega)
end
section
variable {X:Cx}
def VS:V->List V->Hp->VK->Prop:=fun x vs H Q=>∃ l xs y,x= .ref l/\vs=[y]/\H l=some (.lst xs)/\xs.length < sizeLine/\Q .non (upd H l (.lst (xs++[y])))
theorem ue:MtM X "list.append" VS:=by
 intro pins s σ H x vs v us Q I rx rv h
 obtain ⟨l,xs,y,rfl,rfl,hH,hz,q⟩:=h
 cases rx
 obtain ⟨u,rfl,ru⟩:=rv.one
 obtain ⟨z,its,n,r,hl,e⟩:=I.lstM hH
 refine call_meets F.slot_list_append ⟨_,e,rfl⟩ F.entry_list_append (F.args_list_append_2 _ _) (PySem.list_append l its.toArray n u (by rw [List.size_toArray]; omega)) ⟨e, ?_⟩
 refine ⟨.non,_,I.lset (its' :=its++[u]) hH e (by simp) (r.append (.cons ru .nil)) ?_,rfl,q⟩
 rw [List.length_append,List.length_singleton]
 omega
def VT:V->List V->Hp->VK->Prop:=fun x vs H Q=>∃ l b xs zs,x= .ref l/\vs=[.ref b]/\H l=some (.lst xs)/\H b=some (.lst zs)/\xs.length+zs.length<=sizeLine/\Q .non (upd H l (.lst (xs++zs)))
theorem Yx:MtM X "list.extend" VT:=by
 intro pins s σ H x vs v us Q I rx rv h
 obtain ⟨l,b,xs,zs,rfl,rfl,hH,hB,hz,q⟩:=h
 cases rx
 obtain ⟨u,rfl,ru⟩:=rv.one
 cases ru
 obtain ⟨z,its,n,r,hl,e⟩:=I.lstM hH
 obtain ⟨z2,its2,n2,r2,hl2,e2⟩:=I.lstM hB
 have hsz:its.toArray.size+its2.toArray.size<=sizeLine:=by rw [List.size_toArray,List.size_toArray]; omega
 have hlong:¬ (!its.toArray.isEmpty && Builtin.List.listTooLong (its.toArray.size+its2.toArray.size))=true:=by
  rw [UJ hsz,Bool.and_false]
  exact Bool.false_ne_true
 refine call_meets F.slot_list_extend ⟨_,e,rfl⟩ F.entry_list_extend (F.args_list_extend_2 _ _)
  (AutoSeq1.list_extend_list_list_0 l its.toArray n b its2.toArray n2 hlong (by rw [List.size_toArray]; omega) (by omega)) ⟨e,e2, ?_⟩
 refine ⟨.non,_,I.lset (its' :=its++its2) hH e (by simp) (r.append r2) ?_,rfl,q⟩
 rw [List.length_append]
 omega
def rCat:R2:=fun x y H Q=>∃ l b xs zs,x= .ref l/\y= .ref b/\H l=some (.lst xs)/\H b=some (.lst zs)/\xs.length+zs.length<=sizeLine/\∀ p,H p=none->Q (.ref p) (upd H p (.lst (xs++zs)))
theorem ki:OpR X (binaryOp .Add) rCat:=by
 intro pins s σ H x y v u Q I rx ry h
 obtain ⟨l,b,xs,zs,rfl,rfl,hH,hB,hz,q⟩:=h
 cases rx
 cases ry
 obtain ⟨z,its,n,r,hl,e⟩:=I.lstM hH
 obtain ⟨z2,its2,n2,r2,hl2,e2⟩:=I.lstM hB
 refine PySem.P.add_list e e2 ?_ (by rw [List.size_toArray,List.size_toArray]; omega)
 have ea:its.toArray++its2.toArray=(its++its2).toArray:=by simp
 rw [ea]
 exact ⟨.ref _,_,I.lnew (t' :=s.toks) (r.append r2) (by rw [List.length_append]; omega),rfl,q _ I.fresh⟩
def rRep:R2:=fun x y H Q=>∃ l k xs,x= .ref l/\y= .int k/\H l=some (.lst xs)/\ -(2 ^ 63)<=k/\k < 2 ^ 63/\xs.length*k.toNat<=sizeLine/\
 ∀ p,H p=none->Q (.ref p) (upd H p (.lst (List.replicate k.toNat xs).flatten))
theorem Wp {α:Type} (xs:List α) (k:Nat):(List.replicate k xs).flatten.length=k*xs.length:=by
 induction k with
 | zero=>simp
 | succ k ih=>rw [List.replicate_succ,List.flatten_cons,List.length_append,ih,Nat.succ_mul,Nat.add_comm]
theorem kj:OpR X (binaryOp .Mult) rRep:=by
 intro pins s σ H x y v u Q I rx ry h
 obtain ⟨l,k,xs,rfl,rfl,hH,h1,h2,hz,q⟩:=h
 cases rx
 obtain ⟨t,rfl⟩:=ry
 obtain ⟨z,its,n,r,hl,e⟩:=I.lstM hH
 have hlen:its.toArray.size*k.toNat<=sizeLine:=by rw [List.size_toArray,← hl]; exact hz
 have hcap:¬ its.toArray.size*k.toNat > (2 ^ 63 - 1) / 8:=by
  have:(sizeLine:Nat)<=(2 ^ 63 - 1) / 8:=by decide
  omega
 have hfit:¬ (!Builtin.List.listFitsIndex k)=true:=by
  rw [fitsIndex_both h1 h2]
  exact Bool.false_ne_true
 have hlong:¬ Builtin.List.listTooLong (its.toArray.size*k.toNat)=true:=by
  rw [UJ hlen]
  exact Bool.false_ne_true
 have hnew:List.foldl (fun x1 x2=>x1++x2) #[] (List.replicate (if its.toArray.isEmpty=true then 0 else k.toNat) its.toArray)=(List.replicate k.toNat its).flatten.toArray:=by
  have f0:∀ m:Nat,List.foldl (fun x1 x2=>x1++x2) #[] (List.replicate m its.toArray)=(List.replicate m its).flatten.toArray:=fun m=>by
   have:=Jr its m []
   rw [List.nil_append] at this
   exact this
  rw [f0]
  cases its with
  | nil=>simp
  | cons a r' =>rw [if_neg (by simp)]
 refine wpAny_binaryOp_repeat_ref (T:="list") (U:="int") (by decide) ⟨_,e,rfl⟩ (fun s' =>typeIs_int s' k t) noFill_list_mul F.fills_int_mul F.slot_int_rmul repeat_list F.slot_int_index.lookup
  (call_meets F.slot_int_rmul (typeIs_int s k t) F.entry_int_rmul (F.args_int_rmul_2 _ _) (int___rmul___int_list k t l its.toArray n)
   ⟨e,rfl,⟨_,e,rfl⟩,call_meets F.slot_list_mul ⟨_,e,rfl⟩ F.entry_list_mul (F.args_list_mul_2 _ _) (AutoListH.list___mul___list_int_3 l its.toArray n k t hfit hcap hlong) ⟨e, ?_⟩⟩)
 rw [hnew]
 exact ⟨.ref _,_,I.lnew (t' :=s.toks) (r.rep k.toNat) (by rw [Wp,Nat.mul_comm]; exact hz),rfl,q _ I.fresh⟩
end
section
variable {prog:Program} {w:World} {A:Around} {E:Value->Shared->Prop} {s:Shared}
end
section
variable {X:Cx}
end
end L2
namespace Att
open PySem PySem.W PySem.Calls PyProof.Rows
theorem ww {P:Params} {h:Heap}:∀ (ns:List Int) (vs:List Value),WellAll P h vs (ns.map WData.int)->IntsAre vs ns:=by
 intro ns
 induction ns with
 | nil=>
  intro vs w
  rw [List.map_nil] at w
  cases w
  exact .nil
 | cons n ns ih=>
  intro vs w
  rw [List.map_cons] at w
  cases w with
  | cons a b=>
   cases a
   exact .cons _ _ (ih _ b)
theorem Yy {l:OpenLaw} {n:Nat} (hn:l.most=some n) {P:Params} {h:Heap} {args:List WData} {vals:List Value}
  (hpre:l.row.toRowW.claim.pre args=true) (hwl:WellAll P h vals args):
  ∃ a vs ns,vals=[Value.ref a]/\args=[WData.list (ns.map WData.int)]/\h.get? a=some { cls:= .type "list",data:= .seq vs.toArray }/\IntsAre vs ns/\ns.length<=n:=by
 have hsh:WShape.hasAll [] args [.list .int]=true:=(pre_splitW hpre).1
 have hc:l.pre.holds [] { args:=args }=true:=(pre_splitW hpre).2
 obtain ⟨d,r,rfl,h1,h2⟩:=hasAllW_cons hsh
 obtain rfl:=hasAllW_nil h2
 obtain ⟨xs,rfl,h3⟩:=hasW_list h1
 obtain ⟨ns,rfl⟩:=items_int h3
 have hlen:ns.length<=n:=by
  unfold OpenLaw.pre at hc
  have h4:(WTm.not (.lt (.lit (.int (n:Int))) (.len (.arg 0)))).holds [] { args:=[.list (ns.map .int)] }=true:=by
   have h4:=(holds_andW hc).1
   rw [hn] at h4
   exact h4
  have h5:=condW_of h4 (w_not (w_lt w_lit (w_len_list (w_arg rfl))))
  rw [List.length_map] at h5
  refine Nat.le_of_not_lt fun q=> ?_
  have q' :(n:Int) < ((ns.length:Nat):Int):=by omega
  first
   | (rw [decide_eq_true q'] at h5; exact absurd h5 (by decide))
   | (simp at h5; omega)
 cases hwl with
 | cons w1 w2=>
  cases w2
  cases w1 with
  | list ho hall=>exact ⟨_,_,ns,rfl,rfl,ho,ww ns _ hall,hlen⟩
theorem Yz (l:OpenLaw) (args:List WData):l.row.toRowW.claim.post args (.bool true) args=true:=
 postW_of (r:=l.row.toRowW) (X:=(true == true))
  (show WShape.has [] (.bool true) .bool=true by first | rfl | decide | simp [WShape.has,WShape.arms,WShape.armsAll])
  (show (WTm.eq .res (.lit (.bool true))).value [] { args:=args,res:=some (.bool true),after:=args }=some (.bool (true == true)) from w_eq_bool (w_res rfl) w_lit) rfl
theorem attach_call {l:OpenLaw} {n:Nat} {q:Program} {loose:List Str} {XP:(Str->Option Value)->Heap->Prop} {YP:World->Heap->Prop} {d:DefRec}
  (hn:l.most=some n) (hdf:d.params.defaults=[])
  (call:∀ (w:World) (s₀ s₁:Shared) (mg mb:Str->Option Value) (fa:Addr) (o:Obj) (pm cd doc:Value) (a:Addr) (vs:List Value) (ns:List Int),
   Ground q loose [] XP w s₀ mg mb s₁.heap->YP w s₁.heap->
   s₁.heap.get? fa=some o->o.data= .func (docDef d.name d.params d.body d.scope pm cd doc)->s₁.heap.CodeRec cd d.name->mg d.name=some (.ref fa)->
   s₁.heap.get? a=some { cls:= .type "list",data:= .seq vs.toArray }->IntsAre vs ns->ns.length<=n->s₁.gens= #[]->
   codeAny (model l.prog w) callerA (.call (.ref fa) ⟨[.ref a],[]⟩) (fun r s' =>r= .ok (.ret (.bool true))/\OldK s₁.heap s'.heap/\s'.os=s₁.os/\AllBare s'.gens) s₁):
  WalkO q loose XP YP l.row.toRowW d [] (fun f vs=>PySem.call f vs):=by
 intro w s₀ s₁ mg mb G Y fa o pm cd doc dV kV ho hd hcd hD hmg hg args vals as hpre hlay hrd hwl hlo
 obtain rfl:dV= .none:=Dflts.none hD hdf
 obtain rfl:kV= .none:=Dflts.noKw hD
 obtain ⟨a,vs,ns,rfl,rfl,hobj,hints,hlen⟩:=Yy hn hpre hwl
 refine enter_call (codeAny_mono (call w s₀ s₁ mg mb fa o pm cd doc a vs ns G Y ho (fd_plain hd) hcd hmg hobj hints hlen hg) fun r s' hq=> ?_)
 obtain ⟨rfl,h2,h3,h4⟩:=hq
 exact ⟨.inl ⟨.bool true, .bool true,[],rfl,fun _=>rfl, .bool true,Yz l _,fun _=>⟨List.Pairwise.nil,fun _ hm=>(nomatch hm)⟩⟩,h2,h3,h4⟩
section
variable {prog:Program} {w:World} {A:Around} {E:Value->Shared->Prop} {s:Shared} {K:Frag}
end
end Att
namespace L2
open PySem PySem.Spec PyProof.Rows
theorem uf:∀ {vs:List Value} {ns:List Int},IntsAre vs ns->ZE (ns.map V.int) vs
 | _,_, .nil=> .nil
 | _,_, .cons n t h=> .cons ⟨t,rfl⟩ (uf h)
def Kx (H:Hp):Prop:=∀ b,H b=none\/∃ o xs,H b=some (.frz o (.lst xs))
theorem QP {P:Program} {w:World} {K:PySem.W.Frag} {mg mb:Str->Option Value} {CX:CXT} {k:Nat} {fa a:Addr} {fd:FuncData} {x:Str} {sp:Sp} {s₁:Shared} {vs:List Value} {ns:List Int}
  (KX:K.In s₁.heap) (hns:s₁.heap.Ns mainGlobals mg) (hb:s₁.heap.Ns builtinsNs mb) (hbb:∀ x:Str,x ≠ "__name__"->mb x=bootBuiltins x) (hlim:s₁.heap.NoLimit) (hg:s₁.gens= #[])
  (ha:s₁.heap.get? a=some { cls:= .type "list",data:= .seq vs.toArray }) (hi:IntsAre vs ns) (hl:ns.length<=sizeLine) (hr:JG k callerA)
  (F:∀ base:Heap,K.In base->base.Ns mainGlobals mg->ZB P w K mg base CX k fa fd [x] sp) (hbind:∀ (s:Shared) (u:Value),BindsTo s fd ⟨[u],[]⟩ [(x,u)])
  (hsp:∀ H:Hp,Kx H->SqL K H a (ns.map V.int)->sp [.ref a] H (fun v _=>v= .bl true) fun _ _ _=>False)
  (hCX:∀ H e s',CX [] H s₁ (fun _ _ _=>False) e s' ->False):
  codeAny (model P w) callerA (.call (.ref fa) ⟨[.ref a],[]⟩) (fun r s' =>r= .ok (.ret (.bool true))/\OldK s₁.heap s'.heap/\s'.os=s₁.os/\AllBare s'.gens) s₁:=by
 have rv:=uf hi
 have lenV:=hi.length
 have core:∀ H:Hp,Kx H->SqL K H a (ns.map V.int)->HOk P w H s₁.heap->(∀ b,H b ≠ none->b=a)->(H a ≠ none->K.lookup a=none)->
   codeAny (model P w) callerA (.call (.ref fa) ⟨[.ref a],[]⟩) (fun r s' =>r= .ok (.ret (.bool true))/\OldK s₁.heap s'.heap/\s'.os=s₁.os/\AllBare s'.gens) s₁:=by
  intro H hO hS hok hA hK
  have base_of:∀ {b:Addr} {o:Obj},s₁.heap.get? b=some o->H b=none->(QC s₁.heap H).get? b=some o:=fun e n=>QD e n
  have noA:∀ {b:Addr} {o:Obj} {es:Array DictEntry} {ep:Nat},s₁.heap.get? b=some o->o.data= .dict es ep->H b=none:=fun {b o es ep} e d=>by
   cases q:H b with
   | none=>rfl
   | some u=>
    have e' :b=a:=hA b (by rw [q]; simp)
    subst e'
    rw [ha] at e; cases e
    have d' :Data.seq vs.toArray _=Data.dict es ep:=d
    cases d'
  have nsK:∀ {b:Addr} {m:Str->Option Value},s₁.heap.Ns b m->(QC s₁.heap H).Ns b m:=fun {b m} ⟨o,es,ep,e,d,r⟩=>⟨o,es,ep,base_of e (noA e d),d,r⟩
  have hKb:K.In (QC s₁.heap H):=fun b o e=>base_of (KX b o e) (by
   cases q:H b with
   | none=>rfl
   | some u=>
    have e' :b=a:=hA b (by rw [q]; simp)
    subst e'
    rw [hK (by rw [q]; simp)] at e; cases e)
  have hM:Mod K mg (QC s₁.heap H):=⟨hKb,nsK hns,⟨mb,nsK hb,hbb⟩,let ⟨mc,h1,h2⟩:=hlim; ⟨mc,nsK h1,h2⟩⟩
  have e0:Kw P w K mg (QC s₁.heap H) callerA [] s₁ H:=⟨rfl,hM,fun b o e=>VE e,Nat.le_of_eq (Yb _ _),trivial,fun b hb=>absurd (show b∈([]:List Addr) from hb) (by simp),hok, .of_eq hg⟩
  refine codeAny_mono ((F _ hKb (nsK hns)).run callerA [] s₁ H ⟨[.ref a],[]⟩ [.ref a] [.ref a] _ _ hr e0 (hbind s₁ (.ref a)) (.cons rfl .nil) (hsp H hO hS)) fun r s' h=> ?_
  cases r with
  | error e=>exact (hCX H e s' h).elim
  | ok fl=>
   cases fl with
   | next=>exact False.elim h
   | brk=>exact False.elim h
   | cont=>exact False.elim h
   | ret u=>
    obtain ⟨v,H',os,bare,un,hok',r',q⟩:=h
    have q' :v= .bl true:=q
    subst q'
    obtain rfl:u=Value.bool true:=r'
    refine ⟨rfl,OldK.of_keep fun b o e=> ?_,os,bare⟩
    cases q:H b with
    | none=>exact un.keep b o e q (by intro z; exact absurd (show b∈([]:List Addr) from z) (by simp)) (by simp)
    | some u=>
     rcases hO b with z | ⟨ob,xs,z⟩
     ·rw [q] at z; cases z
     ·have z2:=un.frzs b ob _ z
      obtain ⟨e1,_⟩:=hok b _ z
      obtain ⟨e2,_⟩:=hok' b _ z2
      rw [e] at e1; cases e1
      exact e2
 cases hk:K.lookup a with
 | some o=>
  have e:=KX a o hk
  rw [ha] at e
  cases e
  refine core (fun _=>none) (fun _=> .inl rfl) (.inr ⟨_,vs.toArray,_,hk,rfl,rfl,rfl,by rw [List.size_toArray,lenV]; exact hl,by simpa using rv⟩) (fun b u z=>by have z' :(none:Option HO)=some u:=z; cases z') (fun b z=>absurd rfl z) fun z=>absurd rfl z
 | none=>
  refine core (fun b=>if b=a then some (.frz { cls:= .type "list",data:= .seq vs.toArray } (.lst (ns.map V.int))) else none) (fun b=> ?_) (.inl (.inr ⟨{ cls:= .type "list",data:= .seq vs.toArray },if_pos rfl⟩)) (fun b u z=> ?_) (fun b z=> ?_) fun _=>hk
  ·by_cases hb:b=a
   ·exact .inr ⟨_,_,if_pos hb⟩
   ·exact .inl (if_neg hb)
  ·by_cases hb:b=a
   ·have z' :=(if_pos hb).symm.trans z
    cases z'
    subst hb
    exact ⟨ha,by rw [List.length_map]; exact hl,vs,_,rv,ha⟩
   ·have z' :=(if_neg hb).symm.trans z
    cases z'
  ·by_cases hb:b=a
   ·exact hb
   ·exact absurd (if_neg hb) z
end L2
namespace L2
open PySem PySem.Spec PyProof.Rows
theorem walk_of {l:PySem.W.OpenLaw} {n k:Nat} {q:Program} {loose:List Str} {XP:(Str->Option Value)->Heap->Prop} {YP:World->Heap->Prop} {d:DefRec} {K:Params->PySem.W.Frag} {CX:World->CXT} {sp:World->Sp} {x:Str}
  (hn:l.most=some n) (hn2:n<=sizeLine) (hdf:d.params.defaults=[]) (hr:JG k callerA)
  (hY:∀ (w:World) (h:Heap),YP w h->(K w.params).In h)
  (F:∀ (w:World) (mg:Str->Option Value) (fa:Addr) (h:Heap),(K w.params).In h->h.Ns mainGlobals mg->mg d.name=some (.ref fa)->
   ∃ fd:FuncData,(∀ (s:Shared) (u:Value),BindsTo s fd ⟨[u],[]⟩ [(x,u)])/\
    ∀ base:Heap,(K w.params).In base->base.Ns mainGlobals mg->ZB l.prog w (K w.params) mg base (CX w) k fa fd [x] (sp w))
  (hsp:∀ (w:World) (H:Hp) (a:Addr) (ns:List Int),ns.length<=n->Kx H->SqL (K w.params) H a (ns.map V.int)->sp w [.ref a] H (fun v _=>v= .bl true) fun _ _ _=>False)
  (hCX:∀ (w:World) (H:Hp) (s:Shared) (e:Value) (s' :Shared),CX w [] H s (fun _ _ _=>False) e s' ->False):
  PySem.W.WalkO q loose XP YP l.row.toRowW d [] (fun f vs=>PySem.call f vs):=by
 refine Att.attach_call hn hdf fun w s₀ s₁ mg mb fa o pm cd doc a vs ns G Y ho hd hcd hmg hobj hints hlen hg=> ?_
 have KX:=hY w _ Y
 obtain ⟨fd,hb,hF⟩:=F w mg fa _ KX G.T.g hmg
 exact QP KX G.T.g G.T.b G.T.builtins G.T.nolimit hg hobj hints (Nat.le_trans hlen hn2) hr hF hb (fun H hO hS=>hsp w H a ns hlen hO hS) fun H e s' =>hCX w H s₁ e s'
end L2
namespace L2
open PySem PySem.Spec PyProof.Rows
def jM (s:Stmt):Arguments:=match s with
 | .FunctionDef _ a _ _ _ _ _ _ _ _=>a
 | _=>{ posonlyargs:=[],args:=[],vararg:=none,kwonlyargs:=[],kw_defaults:=[],kwarg:=none,defaults:=[] }
def ZT (s:Stmt):List Stmt:=match s with
 | .FunctionDef _ _ b _ _ _ _ _ _ _=>b
 | _=>[]
def zf (s:Stmt):Scope:=match s with
 | .FunctionDef _ _ _ _ _ _ sc _ _ _=>sc
 | _=>{ kind:= .function,names:=[],isGenerator:=false,isCoroutine:=false }
abbrev CX0:CXT:=fun _ _ _ _ _ _=>False
structure Fun (K:PySem.W.Frag) (x qual:Str) (st:Stmt) (f:Addr) (fd:FuncData):Prop where
 ex:∃ (oc:Value) (od:Option Addr) (kV doc pm:Value) (an:Option Addr) (cdv ct:Value) (osl:Array (Option Value)),
  fd=PySem.W.fnOf x qual (jM st) (ZT st) (zf st) .none kV doc pm an cdv ct/\K.lookup f=some ⟨oc,od, .func fd,osl⟩/\PySem.W.codeIn K cdv qual=true
 kp:PySem.W.keepIn K (.ref f)=true
section
variable {P:Program} {w:World} {K:PySem.W.Frag} {mg:Str->Option Value} {base:Heap}
theorem Fun.ok {x qual:Str} {st:Stmt} {f:Addr} {fd:FuncData} {N ps:List Str} {k:Nat} {sp:Sp} (F:Fun K x qual st f fd) (S:zp N ps (zf st)) (len:∀ vs H Q E,sp vs H Q E->vs.length=ps.length)
  (hbody:∀ (cdv:Value) (A:Around) (outer:List Env) (s:Shared) (H:Hp) (vs:List V) (Q:VK) (E:XK),JG k (A.deeper (envOfC qual (zf st) s.heap.objs.size f cdv))->sp vs H Q E->
   ∃ t,PSs (wV CX0 P w K mg base N qual (zf st) f cdv A outer s H E).nox (ZT st) t/\t { nx:=fun _ H' =>Q .non H',rt:=Q } (start N vs) H):ZB P w K mg base CX0 (k+1) f fd ps sp:=by
 obtain ⟨oc,od,kV,doc,pm,an,cdv,ct,osl,rfl,lk,hcd⟩:=F.ex
 refine ka lk hcd S len fun A outer s H vs Q E hr hsp=> ?_
 obtain ⟨t,h,q⟩:=hbody cdv A outer s H vs Q E hr hsp
 exact ⟨t,h.nox,q⟩
theorem Fun.binds {x qual:Str} {st:Stmt} {f:Addr} {fd:FuncData} {ps:List Str} (F:Fun K x qual st f fd)
  (h:∀ (kV doc pm:Value) (an:Option Addr) (cdv ct:Value) (us:List Value),us.length=ps.length->bindArgs (PySem.W.fnOf x qual (jM st) (ZT st) (zf st) .none kV doc pm an cdv ct) ⟨us,[]⟩=pure (ps.zip us)):Binds K fd ps []:=by
 obtain ⟨oc,od,kV,doc,pm,an,cdv,ct,osl,rfl,lk,hcd⟩:=F.ex
 exact .all (h kV doc pm an cdv ct)
theorem kl {x qual:Str} {st:Stmt} {f:Addr} {oc:Value} {od an:Option Addr} {osl:Array (Option Value)} {kV doc pm cdv ct:Value} (l:K.lookup f=some ⟨oc,od, .func (PySem.W.fnOf x qual (jM st) (ZT st) (zf st) .none kV doc pm an cdv ct),osl⟩)
  (c:PySem.W.codeIn K cdv qual=true) (k:PySem.W.keepIn K (.ref f)=true):Fun K x qual st f (PySem.W.fnOf x qual (jM st) (ZT st) (zf st) .none kV doc pm an cdv ct):=⟨⟨oc,od,kV,doc,pm,an,cdv,ct,osl,rfl,l,c⟩,k⟩
end
section
variable {X:Cx}
theorem pv (i:Nat) {x:Str} {pos:Pos} (hN:X.N[i]? =some x:=by rfl) (hv:Vis X.env.scope x:=by first | exact Or.inl rfl | exact Or.inr (Or.inl rfl) | exact Or.inr (Or.inr rfl)) (hd:(x == ("__debug__":Str))=false:=by decide)
  (hcd:(x == ("__classdict__":Str))=false:=by decide):PE X (.Name x pos) (Yc i):=vZ hN hv hd hcd
end
def zK (H H' :Hp):Prop:=∀ b o,H b=some o->H' b=some o
theorem zK.refl (H:Hp):zK H H:=fun _ _ h=>h
theorem zK.trans {H H1 H2:Hp} (a:zK H H1) (b:zK H1 H2):zK H H2:=fun c o h=>b c o (a c o h)
theorem zK.free {H H' :Hp} (e:zK H H') {l:Addr} (h:H' l=Option.none):H l=Option.none:=by
 cases q:H l with
 | none=>rfl
 | some o=>
  rw [e l o q] at h
  cases h
end L2
namespace L2
open PySem PySem.Spec PyProof.Rows PySem.W
theorem UK {env:Env} {outer:List Env} {L:Addr} (h:env.frame=some L):frs (env :: outer)=L :: frs outer:=by
 unfold frs; rw [List.filterMap_cons,h]
structure U6 (P:Program) (w:World) (outer:List Env) (H:Hp) (s s' :Shared) (ea:Addr) (cls a0:Value) (B:Heap) (H' :Hp):Prop where
 os:s'.os=s.os
 bare:AllBare s'.gens
 fly:Heap.FlyingW B outer ea cls a0 s'.heap
 hok:HOk P w H' B
 un:Un (frs outer) [] H H' s.heap s'.heap
 inB:∀ b o,s.heap.get? b=some o->b ∉ frs outer->(H b=none->B.get? b=some o)/\∃ o',B.get? b=some o'
def CX1 (P:Program) (w:World):CXT:=fun outer H s E e s' =>∃ ea cls a0 B H',e= .ref ea/\U6 P w outer H s s' ea cls a0 B H' /\E cls none H'
section
variable {X:Cx} {pins:List (Addr×Obj)} {σ:St} {H H' :Hp} {s s' :Shared} {ea:Addr} {cls a0:Value} {B:Heap} {h' h'' :Heap}
theorem Inv.frNf (I:Inv X pins σ H s):∀ b∈frs X.stack,H b=none/\∃ o,s.heap.get? b=some o/\∀ vs,o.data ≠ .fields vs:=fun b hb=>⟨I.stkFree b hb,(I.stack.mem hb).2⟩
theorem U6.on {P:Program} {w:World} {outer:List Env} (L:U6 P w outer H s s' ea cls a0 B H') (ff:∀ b∈frs outer,H b=none/\∃ o,s.heap.get? b=some o/\∀ vs,o.data ≠ .fields vs)
  (fl:Heap.FlyingW B outer ea cls a0 h') (sl:s'.heap.UpToSlots h'):U6 P w outer H s { s' with heap:=h' } ea cls a0 B H' where
 os:=L.os
 bare:=L.bare
 fly:=fl
 hok:=L.hok
 inB:=L.inB
 un:=by
  have slot:∀ b o,s.heap.get? b=some o->H b=none->b∈frs outer->∃ sl,h'.get? b=some { o with slots:=sl }:=fun b o e n hb=>by
   obtain ⟨sl1,e1⟩:=L.un.slot b o e n hb (by simp)
   obtain ⟨_,o2,e2,nf⟩:=ff b hb
   rw [e] at e2; cases e2
   obtain ⟨sl2,e3⟩:=sl b _ e1 nf
   exact ⟨sl2,e3⟩
  exact ⟨fun b o e n hb _=>fl.1 b o ((L.inB b o e hb).1 n),fun b o e n hb _=>slot b o e n hb,L.un.free,fun b o e _=>by
   by_cases hb:b∈frs outer
   ·obtain ⟨sl1,e1⟩:=slot b o e (ff b hb).1 hb
    exact ⟨_,e1⟩
   ·obtain ⟨o',e'⟩:=(L.inB b o e hb).2
    exact ⟨o',fl.1 b o' e'⟩,L.un.tups,L.un.frzs,L.un.tbls⟩
theorem Inv.old (I:Inv X pins σ H s) {b:Addr} {o:Obj} (hX:X.stack=X.env :: X.outer) (hf:X.env.frame=some X.env.locals) (e:X.s₀.heap.get? b=some o) (hb:b ∉ frs X.outer):b ∉ frs X.stack:=by
 rw [hX,UK hf]
 intro z
 rcases List.mem_cons.mp z with z | z
 ·exact absurd (Nat.lt_of_lt_of_le (Heap.lt_size e) I.ok.above) (by rw [z]; exact Nat.lt_irrefl _)
 ·exact hb z
theorem U7 {X:Cx} (hX:X.stack=X.env :: X.outer) (hf:X.env.frame=some X.env.locals) {b:Addr} (hb:b∈frs X.outer):b∈frs X.stack:=by
 rw [hX,UK hf]; exact List.mem_cons_of_mem _ hb
theorem U6.out (I:Inv X pins σ H s) (hX:X.stack=X.env :: X.outer) (hf:X.env.frame=some X.env.locals) (hex:X.ex=[]) (L:U6 X.prog X.w X.stack H s s' ea cls a0 B H')
  (fl:Heap.FlyingW B X.outer ea cls a0 h') (sl:s'.heap.UpToSlots h'):U6 X.prog X.w X.outer X.H₀ X.s₀ { s' with heap:=h' } ea cls a0 B H' where
 os:=L.os.trans I.os
 bare:=L.bare
 fly:=fl
 hok:=L.hok
 inB:=fun b o e hb=>by
  have nx:b ∉ X.ex:=by rw [hex]; simp
  obtain ⟨o1,e1⟩:=I.base.there b o e nx
  have hb' :=I.old hX hf e hb
  exact ⟨fun n=>(L.inB b o (I.base.keep b o e n hb nx) hb').1 (I.base.free b o e n nx),(L.inB b o1 e1 hb').2⟩
 un:=by
  have nx:∀ b,b ∉ X.ex:=fun b=>by rw [hex]; simp
  have slot:∀ b o,X.s₀.heap.get? b=some o->X.H₀ b=none->b∈frs X.outer->∃ sl,h'.get? b=some { o with slots:=sl }:=fun b o e n hb=>by
   obtain ⟨sl1,e1⟩:=I.base.slot b o e n hb (nx b)
   have n1:=I.base.free b o e n (nx b)
   obtain ⟨sl2,e2⟩:=L.un.slot b _ e1 n1 (U7 hX hf hb) (by simp)
   obtain ⟨_,o3,e3,nf⟩:=I.frNf b (U7 hX hf hb)
   rw [e1] at e3; cases e3
   obtain ⟨sl4,e4⟩:=sl b _ e2 nf
   exact ⟨sl4,e4⟩
  refine ⟨fun b o e n hb _=> ?_,fun b o e n hb _=>slot b o e n hb,fun b o e n _=> ?_,fun b o e _=> ?_,fun b xs e=>L.un.tups b xs (I.base.tups b xs e),fun b o xs e=>L.un.frzs b o xs (I.base.frzs b o xs e),fun b ps e=> ?_⟩
  ·exact fl.1 b o ((L.inB b o (I.base.keep b o e n hb (nx b)) (I.old hX hf e hb)).1 (I.base.free b o e n (nx b)))
  ·obtain ⟨o1,e1⟩:=I.base.there b o e (nx b)
   exact L.un.free b o1 e1 (I.base.free b o e n (nx b)) (by simp)
  ·by_cases hb:b∈frs X.outer
   ·obtain ⟨sl1,e1⟩:=slot b o e (I.ok.frf b hb) hb
    exact ⟨_,e1⟩
   ·obtain ⟨o1,e1⟩:=I.base.there b o e (nx b)
    obtain ⟨o',e'⟩:=(L.inB b o1 e1 (I.old hX hf e hb)).2
    exact ⟨o',fl.1 b o' e'⟩
  ·obtain ⟨m1,e1⟩:=I.base.tbls b ps e
   obtain ⟨m2,e2⟩:=L.un.tbls b _ e1
   exact ⟨m1++m2,by rw [e2,Array.append_assoc]⟩
theorem U6.made (I:Inv X pins σ H s) (hX:X.stack=X.env :: X.outer) (hf:X.env.frame=some X.env.locals) (hex:X.ex=[]) {vs:List Value} (hx:Heap.MadeExcOf s.heap h' ea cls vs)
  (fl:Heap.FlyingW (hideAll s.heap (frs X.stack)) X.outer ea cls a0 h'') (sl:h'.UpToSlots h''):U6 X.prog X.w X.outer X.H₀ X.s₀ { s with heap:=h'' } ea cls a0 (hideAll s.heap (frs X.stack)) H where
 os:=I.os
 bare:=I.bare
 fly:=fl
 hok:=fun a o e=>(I.hok a o e).stay (fun b u hb q=>hideAll_get _ q fun z=>by
   have:=I.stkFree b z
   rcases hb with rfl | hb
   ·rw [e] at this; cases this
   ·rw [hb] at this; cases this) (fun _ q=>q) fun _ _ q=>q
 inB:=fun b o e hb=>by
  have nx:b ∉ X.ex:=by rw [hex]; simp
  obtain ⟨o1,e1⟩:=I.base.there b o e nx
  have hb' :=I.old hX hf e hb
  exact ⟨fun n=>hideAll_get _ (I.base.keep b o e n hb nx) hb',o1,hideAll_get _ e1 hb'⟩
 un:=by
  have nx:∀ b,b ∉ X.ex:=fun b=>by rw [hex]; simp
  have slot:∀ b o,X.s₀.heap.get? b=some o->X.H₀ b=none->b∈frs X.outer->∃ sl,h''.get? b=some { o with slots:=sl }:=fun b o e n hb=>by
   obtain ⟨sl1,e1⟩:=I.base.slot b o e n hb (nx b)
   obtain ⟨_,o3,e3,nf⟩:=I.frNf b (U7 hX hf hb)
   rw [e1] at e3; cases e3
   obtain ⟨sl4,e4⟩:=sl b _ (hx.keeps b _ e1) nf
   exact ⟨sl4,e4⟩
  refine ⟨fun b o e n hb _=> ?_,fun b o e n hb _=>slot b o e n hb,fun b o e n _=>I.base.free b o e n (nx b),fun b o e _=> ?_,I.base.tups,I.base.frzs,I.base.tbls⟩
  ·exact fl.1 b o (hideAll_get _ (I.base.keep b o e n hb (nx b)) (I.old hX hf e hb))
  ·by_cases hb:b∈frs X.outer
   ·obtain ⟨sl1,e1⟩:=slot b o e (I.ok.frf b hb) hb
    exact ⟨_,e1⟩
   ·obtain ⟨o1,e1⟩:=I.base.there b o e (nx b)
    exact ⟨o1,fl.1 b o1 (hideAll_get _ e1 (I.old hX hf e hb))⟩
end
section
variable {P:Program} {w:World} {K:Frag} {mg:Str->Option Value} {base:Heap} {N:List Str} {qual:Str} {scope:Scope} {f:Addr} {cd:Value} {A:Around} {outer:List Env} {s:Shared} {H:Hp} {E:XK}
theorem yE:Jf (CX1 P w) (wV (CX1 P w) P w K mg base N qual scope f cd A outer s H E) E:=by
 intro pins σ H1 s1 e s' I ⟨ea,cls,a0,B,H',he,L,hE⟩
 subst he
 exact wpAny_leaves_onW (base:=B) I.ok.frames rfl L.fly fun h' fl sl=>⟨ea,cls,a0,B,H',rfl,L.out I rfl rfl rfl fl sl,hE⟩
theorem YA {x:Str} {C:Addr} {bm bmN:List Value} {Bn Bb newId nid initId inN:String} {np cpos pos:Pos} {e:Expr} {t:TA} (O:OwnCls x C bm newId mg base) (Fn:ExcBaseFacts Bn newId inN bmN) (hBn:bm.contains (.type Bn)=true) (FB:ExcBaseFacts Bb nid initId bm)
  (hg:Gl (wV (CX1 P w) P w K mg base N qual scope f cd A outer s H E) x) (ha:PA (wV (CX1 P w) P w K mg base N qual scope f cd A outer s H E) [e] t)
  (he:starEach [e] (envOfC qual scope s.heap.objs.size f cd)=[(false,eval e (envOfC qual scope s.heap.objs.size f cd))]) (hd:(x == ("__debug__":Str))=false:=by decide):
  PS (wV (CX1 P w) P w K mg base N qual scope f cd A outer s H E) (.Raise (some (.Call (.Name x np) [e] [] cpos)) none pos) (fun _ σ H1=>t σ H1 fun vs H2=>vs.length<=sizeLine/\E (.ref C) none H2):=by
 intro pins s1 σ H1 D I hw
 obtain ⟨tl,N',nm,q,bs,hdct,sn,sub,ab,col,dd,k0,k1,k2,k3,k5,mN,hC,hN,hni,T⟩:=O.obj
 have hp:(backTo cpos (starEach [e] (envOfC qual scope s.heap.objs.size f cd))).any (·.1)=false:=by rw [he]; rfl
 refine wpAny_Raise_call_subU (C:=C) (nm:=nm) (q:=q) (N:=N') (bs:=bs) (bm:=tl) (hdct:=hdct) (sn:=sn) (sub:=sub) (ab:=ab) (col:=col) (dd:=dd) (k0:=k0) (k1:=k1) (k2:=k2) (k3:=k3) (k5:=k5)
  Fn hBn FB (mN:=mN) (T.hasType FB.hasBase) (I.ok.hd rfl) hp hni (Wm I hg O.bound ⟨rfl, ?_⟩ hd)
 have h2:=ha cpos pins s1 σ H1 _ I hw
 have he' :starEach [e] (wV (CX1 P w) P w K mg base N qual scope f cd A outer s H E).env=[(false,eval e (wV (CX1 P w) P w K mg base N qual scope f cd A outer s H E).env)]:=he
 rw [he'] at h2 ⊢
 refine Calls.evalArgs_plain (thn h2 fun us s2 ⟨vs,H2,I2,r,hl,hE⟩=>⟨rfl,by rw [← r.length]; exact hl,I2.bk _ _ hC,hN.keeps I2.bk,T.keeps I2.bk,fun h' ea hx=> ?_⟩)
 have hin:∀ env∈(wV (CX1 P w) P w K mg base N qual scope f cd A outer s H E).stack,∀ b,env.frame=some b->b∈frs (wV (CX1 P w) P w K mg base N qual scope f cd A outer s H E).stack:=fun env he b hb=>List.mem_filterMap.mpr ⟨env,he,hb⟩
 exact wpAny_leaves_madeW (base:=hideAll s2.heap (frs (wV (CX1 P w) P w K mg base N qual scope f cd A outer s H E).stack)) (h:=s2.heap) I2.ok.frames rfl (fun b o q=>of_hideAll _ q) (funFrames_hide I2.stack hin) hx fun h'' t' fl _ _ sl=>
  ⟨ea, .ref C, .ref t',_,H2,rfl,U6.made I2 rfl rfl rfl hx fl sl,hE⟩
end
end L2
namespace L2
open PySem PySem.Spec PyProof.Rows PySem.W
theorem ZH.there {P:Program} {w:World} {H:Hp} {h:Heap} {a:Addr} {o:HO} (x:ZH P w H h a o):∃ ob,h.get? a=some ob:=by
 cases o with
 | lst xs=>obtain ⟨_,_,_,_,e⟩:=x; exact ⟨_,e⟩
 | tup xs=>obtain ⟨_,_,_,_,e,_⟩:=x; exact ⟨_,e⟩
 | dK kvs=>obtain ⟨_,_,_,_,o,_,_,e,_⟩:=x; exact ⟨_,e⟩
 | dT kvs=>obtain ⟨_,_,_,_,o,_,_,e,_⟩:=x; exact ⟨_,e⟩
 | set S n=>obtain ⟨o,_,_,_,e,_⟩:=x; exact ⟨_,e⟩
 | ins C dx fs=>obtain ⟨_,_,_,e,_⟩:=x; exact ⟨_,e⟩
 | own y=>obtain ⟨_,e⟩:=x; exact ⟨_,e⟩
 | xd fs=>obtain ⟨_,⟨_,_,_,e,_⟩,_⟩:=x; exact ⟨_,e⟩
 | rng lo hi=>obtain ⟨_,_,_,e⟩:=x; exact ⟨_,e⟩
 | frz ob u=>obtain ⟨e,_⟩:=x; exact ⟨_,e⟩
 | tbl ps=>exact ⟨_,(show h.get? a=some _ from x)⟩
 | met f y=>exact ⟨_,(show h.get? a=some _ from x)⟩
 | ext φ=>obtain ⟨_,e,_⟩:=x; exact e
def U8 (cls:Value) (a:Addr) (h:Heap):Prop:=∃ o,h.get? a=some o/\o.cls=cls
theorem U8.ok {P:Program} {w:World} {H:Hp} {h:Heap} {a:Addr} {cls:Value} (x:U8 cls a h):ZH P w H h a (.ext (U8 cls a)):=
 ⟨x,let ⟨o,e,_⟩:=x; ⟨o,e⟩,fun _ _ ⟨o,e,c⟩ k=>⟨o,k o e,c⟩⟩
abbrev Cx.try' (X:Cx) (pn:List (Addr×Obj)) (xe:Value->Shared->Prop):Cx:={ X with pn:=pn,xe:=xe }
abbrev Cx.mark' (X:Cx) (e:Value):Cx:={ X with A:=X.A.mark (some e),calm:=false,xe:=fun _ _=>False }
section
variable {X:Cx} {pins pins' :List (Addr×Obj)} {σ:St} {H H' :Hp} {s s' :Shared} {xe:Value->Shared->Prop}
theorem Cx.Ok.try' (ok:X.Ok) {pn:List (Addr×Obj)}:(X.try' pn xe).Ok:=
 ⟨ok.mod,ok.kind,ok.glob,ok.blt,ok.above,ok.inj,ok.has,ok.cab,ok.hd,ok.frames,ok.stk,ok.exf,ok.bs,ok.bsz,ok.noex,ok.exfs,ok.funs,ok.frf⟩
theorem Cx.Ok.untry {pn:List (Addr×Obj)} (ok:(X.try' pn xe).Ok):X.Ok:=
 ⟨ok.mod,ok.kind,ok.glob,ok.blt,ok.above,ok.inj,ok.has,ok.cab,ok.hd,ok.frames,ok.stk,ok.exf,ok.bs,ok.bsz,ok.noex,ok.exfs,ok.funs,ok.frf⟩
theorem Inv.try' (I:Inv X pins σ H s) (xe:Value->Shared->Prop):Inv (X.try' (X.pn++pins) xe) [] σ H s:=
 ⟨I.ok.try',I.os,I.bare,I.base,I.loc,I.cell,I.free,I.freeC,fun p hp=>I.pin p (by simpa using hp),I.hok,I.len⟩
theorem Inv.untry (I:Inv (X.try' (X.pn++pins) xe) pins' σ H s):Inv X pins σ H s:=
 ⟨I.ok.untry,I.os,I.bare,I.base,I.loc,I.cell,I.free,I.freeC,fun p hp=>I.pin p (List.mem_append_left _ hp),I.hok,I.len⟩
theorem Inv.mark' (I:Inv X pins σ H s) (e:Value):Inv (X.mark' e) pins σ H s:=
 ⟨⟨I.ok.mod,I.ok.kind,I.ok.glob,I.ok.blt,I.ok.above,I.ok.inj,I.ok.has,I.ok.cab,fun z=>(by cases z),I.ok.frames,I.ok.stk,I.ok.exf,I.ok.bs,I.ok.bsz,I.ok.noex,I.ok.exfs,I.ok.funs,I.ok.frf⟩,I.os,I.bare,I.base,I.loc,I.cell,I.free,I.freeC,I.pin,I.hok,I.len⟩
theorem Inv.unmark {e:Value} (I:Inv (X.mark' e) pins σ H s) (hd:X.calm=true->X.A.handled=none):Inv X pins σ H s:=
 ⟨⟨I.ok.mod,I.ok.kind,I.ok.glob,I.ok.blt,I.ok.above,I.ok.inj,I.ok.has,I.ok.cab,hd,I.ok.frames,I.ok.stk,I.ok.exf,I.ok.bs,I.ok.bsz,I.ok.noex,I.ok.exfs,I.ok.funs,I.ok.frf⟩,I.os,I.bare,I.base,I.loc,I.cell,I.free,I.freeC,I.pin,I.hok,I.len⟩
theorem SP.untry {D:QE} {f:Flow} {pins' :List (Addr×Obj)} (h:SP (X.try' (X.pn++pins) xe) pins' D f s'):SP X pins D f s' :=by
 cases f with
 | next=>obtain ⟨σ',H',I,q⟩:=h; exact ⟨σ',H',I.untry,q⟩
 | brk=>obtain ⟨σ',H',I,q⟩:=h; exact ⟨σ',H',I.untry,q⟩
 | cont=>obtain ⟨σ',H',I,q⟩:=h; exact ⟨σ',H',I.untry,q⟩
 | ret u=>obtain ⟨v,σ',H',I,r,q⟩:=h; exact ⟨v,σ',H',I.untry,r,q⟩
theorem VU {A:Around} {E:Value->Shared->Prop} {M:Model} {i:Nat} {n:Str} {pos:Pos} {Q:Unit->Shared->Prop} (I:Inv X pins σ H s) (hN:X.N.Nodup) (hi:X.N[i]? =some n) (hl:X.env.kindOf n=some .local) (h:∀ s',Inv X pins (σ.set i none) H s' ->Q () s'):
  wpAny M A (do bindName X.env n .none; unbindBehindTheSuite X.env n pos) Q E s:=by
 obtain ⟨m,hn,hlo⟩:=id I.loc
 have hcls:(X.env.scope.kind == .class || (X.env.scope.kind == .module && X.env.locals != X.env.globals))=false:=by rw [I.ok.kind]; rfl
 refine wpAny_nameGoes_keeps hl hn hcls fun h' v hn' hs=> ?_
 obtain ⟨oL,_,_,hoL,_⟩:=id hn
 refine h _ ⟨I.ok,I.os,I.bare,⟨fun b o e n hb hx=> ?_,fun b o e n hb hx=> ?_,I.base.free,fun b o e hx=> ?_,I.base.tups,I.base.frzs,I.base.tbls⟩,⟨_,hn',fun j y v' e1 e2 e3=> ?_⟩,fun y c e=> ?_,I.free,I.freeC,fun p hp=> ?_,fun b ob e=> ?_,by simpa using I.len⟩
 ·exact (hs.2 b (Nat.ne_of_lt (Nat.lt_of_lt_of_le (Heap.lt_size e) I.ok.above))).trans (I.base.keep b o e n hb hx)
 ·obtain ⟨sl,e1⟩:=I.base.slot b o e n hb hx
  exact ⟨sl,(hs.2 b (Nat.ne_of_lt (Nat.lt_of_lt_of_le (Heap.lt_size e) I.ok.above))).trans e1⟩
 ·obtain ⟨o',e1⟩:=I.base.there b o e hx
  exact ⟨o',(hs.2 b (Nat.ne_of_lt (Nat.lt_of_lt_of_le (Heap.lt_size e) I.ok.above))).trans e1⟩
 ·by_cases hj:j=i
  ·subst hj
   have hiσ:j < σ.length:=by rw [I.len]; exact (List.getElem?_eq_some_iff.mp hi).1
   rw [List.getElem?_set_self hiσ] at e2
   cases e2
  ·rw [List.getElem?_set_ne (Ne.symm hj)] at e2
   obtain ⟨u',r',q⟩:=hlo j y v' e1 e2 e3
   refine ⟨u',r', ?_⟩
   rcases q with ⟨k,e⟩ | ⟨k,c,e,z⟩
   ·refine .inl ⟨k, ?_⟩
    have:y ≠ n:=fun e=>hj (Wl hN e1 (e ▸ hi))
    simp [this,e]
   ·exact .inr ⟨k,c,e,z.sameBut hs (I.cne y c e)⟩
 ·obtain ⟨w',z⟩:=I.cell y c e
  exact ⟨w',z.sameBut hs (I.cne y c e)⟩
 ·obtain ⟨e,n,ne,nf,d⟩:=I.pin p hp
  exact ⟨(hs.2 p.1 ne).trans e,n,ne,nf,d⟩
 ·refine (I.hok b ob e).stay (fun c w' hc q=>(hs.2 c ?_).trans q) (fun _ q=>q) fun _ _ q=>q
  rintro rfl
  rcases hc with rfl | hc
  ·rw [I.free] at e; cases e
  ·rw [I.free] at hc; cases hc
end
section
variable {prog:Program} {w:World} {A:Around} {E:Value->Shared->Prop} {s:Shared} {env:Env}
theorem yF {K:Frag} {e:Addr} {cls c:Value} {t:Expr} {n:Str} {b₀:Stmt} {suite:List Stmt} {pos:Pos} {rest:List ExceptHandler} {Q:Flow->Shared->Prop} (hx:exmOne K cls c=some true)
  (h:wpAny (model prog w) (A.mark (some (.ref e))) (eval t env) (fun v s₁=>v=c/\K.In s₁.heap/\(∃ oe,s₁.heap.get? e=some oe/\oe.cls=cls)/\
   wpAny (model prog w) (A.mark (some (.ref e))) (setFlight (.ref e) none) (fun _ s₂=>
     wpAny (model prog w) (A.mark (some (.ref e))) (storeName env n (.ref e)) (fun _ s₃=>
      wpAny (model prog w) (A.mark (some (.ref e))) (execs (b₀ :: suite) env)
       (fun f s₄=>wpAny (model prog w) A (do bindName env n .none; unbindBehindTheSuite env n pos) (fun _ s₅=>Q f s₅) E s₄)
       (fun _ _=>False) s₃) (fun _ _=>False) s₂) (fun _ _=>False) s₁) (fun _ _=>False) s):
  wpAny (model prog w) A (handleBy (.ref e) env (.ExceptHandler (some t) (some n) (b₀ :: suite) pos :: rest)) Q E s:=by
 refine wpAny_handleBy_cons (codeAny_handlers_test (wpAny_mono h (fun v s₁ h₁=> ?_) fun _ _ y=>y.elim)) (by intro q; cases q)
 obtain ⟨rfl,X,⟨oe,he,hcls⟩,hk⟩:=h₁
 have LT:Looks (model prog w) s₁.heap (typeOf (.ref e)) cls:=by
  rw [← hcls]
  exact (Looks.ld he).andThen .now
 refine (exm_one X LT hx) _ _ _ _ (fun b o q=>q) (codeAny_handlers_suite_as ?_)
 exact wpAny_mono hk (fun _ s₂ h₂=>wpAny_mono h₂ (fun _ s₃ h₃=>wpAny_mono h₃ (fun _ _ y=>y) fun _ _ y=>y.elim) fun _ _ y=>y.elim) fun _ _ y=>y.elim
end
end L2
namespace L2
open PySem PySem.Spec PyProof.Rows PySem.W
section
variable {X:Cx} {pins:List (Addr×Obj)} {σ:St} {H H' :Hp} {s s' :Shared} {ea:Addr} {cls a0:Value} {B:Heap} {h3:Heap}
theorem Inv.caught (I:Inv X pins σ H s) (L:U6 X.prog X.w X.stack H s s' ea cls a0 B H') (fl:Heap.FlyingW B X.stack ea cls a0 h3) (sl:s'.heap.UpToSlots h3):Inv X pins σ H' { s' with heap:=h3 }:=
 have L3:=L.on I.frNf fl sl
 I.call' (ch:=[]) L3.os L3.un (L.hok.kept fl.1) L3.bare (fun b z=>absurd z (by simp))
theorem U6.fresh {P:Program} {w:World} {outer:List Env} (L:U6 P w outer H s s' ea cls a0 B H'):H' ea=none:=by
 cases q:H' ea with
 | none=>rfl
 | some o=>
  obtain ⟨ob,e⟩:=(L.hok ea o q).there
  have:=L.fly.2.1
  rw [e] at this; cases this
theorem Inv.caughtX (I:Inv X pins σ H s) (L:U6 X.prog X.w X.stack H s s' ea cls a0 B H') (fl:Heap.FlyingW B X.stack ea cls a0 h3) (sl:s'.heap.UpToSlots h3):Inv X pins σ (upd H' ea (.ext (U8 cls ea))) { s' with heap:=h3 }:=by
 have L3:=L.on I.frNf fl sl
 have hfree:=L.fresh
 obtain ⟨oe,vs,he,hc,hd,_⟩:=fl.first
 have hne:∀ b o,s.heap.get? b=some o->b ≠ ea:=fun b o e z=>by
  subst z
  by_cases hb:b∈frs X.stack
  ·obtain ⟨n,o2,e2,nf⟩:=I.frNf b hb
   obtain ⟨sl1,e3⟩:=L3.un.slot b o2 e2 n hb (by simp)
   have e3:h3.get? b=some { o2 with slots:=sl1 }:=e3
   rw [he] at e3; cases e3
   exact nf vs hd
  ·obtain ⟨o',e'⟩:=(L.inB b o e hb).2
   have:=L.fly.2.1
   rw [e'] at this; cases this
 have nt:∀ b u,H' b=some u->b ≠ ea:=fun b u e z=>by rw [z,hfree] at e; cases e
 refine I.call' (ch:=[]) L3.os ⟨L3.un.keep,L3.un.slot,fun b o e n hx=> ?_,L3.un.there,fun b xs e=> ?_,fun b o xs e=> ?_,fun b ps e=> ?_⟩ ?_ L3.bare (fun b z=>absurd z (by simp))
 ·rw [zD (hne b o e)]; exact L3.un.free b o e n hx
 ·have:=L3.un.tups b xs e
  rw [zD (nt b _ this)]; exact this
 ·have:=L3.un.frzs b o xs e
  rw [zD (nt b _ this)]; exact this
 ·obtain ⟨m,this⟩:=L3.un.tbls b ps e
  exact ⟨m,by rw [zD (nt b _ this)]; exact this⟩
 ·intro b u e
  by_cases hb:b=ea
  ·subst hb
   rw [Zb] at e; cases e
   exact U8.ok ⟨oe,he,hc⟩
  ·rw [zD hb] at e
   exact ((L.hok.kept fl.1) b u e).stay (fun _ _ _ q=>q) (fun c q=>by rw [zD (nt c _ q)]; exact q) fun c xs q=>by rw [zD (nt c _ q)]; exact q
end
theorem VV {X:Cx} {tb:XK->TS} {body:List Stmt} {c n y:Str} {C:Addr} {cp np yp hp apos pos:Pos} {i k:Nat}
  (hX:X.stack=X.env :: X.outer) (hf:X.env.frame=some X.env.locals) (hN:X.N.Nodup)
  (hi:X.N[i]? =some n) (hl:X.env.scope.names.lookup n=some .local) (hk:X.N[k]? =some y) (hy:X.env.scope.names.lookup y=some .local)
  (hg:Gl X c) (hm:X.mg c=some (.ref C))
  (hb:∀ (E' :XK) (pn:List (Addr×Obj)) (xe:Value->Shared->Prop),Jf (CX1 X.prog X.w) (X.try' pn xe) E' ->PSs (X.try' pn xe) body (tb E'))
  (hs:swapsWith (.Name n np) (some (.Name y yp)) apos.line X.env=pure false:=by rfl)
  (hdc:(c == ("__debug__":Str))=false:=by decide) (hdn:(n == ("__debug__":Str))=false:=by decide) (hcd:(n == ("__classdict__":Str))=false:=by decide):
  PS X (.Try body [.ExceptHandler (some (.Name c cp)) (some n) [.Assign [.Name y yp] (.Name n np) apos] hp] [] [] pos)
   (fun D σ H=>∃ E' :XK,(∀ (cls:Value) (d:Option Addr) (H' :Hp) (ea:Addr) (σ' :St),E' cls d H' ->exmOne X.K cls (.ref C)=some true/\(H' ea=none->σ'.length=σ.length->σ.length=X.N.length->D.nx (((σ'.set i (some (.ref ea))).set k (some (.ref ea))).set i none) (upd H' ea (.ext (U8 cls ea)))))/\tb E' D σ H):=by
 intro pins s σ H D I ⟨E',hE,hw⟩
 have pass:Jf (CX1 X.prog X.w) (X.try' (X.pn++pins) fun e s1=>wpAny (model X.prog X.w) X.A (noteFrame e X.env) (fun _ s2=>wpAny (model X.prog X.w) X.A (setFlight e none) (fun _ s3=>wpAny (model X.prog X.w) X.A (handleBy e X.env [.ExceptHandler (some (.Name c cp)) (some n) [.Assign [.Name y yp] (.Name n np) apos] hp]) (SP X pins D) X.xe s3) X.xe s2) X.xe s1) E' :=by
  intro pins' σ' H1 s1 e s' I1 ⟨ea,cls,a0,B,H',he,L,hw'⟩
  subst he
  have I0:Inv X pins σ' H1 s1:=I1.untry
  have L:U6 X.prog X.w X.stack H1 s1 s' ea cls a0 B H' :=L
  have fr:X.A.frames=some (X.env :: X.outer):=by rw [← hX]; exact I0.ok.frames
  show wpAny (model X.prog X.w) X.A (noteFrame (.ref ea) X.env) _ _ s'
  refine wpAny_looks_onW (base:=B) fr hf (hX ▸ L.fly) fun h1 held sl1=> ?_
  refine wpAny_landsW held fun h2 fl2 sl2=> ?_
  rw [← hX] at fl2
  have sl12:s'.heap.UpToSlots h2:=sl1.trans sl2
  have I2:=I0.caught L fl2 sl12
  obtain ⟨hm1,hD⟩:=hE cls none H' ea σ' hw'
  refine yF hm1 ?_
  refine Wm (X:=X.mark' (.ref ea)) (I2.mark' (.ref ea)) hg hm ⟨rfl,I2.kIn,fl2.there, ?_⟩ hdc
  refine lands_againW fl2 fun h3 fl3 sl3=> ?_
  have I3:=I0.caughtX L fl3 (sl12.trans sl3)
  have hlen:σ'.length=X.N.length:=I0.len
  refine Jp (X:=X.mark' (.ref ea)) (I3.mark' _) hN hi (.inl hl) (v:= .ref ea) rfl (fun s4 I4=> ?_) (.inr hl)
  have hiσ:i < σ'.length:=by rw [hlen]; exact (List.getElem?_eq_some_iff.mp hi).1
  have hs1:=Yf (UG (X:=X.mark' (.ref ea)) (pos:=apos) (pos' :=yp) hN hk (.inl hy) (vZ (pos:=np) hi (.inl hl) hdn hcd) hs (.inr hy))
  have hr:=hs1 pins s4 _ _ { nx:=fun σ5 H5=>σ5=(σ'.set i (some (.ref ea))).set k (some (.ref ea))/\H5=upd H' ea (.ext (U8 cls ea)),rt:=fun _ _=>False } I4 ⟨.ref ea,List.getElem?_set_self hiσ,rfl,rfl⟩
  refine wpAny_mono hr (fun f s5 h5=> ?_) fun _ _ z=>z
  cases f with
  | next=>
   obtain ⟨σ5,H5,I5,rfl,rfl⟩:=h5
   refine VU (X:=X) (I5.unmark I.ok.hd) hN hi hl fun s6 I6=> ?_
   exact ⟨_,_,I6,hD L.fresh (hlen.trans I.len.symm) I.len⟩
  | brk=>obtain ⟨_,_,_,z⟩:=h5; exact z.elim
  | cont=>obtain ⟨_,_,_,z⟩:=h5; exact z.elim
  | ret u=>obtain ⟨_,_,_,_,_,z⟩:=h5; exact z.elim
 have hr:=hb E' (X.pn++pins) _ pass [] s σ H D (I.try' _) hw
 refine wpAny_Try_except (wpAny_mono hr (fun f s1 h1=> ?_) fun _ _ z=>z)
 have h1:=h1.untry
 cases f with
 | next=>exact wpAny_execs_nil h1
 | brk=>exact h1
 | cont=>exact h1
 | ret u=>exact h1
end L2
namespace L2
open PySem PySem.Spec PyProof.Rows
theorem PE.imp {X:Cx} {e:Expr} {t t' :TE} (h:PE X e t) (i:∀ σ H Q,t' σ H Q->t σ H Q):PE X e t' :=fun pins s σ H Q I q=>h pins s σ H Q I (i σ H Q q)
theorem PT.imp {X:Cx} {e:Expr} {t t' :TT} (h:PT X e t) (i:∀ σ H Q,t' σ H Q->t σ H Q):PT X e t' :=fun pins s σ H Q I q=>h pins s σ H Q I (i σ H Q q)
theorem PA.imp {X:Cx} {e:List Expr} {t t' :TA} (h:PA X e t) (i:∀ σ H Q,t' σ H Q->t σ H Q):PA X e t' :=fun pos pins s σ H Q I q=>h pos pins s σ H Q I (i σ H Q q)
theorem PS.imp {X:Cx} {e:Stmt} {t t' :TS} (h:PS X e t) (i:∀ D σ H,t' D σ H->t D σ H):PS X e t' :=fun pins s σ H D I q=>h pins s σ H D I (i D σ H q)
theorem PSs.imp {X:Cx} {e:List Stmt} {t t' :TS} (h:PSs X e t) (i:∀ D σ H,t' D σ H->t D σ H):PSs X e t' :=fun pins s σ H D I q=>h pins s σ H D I (i D σ H q)
end L2
namespace PV
open PySem
def ug:Expr->Bool
 | .Starred _ _=>false
 | _=>true
theorem Zv {e:Expr} {rest:List Expr} {env:Env} (h:ug e=true):starEach (e :: rest) env=(false,eval e env) :: starEach rest env:=by
 cases e <;> first | rfl | cases h
theorem st2 {a b:Expr} {env:Env} (h:ug a=true) (h' :ug b=true):starEach [a,b] env=[(false,eval a env),(false,eval b env)]:=by
 rw [Zv h,Zv h']; rfl
theorem st1 {a:Expr} {env:Env} (h:ug a=true):starEach [a] env=[(false,eval a env)]:=by
 rw [Zv h]; rfl
theorem j8 {pos:Pos} {env:Env}:∀ {es:List Expr},es.all ug=true->((backTo pos (starEach es env)).any fun x=>x.fst)=false
 | [],_=>rfl
 | e :: es,h=>by
  rw [List.all_cons,Bool.and_eq_true] at h
  rw [Zv h.1]
  have:=j8 (pos:=pos) (env:=env) h.2
  show (false || ((backTo pos (starEach es env)).any fun x=>x.fst))=false
  rw [this]; rfl
open PySem PySem.Spec PyProof.Rows L2
abbrev Sg:=L2.St
inductive T where
 | non | bl (b:Bool) | int (i:Int) | str (x:Str) | tup (xs:List T) | lst (xs:List T) | fz (xs:List T)
inductive R (α:Type) where
 | ok (a:α) | ex (c:Nat) | bad
def R.bind {α β:Type} (r:R α) (f:α->R β):R β:=match r with
 | .ok a=>f a
 | .ex c=> .ex c
 | .bad=> .bad
mutual
inductive Rep (H:Hp):V->T->Prop where
 | non:Rep H .non .non
 | bl (b:Bool):Rep H (.bl b) (.bl b)
 | int (i:Int):Rep H (.int i) (.int i)
 | str (x:Str):Rep H (.str x) (.str x)
 | tup {a:Addr} {xs:List V} {ts:List T}:H a=some (.tup xs)->zY H xs ts->Rep H (.ref a) (.tup ts)
 | lst {a:Addr} {xs:List V} {ts:List T}:H a=some (.lst xs)->zY H xs ts->Rep H (.ref a) (.lst ts)
 | fz {a:Addr} {o:Obj} {xs:List V} {ts:List T}:H a=some (.frz o (.lst xs))->zY H xs ts->Rep H (.ref a) (.fz ts)
inductive zY (H:Hp):List V->List T->Prop where
 | nil:zY H [] []
 | cons {v:V} {t:T} {vs:List V} {ts:List T}:Rep H v t->zY H vs ts->zY H (v :: vs) (t :: ts)
end
mutual
theorem Rep.mono {H H' :Hp} (s:zK H H'):∀ {v:V} {t:T},Rep H v t->Rep H' v t
 | _,_, .non=> .non
 | _,_, .bl b=> .bl b
 | _,_, .int i=> .int i
 | _,_, .str x=> .str x
 | _,_, .tup h r=> .tup (s _ _ h) (zY.mono s r)
 | _,_, .lst h r=> .lst (s _ _ h) (zY.mono s r)
 | _,_, .fz h r=> .fz (s _ _ h) (zY.mono s r)
theorem zY.mono {H H' :Hp} (s:zK H H'):∀ {v:List V} {t:List T},zY H v t->zY H' v t
 | _,_, .nil=> .nil
 | _,_, .cons h r=> .cons (Rep.mono s h) (zY.mono s r)
end
theorem zY.length {H:Hp}:∀ {vs:List V} {ts:List T},zY H vs ts->vs.length=ts.length
 | _,_, .nil=>rfl
 | _,_, .cons _ r=>congrArg (·+1) (zY.length r)
theorem zY.get {H:Hp}:∀ {vs:List V} {ts:List T} {i:Nat} {t:T},zY H vs ts->ts[i]? =some t->∃ v,vs[i]? =some v/\Rep H v t
 | _,_,_,_, .nil,e=>by simp at e
 | _,_,0,_, .cons r _,e=>by simp at e; subst e; exact ⟨_,rfl,r⟩
 | _,_,i+1,t, .cons _ q,e=>by
  obtain ⟨v,h1,h2⟩:=zY.get (i:=i) (t:=t) q (by simpa using e)
  exact ⟨v,by simpa using h1,h2⟩
theorem zY.getV {H:Hp}:∀ {vs:List V} {ts:List T} {i:Nat} {v:V},zY H vs ts->vs[i]? =some v->∃ t,ts[i]? =some t/\Rep H v t
 | _,_,_,_, .nil,e=>by simp at e
 | _,_,0,_, .cons r _,e=>by simp at e; subst e; exact ⟨_,rfl,r⟩
 | _,_,i+1,v, .cons _ q,e=>by
  obtain ⟨t,h1,h2⟩:=zY.getV (i:=i) (v:=v) q (by simpa using e)
  exact ⟨t,by simpa using h1,h2⟩
theorem zY.append {H:Hp}:∀ {vs ws:List V} {ts us:List T},zY H vs ts->zY H ws us->zY H (vs++ws) (ts++us)
 | _,_,_,_, .nil,q=>q
 | _,_,_,_, .cons r t,q=> .cons r (zY.append t q)
theorem zY.take {H:Hp}:∀ {vs:List V} {ts:List T} (n:Nat),zY H vs ts->zY H (vs.take n) (ts.take n)
 | _,_,0,_=> .nil
 | _,_,_+1, .nil=> .nil
 | _,_,n+1, .cons r t=> .cons r (zY.take n t)
theorem zY.drop {H:Hp}:∀ {vs:List V} {ts:List T} (n:Nat),zY H vs ts->zY H (vs.drop n) (ts.drop n)
 | _,_,0,r=>r
 | _,_,_+1, .nil=> .nil
 | _,_,n+1, .cons _ t=>zY.drop n t
theorem zY.rep {H:Hp} {vs:List V} {ts:List T} (h:zY H vs ts):∀ n:Nat,zY H (List.replicate n vs).flatten (List.replicate n ts).flatten
 | 0=> .nil
 | n+1=>by
  rw [List.replicate_succ,List.replicate_succ,List.flatten_cons,List.flatten_cons]
  exact h.append (zY.rep h n)
theorem zY.nil_iff {H:Hp} {vs:List V} {ts:List T} (h:zY H vs ts):vs=[]↔ts=[]:=by
 cases h <;> simp
def Z5 (B H H' :Hp):Hp:=fun b=>match H b with
 | none=>H' b
 | some _=>B b
theorem Zw {B H H' :Hp} {b:Addr} (h:H b=none):Z5 B H H' b=H' b:=by unfold Z5; rw [h]
theorem Zs {B H H' :Hp} {b:Addr} {o:HO} (h:H b=some o):Z5 B H H' b=B b:=by unfold Z5; rw [h]
theorem Z5.ge {B H H' :Hp} (s:zK B H) (s' :zK H H'):zK B (Z5 B H H'):=fun b o h=>by
 rw [Zs (s b o h)]; exact h
theorem Z5.le {B H H' :Hp} (s:zK B H) (s' :zK H H'):zK (Z5 B H H') H' :=fun b o h=>by
 cases q:H b with
 | none=>rw [Zw q] at h; exact h
 | some u=>rw [Zs q] at h; exact s' b o (s b o h)
theorem Z5.self (B H:Hp) (s:zK B H):Z5 B H H=B:=by
 funext b
 cases q:H b with
 | none=>
  rw [Zw q,q]
  cases z:B b with
  | none=>rfl
  | some o=>rw [s b o z] at q; cases q
 | some u=>rw [Zs q]
theorem Z5.trans {B H H1 H2:Hp} (s1:zK H H1) (s2:zK H1 H2):Z5 (Z5 B H H1) H1 H2=Z5 B H H2:=by
 funext b
 cases q:H b with
 | none=>
  rw [Zw q]
  cases z:H1 b with
  | none=>rw [Zw z]
  | some o=>rw [Zs z,Zw q,z,s2 b o z]
 | some u=>rw [Zs q,Zs (s1 b u q),Zs q]
inductive Sl where
 | un | vl (t:T) | ow (ts:List T) | xc (c:Nat)
abbrev En:=List Sl
structure Fx where
 B0:Hp
 H0:Hp
 E:XK
 cl:Nat->Value
structure SI (Y:Fx) (B:Hp) (ρ:En) (σ:Sg) (H:Hp):Prop where
 s0:zK Y.B0 Y.H0
 sH:zK Y.H0 H
 sB:zK B H
 old:∀ b o,Y.H0 b=some o->B b=Y.B0 b
 len:ρ.length=σ.length
 vl:∀ (i:Nat) (t:T),ρ[i]? =some (Sl.vl t)->∃ v:V,σ[i]? =some (some v)/\Rep B v t
 ow:∀ (i:Nat) (ts:List T),ρ[i]? =some (Sl.ow ts)->∃ (a:Addr) (xs:List V),σ[i]? =some (some (V.ref a))/\B a=none/\Y.H0 a=none/\H a=some (.lst xs)/\zY B xs ts/\
  ∀ (j:Nat) (us:List T),j ≠ i->ρ[j]? =some (Sl.ow us)->σ[j]? ≠ some (some (V.ref a))
 xc:∀ (i:Nat) (c:Nat),ρ[i]? =some (Sl.xc c)->∃ a:Addr,σ[i]? =some (some (V.ref a))/\B a=some (.ext (U8 (Y.cl c) a))
theorem SI.grow {Y:Fx} {B:Hp} {ρ:En} {σ:Sg} {H H' :Hp} (I:SI Y B ρ σ H) (s:zK H H'):SI Y (Z5 B H H') ρ σ H' where
 s0:=I.s0
 sH:=I.sH.trans s
 sB:=Z5.le I.sB s
 old:=fun b o h=>by rw [Zs (I.sH b o h)]; exact I.old b o h
 len:=I.len
 vl:=fun i t h=>let ⟨v,e,r⟩:=I.vl i t h; ⟨v,e,r.mono (Z5.ge I.sB s)⟩
 ow:=fun i ts h=>let ⟨a,xs,e,b,h0,hh,r,d⟩:=I.ow i ts h; ⟨a,xs,e,by rw [Zs hh]; exact b,h0,s _ _ hh,r.mono (Z5.ge I.sB s),d⟩
 xc:=fun i c h=>let ⟨a,e,r⟩:=I.xc i c h; ⟨a,e,Z5.ge I.sB s a _ r⟩
def XP (Y:Fx) (B:Hp) (c:Nat):Prop:=∀ (d:Option Addr) (H' :Hp),zK Y.H0 H' ->zK B H' ->Y.E (Y.cl c) d H'
def Po {α β:Type} (Y:Fx) (rel:Hp->Hp->β->α->Prop) (B H:Hp) (r:R α) (Q:β->Hp->Prop):Prop:=match r with
 | .ok a=>∀ b H',zK H H' ->rel (Z5 B H H') H' b a->Q b H'
 | .ex c=>XP Y B c
 | .bad=>False
abbrev rC:Hp->Hp->V->T->Prop:=fun B _ v t=>Rep B v t
abbrev rB:Hp->Hp->V->T->Prop:=fun _ H v t=>Rep H v t
abbrev rCs:Hp->Hp->List V->List T->Prop:=fun B _ v t=>zY B v t
abbrev rE {α:Type}:Hp->Hp->α->α->Prop:=fun _ _ a b=>a=b
def tS {α β:Type} (Y:Fx) (rel:Hp->Hp->β->α->Prop) (f:En->R α) (ρ:En):Sg->Hp->(β->Hp->Prop)->Prop:=fun σ H Q=>∃ B,SI Y B ρ σ H/\Po Y rel B H (f ρ) Q
structure Snd (X:Cx) (Y:Fx) (e:Expr) (f:En->R T):Prop where
 mk ::
 go:∀ ρ,PE X e (tS Y rC f ρ)
instance {X:Cx} {Y:Fx} {e:Expr} {f:En->R T}:CoeFun (Snd X Y e f) fun _=>∀ ρ,PE X e (tS Y rC f ρ):=⟨Snd.go⟩
structure Jb (X:Cx) (Y:Fx) (e:Expr) (f:En->R T):Prop where
 mk ::
 go:∀ ρ,PE X e (tS Y rB f ρ)
instance {X:Cx} {Y:Fx} {e:Expr} {f:En->R T}:CoeFun (Jb X Y e f) fun _=>∀ ρ,PE X e (tS Y rB f ρ):=⟨Jb.go⟩
structure uh (X:Cx) (Y:Fx) (e:Expr) (f:En->R Bool):Prop where
 mk ::
 go:∀ ρ,PT X e (tS Y rE f ρ)
instance {X:Cx} {Y:Fx} {e:Expr} {f:En->R Bool}:CoeFun (uh X Y e f) fun _=>∀ ρ,PT X e (tS Y rE f ρ):=⟨uh.go⟩
structure U9 (X:Cx) (Y:Fx) (es:List Expr) (f:En->R (List T)):Prop where
 mk ::
 go:∀ ρ,PA X es (tS Y rCs f ρ)
instance {X:Cx} {Y:Fx} {es:List Expr} {f:En->R (List T)}:CoeFun (U9 X Y es f) fun _=>∀ ρ,PA X es (tS Y rCs f ρ):=⟨U9.go⟩
theorem step {α α' β β' :Type} {Y:Fx} {rel:Hp->Hp->β->α->Prop} {rel' :Hp->Hp->β' ->α' ->Prop} {f:En->R α} {k:α->R α'} {ρ:En} {B:Hp} {σ:Sg} {H:Hp} {Q:β' ->Hp->Prop} {K:β->Hp->Prop}
  (I:SI Y B ρ σ H) (h:Po Y rel' B H ((f ρ).bind k) Q)
  (n:∀ a b H1,f ρ= .ok a->zK H H1->rel (Z5 B H H1) H1 b a->SI Y (Z5 B H H1) ρ σ H1->Po Y rel' (Z5 B H H1) H1 (k a) Q->K b H1):tS Y rel f ρ σ H K:=by
 refine ⟨B,I, ?_⟩
 cases e:f ρ with
 | bad=>rw [e] at h; exact h
 | ex c=>rw [e] at h; exact h
 | ok a=>
  rw [e] at h
  intro b H1 s r
  refine n a b H1 e s r (I.grow s) ?_
  have h' :Po Y rel' B H (k a) Q:=h
  revert h'
  cases k a with
  | bad=>exact fun h' =>h'
  | ex c=>exact fun h' d H' s0 sB' =>h' d H' s0 ((Z5.ge I.sB s).trans sB')
  | ok a' =>exact fun h' b' H2 s2 r2=>h' b' H2 (s.trans s2) (by rw [← Z5.trans s s2]; exact r2)
theorem jc {α β:Type} {Y:Fx} {rel:Hp->Hp->β->α->Prop} {ρ:En} {B:Hp} {σ:Sg} {H:Hp} {a:α} {b:β} {Q:β->Hp->Prop} (I:SI Y B ρ σ H) (h:Po Y rel B H (.ok a) Q) (r:rel B H b a):Q b H:=h b H (zK.refl H) (by rw [Z5.self B H I.sB]; exact r)
theorem Snd.b {X:Cx} {Y:Fx} {e:Expr} {f:En->R T} (h:Snd X Y e f):Jb X Y e f:= .mk fun ρ=>PE.imp (h ρ) fun σ H Q ⟨B,I,q⟩=>⟨B,I,by
 revert q
 cases f ρ with
 | bad=>exact fun q=>q
 | ex c=>exact fun q=>q
 | ok a=>exact fun q b H' s r=>q b H' s (r.mono (Z5.le I.sB s))⟩
section
variable {X:Cx} {Y:Fx} {a b c:Expr} {fa fb fc:En->R T} {pos:Pos}
def vE (i:Nat):En->R T:=fun ρ=>match ρ[i]? with
 | some (.vl t)=> .ok t
 | _=> .bad
def vB (i:Nat):En->R T:=fun ρ=>match ρ[i]? with
 | some (.vl t)=> .ok t
 | some (.ow ts)=> .ok (.lst ts)
 | _=> .bad
def cE (t:T):En->R T:=fun _=> .ok t
theorem zb (i:Nat) {x:Str} (h:PE X (.Name x pos) (Yc i)):Snd X Y (.Name x pos) (vE i):= .mk fun ρ=>PE.imp h fun σ H Q ⟨B,I,q⟩=>by
 unfold vE at q
 split at q
 ·rename_i t e
  obtain ⟨v,e1,r⟩:=I.vl i t e
  exact ⟨v,e1,jc I q r⟩
 ·exact q.elim
theorem zj (i:Nat) {x:Str} (h:PE X (.Name x pos) (Yc i)):Jb X Y (.Name x pos) (vB i):= .mk fun ρ=>PE.imp h fun σ H Q ⟨B,I,q⟩=>by
 unfold vB at q
 split at q
 ·rename_i t e
  obtain ⟨v,e1,r⟩:=I.vl i t e
  exact ⟨v,e1,jc I q (r.mono I.sB)⟩
 ·rename_i ts e
  obtain ⟨a,xs,e1,_,_,hh,r,_⟩:=I.ow i ts e
  exact ⟨.ref a,e1,jc I q (.lst hh (r.mono I.sB))⟩
 ·exact q.elim
theorem zd {i j}:Snd X Y (.Constant (.int i) j pos) (cE (.int i)):= .mk fun ρ=>PE.imp XI fun σ H Q ⟨B,I,q⟩=>jc I q (.int i)
theorem uZ {i j}:Snd X Y (.Constant (.bool i) j pos) (cE (.bl i)):= .mk fun ρ=>PE.imp gd fun σ H Q ⟨B,I,q⟩=>jc I q (.bl i)
theorem QQ {j}:Snd X Y (.Constant .none j pos) (cE .non):= .mk fun ρ=>PE.imp V0 fun σ H Q ⟨B,I,q⟩=>jc I q .non
theorem zF {i j}:Snd X Y (.Constant (.str i) j pos) (cE (.str i)):= .mk fun ρ=>PE.imp V1 fun σ H Q ⟨B,I,q⟩=>jc I q (.str i)
def zg:En->R (List T):=fun _=> .ok []
def z9 (f:En->R T) (g:En->R (List T)):En->R (List T):=fun ρ=>(f ρ).bind fun t=>(g ρ).bind fun ts=> .ok (t :: ts)
theorem zi:U9 X Y [] zg:= .mk fun ρ=>PA.imp Zu fun σ H Q ⟨B,I,q⟩=>jc I q .nil
theorem za {es:List Expr} {g:En->R (List T)} (h:Snd X Y a fa) (hs:U9 X Y es g) (hq:starEach (a :: es) X.env=(false,eval a X.env) :: starEach es X.env:=by exact Zv rfl):U9 X Y (a :: es) (z9 fa g):= .mk fun ρ=>
 PA.imp (zH (h ρ) (hs ρ) hq) fun σ H Q ⟨B,I,q⟩=>step I q fun t v H1 _ s1 r1 I1 q1=>step I1 q1 fun ts vs H2 _ s2 r2 I2 q2=>jc I2 q2 (.cons (r1.mono (Z5.ge I1.sB s2)) r2)
theorem zK.new {H:Hp} {p:Addr} (h:H p=none) (o:HO):zK H (upd H p o):=fun b u q=>by rw [zD (Z4 q h)]; exact q
theorem Ji {B H:Hp} {p:Addr} (h:H p=none) (o:HO):Z5 B H (upd H p o) p=some o:=by rw [Zw h,Zb]
def bnd:Nat:=16777216
theorem jv {n:Nat} (h:n<=bnd):n<=sizeLine:=by rw [sizeLine_eq]; exact h
def ZC (g:En->R (List T)):En->R T:=fun ρ=>(g ρ).bind fun ts=>if ts.length<=bnd then .ok (.tup ts) else .bad
def ZD (g:En->R (List T)):En->R T:=fun ρ=>(g ρ).bind fun ts=>if ts.length<=bnd then .ok (.lst ts) else .bad
theorem VW {ρ:En} {σ:Sg} {B H:Hp} {xs:List V} {ts:List T} (I:SI Y B ρ σ H) (r:zY B xs ts) {p:Addr} (h:H p=none):Rep (Z5 B H (upd H p (.tup xs))) (.ref p) (.tup ts):=
 .tup (Ji h _) (r.mono (Z5.ge I.sB (zK.new h _)))
theorem VX {ρ:En} {σ:Sg} {B H:Hp} {xs:List V} {ts:List T} (I:SI Y B ρ σ H) (r:zY B xs ts) {p:Addr} (h:H p=none):Rep (Z5 B H (upd H p (.lst xs))) (.ref p) (.lst ts):=
 .lst (Ji h _) (r.mono (Z5.ge I.sB (zK.new h _)))
theorem jk {es:List Expr} {g:En->R (List T)} {x1} (h:U9 X Y es g):Snd X Y (.Tuple es x1 pos) (ZC g):= .mk fun ρ=>PE.imp (k8 (h ρ)) fun σ H Q ⟨B,I,q⟩=>
 step I q fun ts vs H1 _ s1 r1 I1 q1=>by
  split at q1
  ·rename_i hb
   refine ⟨by rw [r1.length]; exact jv hb,fun p hp=>q1 _ _ (zK.new hp _) (VW I1 r1 hp)⟩
  ·exact q1.elim
theorem ZK {es:List Expr} {g:En->R (List T)} (h:U9 X Y es g):Snd X Y (.List es pos) (ZD g):= .mk fun ρ=>PE.imp (V3 (h ρ)) fun σ H Q ⟨B,I,q⟩=>
 step I q fun ts vs H1 _ s1 r1 I1 q1=>by
  split at q1
  ·rename_i hb
   refine ⟨by rw [r1.length]; exact jv hb,fun p hp=>q1 _ _ (zK.new hp _) (VX I1 r1 hp)⟩
  ·exact q1.elim
end
end PV
namespace PV
open PySem PySem.Spec PyProof.Rows L2
def eqL (f:T->T->Option Bool):List T->List T->Option Bool
 | [],[]=>some true
 | [],_ :: _=>some false
 | _ :: _,[]=>some false
 | x :: xs,y :: ys=>match f x y with
  | none=>none
  | some b=>match eqL f xs ys with
   | none=>none
   | some c=>some (b && c)
def b2 (b:Bool):Int:=if b then 1 else 0
def eqF:Nat->T->T->Option Bool
 | _, .non, .non=>some true
 | _, .bl a, .bl b=>some (a == b)
 | _, .bl a, .int j=>some (b2 a == j)
 | _, .int i, .bl b=>some (i == b2 b)
 | _, .int i, .int j=>some (i == j)
 | _, .str x, .str y=>some (x == y)
 | n+1, .tup xs, .tup ys=>eqL (eqF n) xs ys
 | n+1, .lst xs, .lst ys=>eqL (eqF n) xs ys
 | n+1, .fz xs, .lst ys=>eqL (eqF n) xs ys
 | n+1, .lst xs, .fz ys=>eqL (eqF n) xs ys
 | n+1, .fz xs, .fz ys=>eqL (eqF n) xs ys
 | 0, .tup _, .tup _=>none
 | 0, .lst _, .lst _=>none
 | 0, .fz _, .lst _=>none
 | 0, .lst _, .fz _=>none
 | 0, .fz _, .fz _=>none
 | _, .non,_=>some false
 | _, .bl _,_=>some false
 | _, .int _,_=>some false
 | _, .str _,_=>some false
 | _, .tup _,_=>some false
 | _, .lst _,_=>some false
 | _, .fz _,_=>some false
mutual
theorem Rep.fn {H:Hp}:∀ {v:V} {t t' :T},Rep H v t->Rep H v t' ->t=t'
 | _,_,_, .non, .non=>rfl
 | _,_,_, .bl _, .bl _=>rfl
 | _,_,_, .int _, .int _=>rfl
 | _,_,_, .str _, .str _=>rfl
 | _,_,_, .tup h r, .tup h' r' =>by
  rw [h] at h'; cases h'; rw [zY.fn r r']
 | _,_,_, .tup h r, .lst h' r' =>by rw [h] at h'; cases h'
 | _,_,_, .tup h r, .fz h' r' =>by rw [h] at h'; cases h'
 | _,_,_, .lst h r, .tup h' r' =>by rw [h] at h'; cases h'
 | _,_,_, .lst h r, .lst h' r' =>by
  rw [h] at h'; cases h'; rw [zY.fn r r']
 | _,_,_, .lst h r, .fz h' r' =>by rw [h] at h'; cases h'
 | _,_,_, .fz h r, .tup h' r' =>by rw [h] at h'; cases h'
 | _,_,_, .fz h r, .lst h' r' =>by rw [h] at h'; cases h'
 | _,_,_, .fz h r, .fz h' r' =>by
  rw [h] at h'; cases h'; rw [zY.fn r r']
theorem zY.fn {H:Hp}:∀ {v:List V} {t t' :List T},zY H v t->zY H v t' ->t=t'
 | _,_,_, .nil, .nil=>rfl
 | _,_,_, .cons h r, .cons h' r' =>by rw [Rep.fn h h',zY.fn r r']
end
theorem ZV {f:T->T->Option Bool} (hf:∀ x b,f x x=some b->b=true):∀ (xs:List T) (b:Bool),eqL f xs xs=some b->b=true
 | [],b,h=>by
  have h' :some true=some b:=h
  cases h'; rfl
 | x :: xs,b,h=>by
  unfold eqL at h
  cases e:f x x with
  | none=>rw [e] at h; cases h
  | some c=>
   rw [e] at h
   cases e' :eqL f xs xs with
   | none=>rw [e'] at h; cases h
   | some d=>
    rw [e'] at h
    cases h
    rw [hf x c e,ZV hf xs d e']
    rfl
theorem Zz:∀ (n:Nat) (t:T) (b:Bool),eqF n t t=some b->b=true
 | n, .non,b,h=>by unfold eqF at h; cases h; rfl
 | n, .bl x,b,h=>by unfold eqF at h; cases h; simp
 | n, .int x,b,h=>by unfold eqF at h; cases h; simp
 | n, .str x,b,h=>by unfold eqF at h; cases h; simp
 | 0, .tup x,b,h=>by unfold eqF at h; cases h
 | 0, .lst x,b,h=>by unfold eqF at h; cases h
 | 0, .fz x,b,h=>by unfold eqF at h; cases h
 | n+1, .tup x,b,h=>by unfold eqF at h; exact ZV (Zz n) x b h
 | n+1, .lst x,b,h=>by unfold eqF at h; exact ZV (Zz n) x b h
 | n+1, .fz x,b,h=>by unfold eqF at h; exact ZV (Zz n) x b h
theorem YB {f:T->T->Option Bool}:∀ {xs ys:List T} {b:Bool},eqL f xs ys=some b->
  ∃ e:Nat->Bool,(∀ j x y,xs[j]? =some x->ys[j]? =some y->f x y=some (e j))/\((List.range (min xs.length ys.length)).all e && xs.length == ys.length)=b
 | [],[],b,h=>by
  have h' :some true=some b:=h
  cases h'
  exact ⟨fun _=>true,fun j x y h=>by simp at h,by simp⟩
 | [],y :: ys,b,h=>by
  have h' :some false=some b:=h
  cases h'
  exact ⟨fun _=>true,fun j x y h=>by simp at h,by simp⟩
 | x :: xs,[],b,h=>by
  have h' :some false=some b:=h
  cases h'
  exact ⟨fun _=>true,fun j x y h h' =>by simp at h',by simp⟩
 | x :: xs,y :: ys,b,h=>by
  unfold eqL at h
  cases e:f x y with
  | none=>rw [e] at h; cases h
  | some c=>
   rw [e] at h
   cases e' :eqL f xs ys with
   | none=>rw [e'] at h; cases h
   | some d=>
    rw [e'] at h
    cases h
    obtain ⟨g,h1,h2⟩:=YB e'
    refine ⟨fun j=>match j with | 0=>c | j+1=>g j,fun j u v hu hv=> ?_, ?_⟩
    ·cases j with
     | zero=>simp at hu hv; subst hu hv; exact e
     | succ j=>exact h1 j u v (by simpa using hu) (by simpa using hv)
    ·have z:min (x :: xs).length (y :: ys).length=min xs.length ys.length+1:=by simp only [List.length_cons]; omega
     rw [z,List.range_succ_eq_map,List.all_cons,List.all_map]
     have z2:((x :: xs).length == (y :: ys).length)=(xs.length == ys.length):=by simp
     rw [z2,← h2,Bool.and_assoc]
     rfl
section
variable {X:Cx} {pins:List (Addr×Obj)} {σ:Sg} {H:Hp} {s:Shared}
theorem jq {a:Addr} {xs:List V} {ts:List T} (I:L2.Inv X pins σ H s) (h:H a=some (.tup xs)) (r:zY H xs ts):∃ its:List Value,ZE xs its/\s.heap.IsTuple a its.toArray/\ts.length=its.length/\xs.length<=sizeLine:=by
 obtain ⟨its,rv,p,z⟩:=I.tuple (SqT.of h)
 exact ⟨its,rv,p,by rw [← r.length]; exact rv.length,z⟩
theorem Z8 {a:Addr} {xs:List V} {ts:List T} (I:L2.Inv X pins σ H s) (h:Rd H a (.lst xs)) (r:zY H xs ts):∃ its:List Value,ZE xs its/\s.heap.IsList a its.toArray/\ts.length=its.length/\xs.length<=sizeLine:=by
 obtain ⟨its,rv,p,z⟩:=I.list (.inl h)
 exact ⟨its,rv,p.isList,by rw [← r.length]; exact rv.length,z⟩
end
abbrev EqN (A:Around) (s:Shared) (u u' :Value) (b:Bool):Prop:=SeqAt.EqAt A s u u' b/\SeqAt.RcAt A s u u' b/\SeqAt.RcNeAt A s u u' (!b)
section
variable {X:Cx} {pins:List (Addr×Obj)} {σ:Sg} {H:Hp} {s:Shared}
theorem YC {xs ys:List V} {ts us:List T} {its its' :List Value} {A:Around} {f:T->T->Option Bool} {e:Nat->Bool} (r:zY H xs ts) (r' :zY H ys us) (v:ZE xs its) (v' :ZE ys its')
  (he:∀ (j:Nat) (x y:T),ts[j]? =some x->us[j]? =some y->f x y=some (e j))
  (ih:∀ (x y:T) (b:Bool) (p q:V) (u w:Value),f x y=some b->Rep H p x->Rep H q y->ZL p u->ZL q w->EqN A s u w b) (j:Nat) (h1:j < its.toArray.size) (h2:j < its'.toArray.size):
  SeqAt.EqAt A s its.toArray[j] its'.toArray[j] (e j):=by
 have l1:=v.length
 have l2:=v'.length
 have m1:=r.length
 have m2:=r'.length
 have k1:j < xs.length:=by simp at h1; omega
 have k2:j < ys.length:=by simp at h2; omega
 obtain ⟨t,et,rt⟩:=r.getV (List.getElem?_eq_getElem k1)
 obtain ⟨t',et',rt'⟩:=r'.getV (List.getElem?_eq_getElem k2)
 obtain ⟨u,eu,ru⟩:=v.get (List.getElem?_eq_getElem k1)
 obtain ⟨u',eu',ru'⟩:=v'.get (List.getElem?_eq_getElem k2)
 have q1:its.toArray[j]=u:=by
  have:its[j]? =some its.toArray[j]:=by simp at h1 ⊢
  rw [eu] at this; exact (Option.some.inj this).symm
 have q2:its'.toArray[j]=u' :=by
  have:its'[j]? =some its'.toArray[j]:=by simp at h2 ⊢
  rw [eu'] at this; exact (Option.some.inj this).symm
 rw [q1,q2]
 exact (ih t t' (e j) _ _ u u' (he j t t' et et') rt rt' ru ru').1
theorem VY {A:Around} {a c:Addr} {xs ys:List V} {ts us:List T} {b:Bool} {f:T->T->Option Bool} (I:L2.Inv X pins σ H s) (hu:A.units < cLine) (ha:H a=some (.tup xs)) (hc:H c=some (.tup ys)) (r:zY H xs ts) (r' :zY H ys us)
  (hb:eqL f ts us=some b) (hr:∀ x b,f x x=some b->b=true)
  (ih:∀ (x y:T) (b:Bool) (p q:V) (u w:Value),f x y=some b->Rep H p x->Rep H q y->ZL p u->ZL q w->EqN A.in1 s u w b):EqN A s (.ref a) (.ref c) b:=by
 obtain ⟨its,v,p,l,_⟩:=jq I ha r
 obtain ⟨its',v',p',l',_⟩:=jq I hc r'
 obtain ⟨e,he,hb'⟩:=YB hb
 have hp:=YC (A:=A.in1) r r' v v' he ih
 have z:((List.range (min its.toArray.size its'.toArray.size)).all e && its.toArray.size == its'.toArray.size)=b:=by
  rw [← hb']; simp [l,l']
 have R:=SeqAt.RcAt.tuples p p' hu hp
 have N:=SeqAt.RcNeAt.tuples p p' hu hp
 rw [z] at R
 have N' :SeqAt.RcNeAt A s (.ref a) (.ref c) (!b):=by
  rw [← z]; exact N
 refine ⟨?_,R,N'⟩
 by_cases hac:a=c
 ·subst hac
  rw [ha] at hc; cases hc
  have:=r.fn r'; subst this
  rw [ZV hr ts b hb]
  exact SeqAt.EqAt.same _
 ·exact SeqAt.EqAt.of_refs hac R
theorem Wq {A:Around} {a c:Addr} {xs ys:List V} {ts us:List T} {b:Bool} {f:T->T->Option Bool} (I:L2.Inv X pins σ H s) (hu:A.units < cLine) (ha:Rd H a (.lst xs)) (hc:Rd H c (.lst ys)) (r:zY H xs ts) (r' :zY H ys us)
  (hb:eqL f ts us=some b) (hr:∀ x b,f x x=some b->b=true)
  (ih:∀ (x y:T) (b:Bool) (p q:V) (u w:Value),f x y=some b->Rep H p x->Rep H q y->ZL p u->ZL q w->EqN A.in1 s u w b):EqN A s (.ref a) (.ref c) b:=by
 obtain ⟨its,v,p,l,_⟩:=Z8 I ha r
 obtain ⟨its',v',p',l',_⟩:=Z8 I hc r'
 obtain ⟨e,he,hb'⟩:=YB hb
 have hp:=YC (A:=A.in1) r r' v v' he ih
 have RN:SeqAt.RcAt A s (.ref a) (.ref c) b/\SeqAt.RcNeAt A s (.ref a) (.ref c) (!b):=by
  by_cases hl:its.toArray.size=its'.toArray.size
  ·have z:(List.range its.toArray.size).all e=b:=by
    rw [← hb']
    have:ts.length=us.length:=by simp at hl; omega
    rw [this]
    have k:its.toArray.size=us.length:=by simp; omega
    rw [k]; simp
   have R:=SeqAt.RcAt.lists p p' hl hu hp
   have N:=SeqAt.RcNeAt.lists p p' hl hu hp
   rw [z] at R
   refine ⟨R, ?_⟩
   rw [← z]; exact N
  ·have hl' :(its.toArray.size != its'.toArray.size)=true:=by simpa using hl
   have z:b=false:=by
    rw [← hb']
    have:¬ ts.length=us.length:=by simp at hl; omega
    simp [this]
   subst z
   exact ⟨SeqAt.RcAt.lists_lengths p p' hl' hu,SeqAt.RcNeAt.lists_lengths p p' hl' hu⟩
 refine ⟨?_,RN.1,RN.2⟩
 by_cases hac:a=c
 ·subst hac
  have hxy:xs=ys:=by
   rcases ha with ha | ⟨o,ha⟩ <;> rcases hc with hc | ⟨o',hc⟩ <;> (rw [ha] at hc; cases hc) <;> rfl
  subst hxy
  have:=r.fn r'; subst this
  rw [ZV hr ts b hb]
  exact SeqAt.EqAt.same _
 ·exact SeqAt.EqAt.of_refs hac RN.1
end
section
variable {X:Cx} {pins:List (Addr×Obj)} {σ:Sg} {H:Hp} {s:Shared}
theorem Js {A:Around}:A.in1.units=A.units+1:=rfl
set_option maxHeartbeats 2000000 in
theorem YD (I:L2.Inv X pins σ H s):∀ (A:Around),A.units < cLine->∀ (x y:T) (b:Bool) (p q:V) (u w:Value),eqF 0 x y=some b->Rep H p x->Rep H q y->ZL p u->ZL q w->EqN A s u w b:=by
 intro A hu x y b p q u w h rp rq ru rw'
 have hu' :=hu
 cases rp with
 | non=>
  obtain rfl:u=Value.none:=ru
  cases rq with
  | non=>obtain rfl:w=Value.none:=rw'; unfold eqF at h; cases h; exact ⟨.same _, .none_none, .none_none⟩
  | bl c=>obtain rfl:w=Value.bool c:=rw'; unfold eqF at h; cases h; exact ⟨.none_bool _, .none_bool _, .none_bool _⟩
  | int c=>obtain ⟨t,rfl⟩:=rw'; unfold eqF at h; cases h; exact ⟨.none_int _ _, .none_int _ _, .none_int _ _⟩
  | str c=>obtain ⟨t,rfl⟩:=rw'; unfold eqF at h; cases h; exact ⟨.none_str _ _, .none_str _ _, .none_str _ _⟩
  | tup h1 r1=>obtain rfl:w=Value.ref _:=rw'; unfold eqF at h; cases h; obtain ⟨i,_,p,_⟩:=jq I h1 r1; exact ⟨.none_tuple p hu', .none_tuple p hu', .none_tuple p hu'⟩
  | lst h1 r1=>obtain rfl:w=Value.ref _:=rw'; unfold eqF at h; cases h; obtain ⟨i,_,p,_⟩:=Z8 I (.inl h1) r1; exact ⟨.none_list p hu', .none_list p hu', .none_list p hu'⟩
  | fz h1 r1=>obtain rfl:w=Value.ref _:=rw'; unfold eqF at h; cases h; obtain ⟨i,_,p,_⟩:=Z8 I (.inr ⟨_,h1⟩) r1; exact ⟨.none_list p hu', .none_list p hu', .none_list p hu'⟩
 | bl d=>
  obtain rfl:u=Value.bool d:=ru
  cases rq with
  | non=>obtain rfl:w=Value.none:=rw'; unfold eqF at h; cases h; exact ⟨.bool_none _, .bool_none _, .bool_none _⟩
  | bl c=>obtain rfl:w=Value.bool c:=rw'; unfold eqF at h; cases h; exact ⟨.bool_bool _ _, .bool_bool _ _, .bool_bool _ _⟩
  | int c=>obtain ⟨t,rfl⟩:=rw'; unfold eqF at h; cases h; exact ⟨.bool_int _ _ _, .bool_int _ _ _, .bool_int _ _ _⟩
  | str c=>obtain ⟨t,rfl⟩:=rw'; unfold eqF at h; cases h; exact ⟨.bool_str _ _ _, .bool_str _ _ _, .bool_str _ _ _⟩
  | tup h1 r1=>obtain rfl:w=Value.ref _:=rw'; unfold eqF at h; cases h; obtain ⟨i,_,p,_⟩:=jq I h1 r1; exact ⟨.bool_tuple _ p hu', .bool_tuple _ p hu', .bool_tuple _ p hu'⟩
  | lst h1 r1=>obtain rfl:w=Value.ref _:=rw'; unfold eqF at h; cases h; obtain ⟨i,_,p,_⟩:=Z8 I (.inl h1) r1; exact ⟨.bool_list _ p hu', .bool_list _ p hu', .bool_list _ p hu'⟩
  | fz h1 r1=>obtain rfl:w=Value.ref _:=rw'; unfold eqF at h; cases h; obtain ⟨i,_,p,_⟩:=Z8 I (.inr ⟨_,h1⟩) r1; exact ⟨.bool_list _ p hu', .bool_list _ p hu', .bool_list _ p hu'⟩
 | int d=>
  obtain ⟨t0,rfl⟩:=ru
  cases rq with
  | non=>obtain rfl:w=Value.none:=rw'; unfold eqF at h; cases h; exact ⟨.int_none _ _, .int_none _ _, .int_none _ _⟩
  | bl c=>obtain rfl:w=Value.bool c:=rw'; unfold eqF at h; cases h; exact ⟨.int_bool _ _ _, .int_bool _ _ _, .int_bool _ _ _⟩
  | int c=>obtain ⟨t,rfl⟩:=rw'; unfold eqF at h; cases h; exact ⟨.int_int _ _ _ _, .int_int _ _ _ _, .int_int _ _ _ _⟩
  | str c=>obtain ⟨t,rfl⟩:=rw'; unfold eqF at h; cases h; exact ⟨.int_str _ _ _ _, .int_str _ _ _ _, .int_str _ _ _ _⟩
  | tup h1 r1=>obtain rfl:w=Value.ref _:=rw'; unfold eqF at h; cases h; obtain ⟨i,_,p,_⟩:=jq I h1 r1; exact ⟨.int_tuple _ _ p hu', .int_tuple _ _ p hu', .int_tuple _ _ p hu'⟩
  | lst h1 r1=>obtain rfl:w=Value.ref _:=rw'; unfold eqF at h; cases h; obtain ⟨i,_,p,_⟩:=Z8 I (.inl h1) r1; exact ⟨.int_list _ _ p hu', .int_list _ _ p hu', .int_list _ _ p hu'⟩
  | fz h1 r1=>obtain rfl:w=Value.ref _:=rw'; unfold eqF at h; cases h; obtain ⟨i,_,p,_⟩:=Z8 I (.inr ⟨_,h1⟩) r1; exact ⟨.int_list _ _ p hu', .int_list _ _ p hu', .int_list _ _ p hu'⟩
 | str d=>
  obtain ⟨t0,rfl⟩:=ru
  cases rq with
  | non=>obtain rfl:w=Value.none:=rw'; unfold eqF at h; cases h; exact ⟨.str_none _ _, .str_none _ _, .str_none _ _⟩
  | bl c=>obtain rfl:w=Value.bool c:=rw'; unfold eqF at h; cases h; exact ⟨.str_bool _ _ _, .str_bool _ _ _, .str_bool _ _ _⟩
  | int c=>obtain ⟨t,rfl⟩:=rw'; unfold eqF at h; cases h; exact ⟨.str_int _ _ _ _, .str_int _ _ _ _, .str_int _ _ _ _⟩
  | str c=>obtain ⟨t,rfl⟩:=rw'; unfold eqF at h; cases h; exact ⟨.str_str _ _ _ _, .str_str _ _ _ _, .str_str _ _ _ _⟩
  | tup h1 r1=>obtain rfl:w=Value.ref _:=rw'; unfold eqF at h; cases h; obtain ⟨i,_,p,_⟩:=jq I h1 r1; exact ⟨.str_tuple _ _ p hu', .str_tuple _ _ p hu', .str_tuple _ _ p hu'⟩
  | lst h1 r1=>obtain rfl:w=Value.ref _:=rw'; unfold eqF at h; cases h; obtain ⟨i,_,p,_⟩:=Z8 I (.inl h1) r1; exact ⟨.str_list _ _ p hu', .str_list _ _ p hu', .str_list _ _ p hu'⟩
  | fz h1 r1=>obtain rfl:w=Value.ref _:=rw'; unfold eqF at h; cases h; obtain ⟨i,_,p,_⟩:=Z8 I (.inr ⟨_,h1⟩) r1; exact ⟨.str_list _ _ p hu', .str_list _ _ p hu', .str_list _ _ p hu'⟩
 | tup h0 r0=>
  obtain rfl:u=Value.ref _:=ru
  obtain ⟨i0,_,p0,_⟩:=jq I h0 r0
  cases rq with
  | non=>obtain rfl:w=Value.none:=rw'; unfold eqF at h; cases h; exact ⟨.tuple_none p0 hu', .tuple_none p0 hu', .tuple_none p0 hu'⟩
  | bl c=>obtain rfl:w=Value.bool c:=rw'; unfold eqF at h; cases h; exact ⟨.tuple_bool _ p0 hu', .tuple_bool _ p0 hu', .tuple_bool _ p0 hu'⟩
  | int c=>obtain ⟨t,rfl⟩:=rw'; unfold eqF at h; cases h; exact ⟨.tuple_int _ _ p0 hu', .tuple_int _ _ p0 hu', .tuple_int _ _ p0 hu'⟩
  | str c=>obtain ⟨t,rfl⟩:=rw'; unfold eqF at h; cases h; exact ⟨.tuple_str _ _ p0 hu', .tuple_str _ _ p0 hu', .tuple_str _ _ p0 hu'⟩
  | tup h1 r1=>unfold eqF at h; cases h
  | lst h1 r1=>obtain rfl:w=Value.ref _:=rw'; unfold eqF at h; cases h; obtain ⟨i,_,p,_⟩:=Z8 I (.inl h1) r1; exact ⟨.tuple_list p0 p hu', .tuple_list p0 p hu', .tuple_list p0 p hu'⟩
  | fz h1 r1=>obtain rfl:w=Value.ref _:=rw'; unfold eqF at h; cases h; obtain ⟨i,_,p,_⟩:=Z8 I (.inr ⟨_,h1⟩) r1; exact ⟨.tuple_list p0 p hu', .tuple_list p0 p hu', .tuple_list p0 p hu'⟩
 | lst h0 r0=>
  obtain rfl:u=Value.ref _:=ru
  obtain ⟨i0,_,p0,_⟩:=Z8 I (.inl h0) r0
  cases rq with
  | non=>obtain rfl:w=Value.none:=rw'; unfold eqF at h; cases h; exact ⟨.list_none p0 hu', .list_none p0 hu', .list_none p0 hu'⟩
  | bl c=>obtain rfl:w=Value.bool c:=rw'; unfold eqF at h; cases h; exact ⟨.list_bool _ p0 hu', .list_bool _ p0 hu', .list_bool _ p0 hu'⟩
  | int c=>obtain ⟨t,rfl⟩:=rw'; unfold eqF at h; cases h; exact ⟨.list_int _ _ p0 hu', .list_int _ _ p0 hu', .list_int _ _ p0 hu'⟩
  | str c=>obtain ⟨t,rfl⟩:=rw'; unfold eqF at h; cases h; exact ⟨.list_str _ _ p0 hu', .list_str _ _ p0 hu', .list_str _ _ p0 hu'⟩
  | tup h1 r1=>obtain rfl:w=Value.ref _:=rw'; unfold eqF at h; cases h; obtain ⟨i,_,p,_⟩:=jq I h1 r1; exact ⟨.list_tuple p0 p hu', .list_tuple p0 p hu', .list_tuple p0 p hu'⟩
  | lst h1 r1=>unfold eqF at h; cases h
  | fz h1 r1=>unfold eqF at h; cases h
 | fz h0 r0=>
  obtain rfl:u=Value.ref _:=ru
  obtain ⟨i0,_,p0,_⟩:=Z8 I (.inr ⟨_,h0⟩) r0
  cases rq with
  | non=>obtain rfl:w=Value.none:=rw'; unfold eqF at h; cases h; exact ⟨.list_none p0 hu', .list_none p0 hu', .list_none p0 hu'⟩
  | bl c=>obtain rfl:w=Value.bool c:=rw'; unfold eqF at h; cases h; exact ⟨.list_bool _ p0 hu', .list_bool _ p0 hu', .list_bool _ p0 hu'⟩
  | int c=>obtain ⟨t,rfl⟩:=rw'; unfold eqF at h; cases h; exact ⟨.list_int _ _ p0 hu', .list_int _ _ p0 hu', .list_int _ _ p0 hu'⟩
  | str c=>obtain ⟨t,rfl⟩:=rw'; unfold eqF at h; cases h; exact ⟨.list_str _ _ p0 hu', .list_str _ _ p0 hu', .list_str _ _ p0 hu'⟩
  | tup h1 r1=>obtain rfl:w=Value.ref _:=rw'; unfold eqF at h; cases h; obtain ⟨i,_,p,_⟩:=jq I h1 r1; exact ⟨.list_tuple p0 p hu', .list_tuple p0 p hu', .list_tuple p0 p hu'⟩
  | lst h1 r1=>unfold eqF at h; cases h
  | fz h1 r1=>unfold eqF at h; cases h
set_option maxHeartbeats 2000000 in
theorem YE (I:L2.Inv X pins σ H s):∀ (n:Nat) (A:Around),A.units+n < cLine->∀ (x y:T) (b:Bool) (p q:V) (u w:Value),eqF n x y=some b->Rep H p x->Rep H q y->ZL p u->ZL q w->EqN A s u w b:=by
 intro n
 induction n with
 | zero=>exact fun A hu x y b p q u w h=>YD I A (by omega) x y b p q u w h
 | succ n ih=>
  intro A hu x y b p q u w h rp rq ru rw'
  have low:eqF 0 x y=some b->EqN A s u w b:=fun h=>YD I A (by omega) x y b p q u w h rp rq ru rw'
  have hu' :A.units < cLine:=by omega
  have ih' :=ih A.in1 (by rw [Js]; omega)
  cases rp with
  | tup h0 r0=>
   cases rq with
   | tup h1 r1=>
    obtain rfl:u=Value.ref _:=ru
    obtain rfl:w=Value.ref _:=rw'
    unfold eqF at h
    exact VY I hu' h0 h1 r0 r1 h (Zz n) ih'
   | _=>exact low (by unfold eqF at h ⊢; exact h)
  | lst h0 r0=>
   cases rq with
   | lst h1 r1=>
    obtain rfl:u=Value.ref _:=ru
    obtain rfl:w=Value.ref _:=rw'
    unfold eqF at h
    exact Wq I hu' (.inl h0) (.inl h1) r0 r1 h (Zz n) ih'
   | fz h1 r1=>
    obtain rfl:u=Value.ref _:=ru
    obtain rfl:w=Value.ref _:=rw'
    unfold eqF at h
    exact Wq I hu' (.inl h0) (.inr ⟨_,h1⟩) r0 r1 h (Zz n) ih'
   | _=>exact low (by unfold eqF at h ⊢; exact h)
  | fz h0 r0=>
   cases rq with
   | lst h1 r1=>
    obtain rfl:u=Value.ref _:=ru
    obtain rfl:w=Value.ref _:=rw'
    unfold eqF at h
    exact Wq I hu' (.inr ⟨_,h0⟩) (.inl h1) r0 r1 h (Zz n) ih'
   | fz h1 r1=>
    obtain rfl:u=Value.ref _:=ru
    obtain rfl:w=Value.ref _:=rw'
    unfold eqF at h
    exact Wq I hu' (.inr ⟨_,h0⟩) (.inr ⟨_,h1⟩) r0 r1 h (Zz n) ih'
   | _=>exact low (by unfold eqF at h ⊢; exact h)
  | _=>exact low (by cases rq <;> (unfold eqF at h ⊢; exact h))
end
section
variable {X:Cx} {Y:Fx} {a b c d:Expr} {fa fb fc fd:En->R T} {pos:Pos}
def rG (Y:Fx) (g:T->T->R T):R2:=fun x y H Q=>∃ B t t',zK B H/\Rep B x t/\Rep B y t' /\Po Y rC B H (g t t') Q
def ze (g:T->T->R T) (fa fb:En->R T):En->R T:=fun ρ=>(fa ρ).bind fun x=>(fb ρ).bind fun y=>g x y
theorem YF {op:Operator} {g:T->T->R T} (ho:OpR X (binaryOp op) (rG Y g)) (ha:Snd X Y a fa) (hb:Snd X Y b fb):Snd X Y (.BinOp a op b pos) (ze g fa fb):= .mk fun ρ=>
 PE.imp (gy ho (ha ρ) (hb ρ)) fun σ H Q ⟨B,I,q⟩=>step I q fun t v H1 _ s1 r1 I1 q1=>step I1 q1 fun t' v' H2 _ s2 r2 I2 q2=>
  ⟨_,t,t',I2.sB,r1.mono (Z5.ge I1.sB s2),r2,q2⟩
theorem po0 {g:R T} {B H:Hp} {Q:VK} {t:T} {v:V} (sB:zK B H) (q:Po Y rC B H g Q) (e:g= .ok t) (r:Rep B v t):Q v H:=by
 subst e
 exact q v H (zK.refl H) (by show Rep (Z5 B H H) v t; rw [Z5.self B H sB]; exact r)
theorem Ky {g:R T} {B H:Hp} {Q:VK} {ts:List T} {xs:List V} {p:Addr} (sB:zK B H) (q:Po Y rC B H g Q) (e:g= .ok (.tup ts)) (r:zY B xs ts) (h:H p=none):Q (.ref p) (upd H p (.tup xs)):=by
 subst e
 exact q _ _ (zK.new h _) (.tup (Ji h _) (r.mono (Z5.ge sB (zK.new h _))))
theorem gK {g:R T} {B H:Hp} {Q:VK} {ts:List T} {xs:List V} {p:Addr} (sB:zK B H) (q:Po Y rC B H g Q) (e:g= .ok (.lst ts)) (r:zY B xs ts) (h:H p=none):Q (.ref p) (upd H p (.lst xs)):=by
 subst e
 exact q _ _ (zK.new h _) (.lst (Ji h _) (r.mono (Z5.ge sB (zK.new h _))))
def zt:T->T->R T
 | .int i, .int j=> .ok (.int (i+j))
 | .bl x, .int j=> .ok (.int (b2 x+j))
 | .int i, .bl y=> .ok (.int (i+b2 y))
 | .str x, .str y=>if x.length+y.length<=bnd then .ok (.str (x++y)) else .bad
 | .tup xs, .tup ys=>if xs.length+ys.length<=bnd then .ok (.tup (xs++ys)) else .bad
 | .lst xs, .lst ys=>if xs.length+ys.length<=bnd then .ok (.lst (xs++ys)) else .bad
 | _,_=> .bad
theorem QR {prog:Program} {w:World} {A:Around} {E:Value->Shared->Prop} {s:Shared} {t b:Addr} {vs ws:List Value} {Q:Value->Shared->Prop} (ht:IsTup s.heap t vs.toArray) (hb:IsTup s.heap b ws.toArray) (hv:vs=[])
  (h1:Q (.ref b) s):wpAny (model prog w) A (binaryOp .Add (.ref t) (.ref b)) Q E s:=by
 obtain ⟨⟨cls,dd,data,sl⟩,ho,hc,n,hd⟩:=id ht
 obtain ⟨⟨cls2,dd2,data2,sl2⟩,ho2,hc2,n2,hd2⟩:=id hb
 simp only at hc hd hc2 hd2
 subst hc hd hc2 hd2
 exact concat_meets ⟨_,ho,rfl⟩ ⟨_,ho2,rfl⟩ noFill_tuple_add seq_tuple_add PySem.F.slot_tuple_add PySem.F.entry_tuple_add (PySem.F.args_tuple_add_2 _ _)
   (tuple_addW0 t b vs.toArray ws.toArray n n2 dd dd2 sl sl2 (by simp [hv])) ⟨ho,ho2,h1⟩
theorem VZ:OpR X (binaryOp .Add) (rG Y zt):=by
 intro pins s σ H x y v u Q I rx ry h
 obtain ⟨B,t,t',sB,r,r',q⟩:=h
 cases r with
 | int i=>
  cases r' with
  | int j=>exact XV pins s σ H _ _ v u Q I rx ry ⟨i,j,rfl,rfl,po0 sB q rfl (.int _)⟩
  | bl y=>exact Yl pins s σ H _ _ v u Q I rx ry ⟨i,y,rfl,rfl,po0 sB q rfl (.int _)⟩
  | _=>exact q.elim
 | bl x=>
  cases r' with
  | int j=>
   obtain rfl:v=Value.bool x:=rx
   obtain ⟨tk,rfl⟩:=ry
   exact IntBool.add_bool_int (⟨.int _,H,I.tok _,⟨_,rfl⟩,po0 sB q rfl (.int _)⟩)
  | _=>exact q.elim
 | str x=>
  cases r' with
  | str y=>
   by_cases hb:x.length+y.length<=bnd
   ·exact yz pins s σ H _ _ v u Q I rx ry ⟨x,y,rfl,rfl,jv hb,po0 sB q (if_pos hb) (.str _)⟩
   ·rw [show zt (.str x) (.str y)= .bad from if_neg hb] at q; exact q.elim
  | _=>exact q.elim
 | @tup a xs ts h1 r1=>
  cases r' with
  | @tup a' ys us h2 r2=>
   by_cases hb:ts.length+us.length<=bnd
   ·have eg:zt (.tup ts) (.tup us)= .ok (.tup (ts++us)):=if_pos hb
    have hz:xs.length+ys.length<=sizeLine:=by rw [r1.length,r2.length]; exact jv hb
    by_cases hx:xs=[]
    ·obtain rfl:v=Value.ref a:=rx
     obtain rfl:u=Value.ref a' :=ry
     obtain ⟨its,rv,p,_⟩:=I.tuple (SqT.of (sB _ _ h1))
     obtain ⟨its',rv',p',_⟩:=I.tuple (SqT.of (sB _ _ h2))
     have et:ts=[]:=r1.nil_iff.mp hx
     refine QR p p' (rv.nil_iff.mpr hx) ⟨.ref a',H,I,rfl,po0 sB q eg ?_⟩
     rw [et]; exact .tup h2 r2
    ·refine VO pins s σ H _ _ v u Q I rx ry ⟨a,a',xs,ys,rfl,rfl,SqT.of (sB _ _ h1),SqT.of (sB _ _ h2),hx,hz,fun hy=> ?_,fun hy p hp=> ?_⟩
     ·refine po0 sB q eg ?_
      rw [r2.nil_iff.mp hy,List.append_nil]
      exact .tup h1 r1
     ·exact Ky sB q eg (r1.append r2) hp
   ·rw [show zt (.tup ts) (.tup us)= .bad from if_neg hb] at q; exact q.elim
  | _=>exact q.elim
 | @lst a xs ts h1 r1=>
  cases r' with
  | @lst a' ys us h2 r2=>
   by_cases hb:ts.length+us.length<=bnd
   ·have eg:zt (.lst ts) (.lst us)= .ok (.lst (ts++us)):=if_pos hb
    have hz:xs.length+ys.length<=sizeLine:=by rw [r1.length,r2.length]; exact jv hb
    exact ki pins s σ H _ _ v u Q I rx ry ⟨a,a',xs,ys,rfl,rfl,sB _ _ h1,sB _ _ h2,hz,fun p hp=>gK sB q eg (r1.append r2) hp⟩
   ·rw [show zt (.lst ts) (.lst us)= .bad from if_neg hb] at q; exact q.elim
  | _=>exact q.elim
 | _=>cases r' <;> exact q.elim
theorem zC (ha:Snd X Y a fa) (hb:Snd X Y b fb):Snd X Y (.BinOp a .Add b pos) (ze zt fa fb):=YF VZ ha hb
def jK:T->T->R T
 | .int i, .int j=> .ok (.int (i - j))
 | _,_=> .bad
def wd:T->T->R T
 | .int i, .int j=>if 0 < j then .ok (.int (i % j)) else .bad
 | _,_=> .bad
def yG:T->T->R T
 | .int i, .int j=>if 0 < j/\j < 1073741824 then .ok (.int (i / j)) else .bad
 | _,_=> .bad
instance (i j:Int):Decidable (WY i j):=by unfold WY; infer_instance
def Zi:T->T->R T
 | .int i, .int j=>if WY i j then .ok (.int (i*j)) else .bad
 | .lst xs, .int k=>if 0<=k/\k < 1000000/\xs.length*k.toNat<=bnd then .ok (.lst (List.replicate k.toNat xs).flatten) else .bad
 | .tup xs, .int k=>if 2<=k/\k < 1000000/\xs ≠ []/\xs.length*k.toNat<=bnd then .ok (.tup (List.replicate k.toNat xs).flatten) else .bad
 | _,_=> .bad
theorem x3:OpR X (binaryOp .Sub) (rG Y jK):=by
 intro pins s σ H x y v u Q I rx ry h
 obtain ⟨B,t,t',sB,r,r',q⟩:=h
 cases r with
 | int i=>
  cases r' with
  | int j=>exact XW pins s σ H _ _ v u Q I rx ry ⟨i,j,rfl,rfl,po0 sB q rfl (.int _)⟩
  | _=>exact q.elim
 | _=>cases r' <;> exact q.elim
theorem x6:OpR X (binaryOp .Mod) (rG Y wd):=by
 intro pins s σ H x y v u Q I rx ry h
 obtain ⟨B,t,t',sB,r,r',q⟩:=h
 cases r with
 | int i=>
  cases r' with
  | int j=>
   by_cases hj:0 < j
   ·exact XY pins s σ H _ _ v u Q I rx ry ⟨i,j,rfl,rfl,hj,po0 sB q (if_pos hj) (.int _)⟩
   ·rw [show wd (.int i) (.int j)= .bad from if_neg hj] at q; exact q.elim
  | _=>exact q.elim
 | _=>cases r' <;> exact q.elim
theorem QS:OpR X (binaryOp .FloorDiv) (rG Y yG):=by
 intro pins s σ H x y v u Q I rx ry h
 obtain ⟨B,t,t',sB,r,r',q⟩:=h
 cases r with
 | int i=>
  cases r' with
  | int j=>
   by_cases hj:0 < j/\j < 1073741824
   ·exact VH pins s σ H _ _ v u Q I rx ry ⟨i,j,rfl,rfl,hj,po0 sB q (if_pos hj) (.int _)⟩
   ·rw [show yG (.int i) (.int j)= .bad from if_neg hj] at q; exact q.elim
  | _=>exact q.elim
 | _=>cases r' <;> exact q.elim
theorem yH (l:Addr) (items:Array Value) (n:Nat) (dd:Option Addr) (sl:Array (Option Value)) (x:Int) (u:Tok) (h1:2<=x) (h2:x < 1000000) (hne:items.isEmpty=false) (hsz:items.size*x.toNat<=sizeLine):
  Meets (Builtin.«tuple.__mul__» ⟨[.ref l, .int x u],[]⟩) (fun _ R s=>s.heap.get? l=some { cls:= .type "tuple",dict:=dd,data:= .seq items n,slots:=sl }/\
   R (.ok (.ret (Value.ref s.heap.objs.size))) { s with heap:=s.heap.push { cls:=Value.type "tuple",data:=Data.seq (List.foldl (fun x1 x2=>x1++x2) #[] (List.replicate x.toNat items)) },toks:=s.toks }):=
 .of_wp fun prog w A R s h=>by
  obtain ⟨hp,g,d,tk,os⟩:=s; obtain ⟨hl,h⟩:=h
  have f1:=AutoSeq1.idx_int
  have e0:(items.size:Int)*x=((items.size*x.toNat:Nat):Int):=by
   have:x=((x.toNat:Nat):Int):=by omega
   rw [Int.natCast_mul,← this]
  have sl1:(sizeLine:Nat)=16777216:=sizeLine_eq
  have c1:¬ (decide (x < -(2 ^ 63)) || decide (x ≥ 2 ^ 63))=true:=by simp; omega
  have c2:¬ (items.isEmpty || x == 1)=true:=by simp [hne]; omega
  have c3:¬ (decide (x<=0) || items.isEmpty)=true:=by simp [hne]; omega
  have c4:¬ ((items.size:Int)*x > (2 ^ 63 - 1) / 8):=by rw [e0]; omega
  have c5:¬ Builtin.Tuple.tupleTooMany ((items.size:Int)*x)=true:=by
   unfold Builtin.Tuple.tupleTooMany
   rw [e0]
   intro z
   have:=of_decide_eq_true z
   omega
  unfold Builtin.«tuple.__mul__»
  wp_walk using wpAny_loadPart' hl
  rw [if_neg c1]
  wp_walk using wpAny_loadPart' hl
  rw [if_neg c2]
  try dsimp only
  rw [if_neg c3]
  try dsimp only
  rw [if_neg c4]
  try dsimp only
  rw [if_neg c5]
  try dsimp only
  have hsz' :sizeOk (.seq (List.foldl (fun x1 x2=>x1++x2) #[] (List.replicate x.toNat items))):=by
   show (List.foldl (fun x1 x2=>x1++x2) #[] (List.replicate x.toNat items)).size<=sizeLine
   have:=Jr items.toList x.toNat []
   rw [List.nil_append] at this
   have q:List.foldl (fun x1 x2=>x1++x2) #[] (List.replicate x.toNat items)=(List.replicate x.toNat items.toList).flatten.toArray:=by
    simpa using this
   rw [q,List.size_toArray,Wp,Array.length_toList,Nat.mul_comm]
   exact hsz
  exact wpAny_bind (m:=Builtin.Tuple.tupleExact _) (wpAny_newObj_type (wpAny_pure ⟨_,rfl,h⟩) hsz')
theorem ui:seqRepeat? (.type "tuple")=pure (some (.builtin "tuple.__mul__")):=by
 unfold seqRepeat?
 rw [PySem.seqSlot_of (T:="tuple") (name:="__mul__") (id:="tuple.__mul__") F.slot_tuple_mul.lookup (by decide+kernel),PySem.seqSlot_of (T:="tuple") (name:="__rmul__") (id:="tuple.__rmul__") F.slot_tuple_rmul.lookup (by decide+kernel)]
 rfl
theorem w8:fillsNumberSlot (.type "tuple") "mul"=pure false:=
 PySem.fillsNumberSlot_seq (id:="tuple.__mul__") (r:=some (.builtin "tuple.__rmul__")) F.slot_tuple_mul.lookup (by decide+kernel) F.slot_tuple_rmul.lookup (by decide+kernel)
theorem wW (a:Int) (t:Tok) (l:Addr) (items:Array Value) (n:Nat) (dd:Option Addr) (sl:Array (Option Value)):
  Meets (Builtin.«int.__rmul__» ⟨[.int a t, .ref l],[]⟩) (fun _ R s=>s.heap.get? l=some { cls:= .type "tuple",dict:=dd,data:= .seq items n,slots:=sl }/\R (.ok (.ret Value.notImplemented)) s):=
 .of_wp fun prog w A R s h=>by obtain ⟨hp,g,d,tk,os⟩:=s; obtain ⟨hl,h⟩:=h; wp_walk; exact ⟨_,rfl,h⟩
theorem x8 {prog:Program} {w:World} {A:Around} {E:Value->Shared->Prop} {s:Shared} {l:Addr} {its:List Value} {k:Int} {t:Tok} {Q:Value->Shared->Prop} (p:IsTup s.heap l its.toArray) (hne:its ≠ []) (h1:2<=k) (h2:k < 1000000)
  (hsz:its.length*k.toNat<=sizeLine) (q:Q (.ref s.heap.objs.size) { s with heap:=s.heap.push { cls:= .type "tuple",data:= .seq (List.replicate k.toNat its).flatten.toArray } }):
  wpAny (model prog w) A (binaryOp .Mult (.ref l) (.int k t)) Q E s:=by
 obtain ⟨⟨cls,dd,data,sl⟩,ho,hc,n,hd⟩:=id p
 simp only at hc hd
 subst hc hd
 refine wpAny_binaryOp_repeat_ref (T:="tuple") (U:="int") (by decide) ⟨_,ho,rfl⟩ (fun s' =>typeIs_int s' k t) w8 F.fills_int_mul F.slot_int_rmul ui F.slot_int_index.lookup
  (call_meets F.slot_int_rmul (typeIs_int s k t) F.entry_int_rmul (F.args_int_rmul_2 _ _) (wW k t l its.toArray n dd sl)
   ⟨ho,rfl,⟨_,ho,rfl⟩,call_meets F.slot_tuple_mul ⟨_,ho,rfl⟩ F.entry_tuple_mul (F.args_tuple_mul_2 _ _) (yH l its.toArray n dd sl k t h1 h2 (by simpa using hne) (by simpa using hsz)) ⟨ho, ?_⟩⟩)
 have:=Jr its k.toNat []
 rw [List.nil_append] at this
 rw [this]
 exact q
theorem x9:OpR X (binaryOp .Mult) (rG Y Zi):=by
 intro pins s σ H x y v u Q I rx ry h
 obtain ⟨B,t,t',sB,r,r',q⟩:=h
 cases r with
 | int i=>
  cases r' with
  | int j=>
   by_cases hj:WY i j
   ·exact XX pins s σ H _ _ v u Q I rx ry ⟨i,j,rfl,rfl,hj,po0 sB q (if_pos hj) (.int _)⟩
   ·rw [show Zi (.int i) (.int j)= .bad from if_neg hj] at q; exact q.elim
  | _=>exact q.elim
 | @lst l xs ts h1 r1=>
  cases r' with
  | int k=>
   by_cases hk:0<=k/\k < 1000000/\ts.length*k.toNat<=bnd
   ·have eg:Zi (.lst ts) (.int k)= .ok (.lst (List.replicate k.toNat ts).flatten):=if_pos hk
    exact kj pins s σ H _ _ v u Q I rx ry ⟨l,k,xs,rfl,rfl,sB _ _ h1,by omega,by omega,by rw [r1.length]; exact jv hk.2.2,fun p hp=>gK sB q eg (r1.rep _) hp⟩
   ·rw [show Zi (.lst ts) (.int k)= .bad from if_neg hk] at q; exact q.elim
  | _=>exact q.elim
 | @tup l xs ts h1 r1=>
  cases r' with
  | int k=>
   by_cases hk:2<=k/\k < 1000000/\ts ≠ []/\ts.length*k.toNat<=bnd
   ·have eg:Zi (.tup ts) (.int k)= .ok (.tup (List.replicate k.toNat ts).flatten):=if_pos hk
    obtain rfl:v=Value.ref l:=rx
    obtain ⟨tk,rfl⟩:=ry
    obtain ⟨its,rv,p,_⟩:=I.tuple (SqT.of (sB _ _ h1))
    have ln:ts.length=its.length:=r1.length.symm.trans rv.length
    have hne:its ≠ []:=fun z=>hk.2.2.1 (by rw [z] at ln; exact List.length_eq_zero_iff.mp ln)
    refine x8 p hne hk.1 hk.2.1 (by rw [← ln]; exact jv hk.2.2.2) ⟨.ref s.heap.objs.size,upd H s.heap.objs.size (.tup (List.replicate k.toNat xs).flatten),I.laid (t' :=s.toks) (fun b u e=>Heap.get?_push_of_some _ e) (Nat.le_refl _) ?_,rfl, ?_⟩
    ·exact ⟨by rw [Wp,r1.length,Nat.mul_comm]; exact jv hk.2.2.2,(List.replicate k.toNat its).flatten,rv.rep _,⟨_,Heap.get?_push_size _ rfl,rfl,_,rfl⟩⟩
    ·exact Ky sB q eg (r1.rep _) (I.hok.fresh (Nat.le_refl _))
   ·rw [show Zi (.tup ts) (.int k)= .bad from if_neg hk] at q; exact q.elim
  | _=>exact q.elim
 | _=>cases r' <;> exact q.elim
theorem jN (ha:Snd X Y a fa) (hb:Snd X Y b fb):Snd X Y (.BinOp a .Sub b pos) (ze jK fa fb):=YF x3 ha hb
theorem yI (ha:Snd X Y a fa) (hb:Snd X Y b fb):Snd X Y (.BinOp a .Mod b pos) (ze wd fa fb):=YF x6 ha hb
theorem km (ha:Snd X Y a fa) (hb:Snd X Y b fb):Snd X Y (.BinOp a .FloorDiv b pos) (ze yG fa fb):=YF QS ha hb
theorem j9 (ha:Snd X Y a fa) (hb:Snd X Y b fb):Snd X Y (.BinOp a .Mult b pos) (ze Zi fa fb):=YF x9 ha hb
def YG (fa:En->R T):En->R T:=fun ρ=>(fa ρ).bind fun x=>match x with
 | .int i=> .ok (.int (-i))
 | _=> .bad
theorem YH (ha:Snd X Y a fa):Snd X Y (.UnaryOp .USub a pos) (YG fa):= .mk fun ρ=>PE.imp (gz XZ (ha ρ)) fun σ H Q ⟨B,I,q⟩=>step I q fun t v H1 _ s1 r1 I1 q1=>by
 cases r1 with
 | int i=>exact ⟨i,rfl,po0 I1.sB q1 rfl (.int _)⟩
 | _=>exact q1.elim
def W6 (g:T->T->R Bool):R2:=fun x y H Q=>∃ t t' b,Rep H x t/\Rep H y t' /\g t t' = .ok b/\Q (.bl b) H
def w9 (g:T->T->R Bool) (fa fb:En->R T):En->R T:=fun ρ=>(fa ρ).bind fun x=>(fb ρ).bind fun y=>(g x y).bind fun b=> .ok (.bl b)
def zx (g:T->T->R Bool) (fa fb:En->R T):En->R Bool:=fun ρ=>(fa ρ).bind fun x=>(fb ρ).bind fun y=>g x y
def Nx (g:T->T->R Bool):Prop:=∀ t t' c,g t t' ≠ .ex c
theorem Jt {op:CmpOp} {g:T->T->R Bool} (nx:Nx g) (ho:OpR X (compareOp op) (W6 g)) (ha:Jb X Y a fa) (hb:Jb X Y b fb) (hm:behindInMarks op b=false):Snd X Y (.Compare a [op] [b] pos) (w9 g fa fb):= .mk fun ρ=>
 PE.imp (VI ho (ha ρ) (hb ρ) hm) fun σ H Q ⟨B,I,q⟩=>step I q fun t v H1 _ s1 r1 I1 q1=>step I1 q1 fun t' v' H2 _ s2 r2 I2 q2=>by
  cases e:g t t' with
  | bad=>rw [e] at q2; exact q2.elim
  | ex c=>exact absurd e (nx _ _ _)
  | ok b=>rw [e] at q2; exact ⟨t,t',b,r1.mono s2,r2,e,jc I2 q2 (.bl b)⟩
theorem zy {op:CmpOp} {g:T->T->R Bool} (nx:Nx g) (ho:OpR X (compareOp op) (W6 g)) (ha:Jb X Y a fa) (hb:Jb X Y b fb) (hm:behindInMarks op b=false):uh X Y (.Compare a [op] [b] pos) (zx g fa fb):= .mk fun ρ=>
 PT.imp (Ym ho (ha ρ) (hb ρ) hm) fun σ H Q ⟨B,I,q⟩=>step I q fun t v H1 _ s1 r1 I1 q1=>step I1 q1 fun t' v' H2 _ s2 r2 I2 q2=>by
  cases e:g t t' with
  | bad=>rw [e] at q2; exact q2.elim
  | ex c=>exact absurd e (nx _ _ _)
  | ok b=>rw [e] at q2; exact ⟨t,t',b,r1.mono s2,r2,e,b,rfl,jc I2 q2 rfl⟩
def eqC (t t' :T):R Bool:=match eqF 30 t t' with
 | some b=> .ok b
 | none=> .bad
def neC (t t' :T):R Bool:=match eqF 30 t t' with
 | some b=> .ok (!b)
 | none=> .bad
theorem zS:Nx eqC:=fun t t' c h=>by unfold eqC at h; split at h <;> cases h
theorem Ju:Nx neC:=fun t t' c h=>by unfold neC at h; split at h <;> cases h
theorem zv (hu:X.A.units+64 < cLine):OpR X (compareOp .Eq) (W6 eqC):=by
 intro pins s σ H x y v u Q I rx ry h
 obtain ⟨t,t',b,r,r',e,q⟩:=h
 unfold eqC at e
 split at e
 ·rename_i k ek
  have e' :k=b:=by injection e
  subst e'
  exact (YE I 30 X.A (by omega) t t' k x y v u ek r r' rx ry).2.1 _ _ _ _ ⟨.bl k,H,I,rfl,q⟩
 ·cases e
theorem jl (hu:X.A.units+64 < cLine):OpR X (compareOp .NotEq) (W6 neC):=by
 intro pins s σ H x y v u Q I rx ry h
 obtain ⟨t,t',b,r,r',e,q⟩:=h
 unfold neC at e
 split at e
 ·rename_i k ek
  cases e
  exact (YE I 30 X.A (by omega) t t' k x y v u ek r r' rx ry).2.2 _ _ _ _ ⟨.bl (!k),H,I,rfl,q⟩
 ·cases e
def ltC:T->T->R Bool
 | .int i, .int j=> .ok (decide (i < j))
 | _,_=> .bad
def leC:T->T->R Bool
 | .int i, .int j=> .ok (decide (i<=j))
 | .str x, .str y=> .ok (!decide (y.cps.toList < x.cps.toList))
 | _,_=> .bad
def gtC:T->T->R Bool
 | .int i, .int j=> .ok (decide (j < i))
 | _,_=> .bad
def geC:T->T->R Bool
 | .int i, .int j=> .ok (decide (j<=i))
 | _,_=> .bad
theorem yJ:Nx ltC:=fun t t' c h=>by unfold ltC at h; split at h <;> cases h
theorem ZM:Nx leC:=fun t t' c h=>by unfold leC at h; split at h <;> cases h
theorem YI:Nx gtC:=fun t t' c h=>by unfold gtC at h; split at h <;> cases h
theorem gL:Nx geC:=fun t t' c h=>by unfold geC at h; split at h <;> cases h
theorem W7:OpR X (compareOp .Lt) (W6 ltC):=by
 intro pins s σ H x y v u Q I rx ry h
 obtain ⟨t,t',b,r,r',e,q⟩:=h
 unfold ltC at e
 split at e
 ·rename_i i j; cases e; cases r; cases r'; exact gA pins s σ H _ _ v u Q I rx ry ⟨i,j,rfl,rfl,q⟩
 ·cases e
theorem uj:OpR X (compareOp .Gt) (W6 gtC):=by
 intro pins s σ H x y v u Q I rx ry h
 obtain ⟨t,t',b,r,r',e,q⟩:=h
 unfold gtC at e
 split at e
 ·rename_i i j; cases e; cases r; cases r'; exact gC pins s σ H _ _ v u Q I rx ry ⟨i,j,rfl,rfl,q⟩
 ·cases e
theorem kn:OpR X (compareOp .GtE) (W6 geC):=by
 intro pins s σ H x y v u Q I rx ry h
 obtain ⟨t,t',b,r,r',e,q⟩:=h
 unfold geC at e
 split at e
 ·rename_i i j; cases e; cases r; cases r'; exact gD pins s σ H _ _ v u Q I rx ry ⟨i,j,rfl,rfl,q⟩
 ·cases e
theorem Z6:OpR X (compareOp .LtE) (W6 leC):=by
 intro pins s σ H x y v u Q I rx ry h
 obtain ⟨t,t',b,r,r',e,q⟩:=h
 unfold leC at e
 split at e
 ·rename_i i j; cases e; cases r; cases r'; exact gB pins s σ H _ _ v u Q I rx ry ⟨i,j,rfl,rfl,q⟩
 ·rename_i i j; cases e; cases r; cases r'
  obtain ⟨t1,rfl⟩:=rx
  obtain ⟨t2,rfl⟩:=ry
  exact PySem.P.le_str ⟨.bl _,H,I,rfl,q⟩
 ·cases e
end
section
variable {X:Cx} {Y:Fx} {a b c d:Expr} {fa fb fc fd:En->R T} {pos:Pos}
def uk (f:T->Option Bool):List T->Option Bool
 | []=>some false
 | t :: r=>match f t with
  | none=>none
  | some b=>match uk f r with
   | none=>none
   | some c=>some (b || c)
def inC (t t' :T):R Bool:=match t' with
 | .tup ys=>match uk (fun y=>eqF 30 y t) ys with | some b=> .ok b | none=> .bad
 | .lst ys=>match uk (fun y=>eqF 30 y t) ys with | some b=> .ok b | none=> .bad
 | _=> .bad
def ul (t t' :T):R Bool:=(inC t t').bind fun b=> .ok (!b)
theorem yK:Nx inC:=fun t t' c h=>by
 unfold inC at h
 split at h
 ·split at h <;> cases h
 ·split at h <;> cases h
 ·cases h
theorem YJ:Nx ul:=fun t t' c h=>by
 unfold ul at h
 cases e:inC t t' with
 | bad=>rw [e] at h; cases h
 | ex k=>exact absurd e (yK _ _ _)
 | ok k=>rw [e] at h; cases h
open Classical in
theorem Ua {H:Hp} (f:T->Option Bool):∃ e:Value->Bool,∀ (v:V) (t:T) (u:Value) (b:Bool),ZL v u->Rep H v t->f t=some b->e u=b:=by
 refine ⟨fun u=>decide (∃ v t,ZL v u/\Rep H v t/\f t=some true),fun v t u b rv r e=> ?_⟩
 cases b with
 | true=>exact decide_eq_true ⟨v,t,rv,r,e⟩
 | false=>
  refine decide_eq_false ?_
  rintro ⟨v',t',rv',r',e'⟩
  have:=rv.inj rv'; subst this
  have:=r.fn r'; subst this
  rw [e] at e'; cases e'
theorem YK {H:Hp} {f:T->Option Bool} {e:Value->Bool} (he:∀ (v:V) (t:T) (u:Value) (b:Bool),ZL v u->Rep H v t->f t=some b->e u=b):∀ {xs:List V} {ts:List T} {its:List Value} {b:Bool},
  ZE xs its->zY H xs ts->uk f ts=some b->its.any e=b/\∀ u∈its,∃ v t k,ZL v u/\Rep H v t/\f t=some k
 | _,_,_,b, .nil, .nil,h=>by
  have h' :some false=some b:=h
  cases h'
  exact ⟨rfl,fun u hu=>by simp at hu⟩
 | _,_,_,b, .cons rv vs, .cons r rs,h=>by
  rename_i v u vals us t ts
  unfold uk at h
  cases q:f t with
  | none=>rw [q] at h; cases h
  | some k=>
   rw [q] at h
   cases q' :uk f ts with
   | none=>rw [q'] at h; cases h
   | some k' =>
    rw [q'] at h
    cases h
    obtain ⟨h1,h2⟩:=YK he vs rs q'
    refine ⟨by rw [List.any_cons,h1,he v t u k rv r q],fun w hw=> ?_⟩
    rcases List.mem_cons.mp hw with rfl | hw
    ·exact ⟨v,t,k,rv,r,q⟩
    ·exact h2 w hw
theorem YL (hu:X.A.units+64 < cLine) (neg:Bool):OpR X (compareOp (if neg then .NotIn else .In)) (W6 (if neg then ul else inC)):=by
 intro pins s σ H x y v u Q I rx ry h
 obtain ⟨t,t',b,r,r',e,q⟩:=h
 have hs:∃ k,inC t t' = .ok k/\b=(if neg then !k else k):=by
  cases neg with
  | false=>exact ⟨b,e,rfl⟩
  | true=>
   have e' :ul t t' = .ok b:=e
   unfold ul at e'
   cases z:inC t t' with
   | bad=>rw [z] at e'; cases e'
   | ex k=>exact absurd z (yK _ _ _)
   | ok k=>rw [z] at e'; cases e'; exact ⟨k,rfl,rfl⟩
 obtain ⟨k,ek,rfl⟩:=hs
 unfold inC at ek
 obtain ⟨f,hf⟩:=Ua (H:=H) fun y=>eqF 30 y t
 have eqa:∀ w,(∃ v t' k,ZL v w/\Rep H v t' /\eqF 30 t' t=some k)->SeqAt.EqAt X.A.in1 s w v (f w):=fun w ⟨v',t',k,rv,rr,ee⟩=>by
  rw [hf v' t' w k rv rr ee]
  exact (YE I 30 X.A.in1 (by rw [Js]; omega) t' t k v' x w v ee rr r rv rx).1
 split at ek
 ·rename_i ys
  split at ek
  ·rename_i k' hk
   cases ek
   cases r' with
   | @tup l xs _ h1 r1=>
    obtain rfl:u=Value.ref l:=ry
    obtain ⟨its,rv,p,_⟩:=jq I h1 r1
    obtain ⟨h2,h3⟩:=YK hf rv r1 hk
    have h4:its.toArray.any f=k:=by simpa using h2
    cases neg with
    | false=>exact SeqAt.in_tupleAt f p (fun w hw=>eqa w (h3 w (by simpa using hw))) (by rw [h4]; exact ⟨.bl k,H,I,rfl,q⟩)
    | true=>exact SeqAt.notIn_tupleAt f p (fun w hw=>eqa w (h3 w (by simpa using hw))) (by rw [h4]; exact ⟨.bl (!k),H,I,rfl,q⟩)
  ·cases ek
 ·rename_i ys
  split at ek
  ·rename_i k' hk
   cases ek
   cases r' with
   | @lst l xs _ h1 r1=>
    obtain rfl:u=Value.ref l:=ry
    obtain ⟨its,rv,p,_⟩:=Z8 I (.inl h1) r1
    obtain ⟨h2,h3⟩:=YK hf rv r1 hk
    have h4:its.toArray.any f=k:=by simpa using h2
    cases neg with
    | false=>exact SeqAt.in_listAt f p (fun w hw=>eqa w (h3 w (by simpa using hw))) (by rw [h4]; exact ⟨.bl k,H,I,rfl,q⟩)
    | true=>exact SeqAt.notIn_listAt f p (fun w hw=>eqa w (h3 w (by simpa using hw))) (by rw [h4]; exact ⟨.bl (!k),H,I,rfl,q⟩)
  ·cases ek
 ·cases ek
theorem UL (hu:X.A.units+64 < cLine):OpR X (compareOp .In) (W6 inC):=YL hu false
theorem Ub (hu:X.A.units+64 < cLine):OpR X (compareOp .NotIn) (W6 ul):=YL hu true
def Qy (t t' :T):R Bool:=match t' with
 | .non=>match t with | .non=> .ok true | _=> .ok false
 | .bl k=>match t with | .bl j=> .ok (j == k) | _=> .ok false
 | _=> .bad
def xa (t t' :T):R Bool:=(Qy t t').bind fun b=> .ok (!b)
theorem ko:Nx Qy:=fun t t' c h=>by
 unfold Qy at h
 split at h
 ·split at h <;> cases h
 ·split at h <;> cases h
 ·cases h
theorem xb (neg:Bool):OpR X (compareOp (if neg then .IsNot else .Is)) (W6 (if neg then xa else Qy)):=by
 intro pins s σ H x y v u Q I rx ry h
 obtain ⟨t,t',b,r,r',e,q⟩:=h
 have hs:∃ k,Qy t t' = .ok k/\b=(if neg then !k else k):=by
  cases neg with
  | false=>exact ⟨b,e,rfl⟩
  | true=>
   have e' :xa t t' = .ok b:=e
   unfold xa at e'
   cases z:Qy t t' with
   | bad=>rw [z] at e'; cases e'
   | ex k=>exact absurd z (ko _ _ _)
   | ok k=>rw [z] at e'; cases e'; exact ⟨k,rfl,rfl⟩
 obtain ⟨k,ek,rfl⟩:=hs
 have go:plainIs v u=true/\(v == u)=k:=by
  cases r' with
  | non=>
   obtain rfl:u=Value.none:=ry
   cases r with
   | non=>obtain rfl:v=Value.none:=rx; cases ek; exact ⟨rfl,rfl⟩
   | bl j=>obtain rfl:v=Value.bool j:=rx; cases ek; exact ⟨rfl,rfl⟩
   | int j=>obtain ⟨t,rfl⟩:=rx; cases ek; exact ⟨rfl,rfl⟩
   | str j=>obtain ⟨t,rfl⟩:=rx; cases ek; exact ⟨rfl,rfl⟩
   | tup _ _=>obtain rfl:v=Value.ref _:=rx; cases ek; exact ⟨rfl,rfl⟩
   | lst _ _=>obtain rfl:v=Value.ref _:=rx; cases ek; exact ⟨rfl,rfl⟩
   | fz _ _=>obtain rfl:v=Value.ref _:=rx; cases ek; exact ⟨rfl,rfl⟩
  | bl k' =>
   obtain rfl:u=Value.bool k' :=ry
   cases r with
   | non=>obtain rfl:v=Value.none:=rx; cases ek; exact ⟨rfl,rfl⟩
   | bl j=>obtain rfl:v=Value.bool j:=rx; cases ek; exact ⟨rfl,by cases j <;> cases k' <;> rfl⟩
   | int j=>obtain ⟨t,rfl⟩:=rx; cases ek; exact ⟨rfl,rfl⟩
   | str j=>obtain ⟨t,rfl⟩:=rx; cases ek; exact ⟨rfl,rfl⟩
   | tup _ _=>obtain rfl:v=Value.ref _:=rx; cases ek; exact ⟨rfl,rfl⟩
   | lst _ _=>obtain rfl:v=Value.ref _:=rx; cases ek; exact ⟨rfl,rfl⟩
   | fz _ _=>obtain rfl:v=Value.ref _:=rx; cases ek; exact ⟨rfl,rfl⟩
  | _=>cases ek
 cases neg with
 | false=>exact wpAny_is_plain go.1 (by rw [go.2]; exact ⟨.bl k,H,I,rfl,q⟩)
 | true=>exact wpAny_isNot_plain go.1 (by rw [go.2]; exact ⟨.bl (!k),H,I,rfl,q⟩)
theorem kq:OpR X (compareOp .Is) (W6 Qy):=xb false
def chE (g g' :T->T->R Bool) (fa fb fc:En->R T):En->R T:=fun ρ=>(fa ρ).bind fun x=>(fb ρ).bind fun y=>(g x y).bind fun k=>if k=true then (fc ρ).bind fun z=>(g' y z).bind fun k' => .ok (.bl k') else .ok (.bl false)
def chT (g g' :T->T->R Bool) (fa fb fc:En->R T):En->R Bool:=fun ρ=>(fa ρ).bind fun x=>(fb ρ).bind fun y=>(g x y).bind fun k=>if k=true then (fc ρ).bind fun z=>g' y z else .ok false
theorem jO {op op' :CmpOp} {g g' :T->T->R Bool} (nx:Nx g) (nx' :Nx g') (ho:OpR X (compareOp op) (W6 g)) (ho' :OpR X (compareOp op') (W6 g')) (ha:Jb X Y a fa) (hb:Jb X Y b fb) (hc:Jb X Y c fc)
  (hm:lastMarks [op,op'] [b,c]=false:=by with_unfolding_all rfl):Snd X Y (.Compare a [op,op'] [b,c] pos) (chE g g' fa fb fc):= .mk fun ρ=>
 PE.imp (QJ ho ho' (ha ρ) (hb ρ) (hc ρ) hm) fun σ H Q ⟨B,I,q⟩=>step I q fun t v H1 _ s1 r1 I1 q1=>step I1 q1 fun t' v' H2 _ s2 r2 I2 q2=>by
  cases e:g t t' with
  | bad=>rw [e] at q2; exact q2.elim
  | ex c=>exact absurd e (nx _ _ _)
  | ok k=>
   rw [e] at q2
   refine ⟨t,t',k,r1.mono s2,r2,e,k,rfl, ?_⟩
   cases k with
   | false=>exact jc I2 q2 (.bl false)
   | true=>
    refine step I2 q2 fun t3 v3 H3 _ s3 r3 I3 q3=> ?_
    ·cases e:g' t' t3 with
     | bad=>rw [e] at q3; exact q3.elim
     | ex c=>exact absurd e (nx' _ _ _)
     | ok k=>rw [e] at q3; exact ⟨t',t3,k,r2.mono s3,r3,e,jc I3 q3 (.bl k)⟩
theorem Wr {op op' :CmpOp} {g g' :T->T->R Bool} (nx:Nx g) (nx' :Nx g') (ho:OpR X (compareOp op) (W6 g)) (ho' :OpR X (compareOp op') (W6 g')) (ha:Jb X Y a fa) (hb:Jb X Y b fb) (hc:Jb X Y c fc)
  (hm:lastMarks [op,op'] [b,c]=false:=by with_unfolding_all rfl):uh X Y (.Compare a [op,op'] [b,c] pos) (chT g g' fa fb fc):= .mk fun ρ=>
 PT.imp (QK ho ho' (ha ρ) (hb ρ) (hc ρ) hm) fun σ H Q ⟨B,I,q⟩=>step I q fun t v H1 _ s1 r1 I1 q1=>step I1 q1 fun t' v' H2 _ s2 r2 I2 q2=>by
  cases e:g t t' with
  | bad=>rw [e] at q2; exact q2.elim
  | ex c=>exact absurd e (nx _ _ _)
  | ok k=>
   rw [e] at q2
   refine ⟨t,t',k,r1.mono s2,r2,e,k,rfl, ?_⟩
   cases k with
   | false=>exact ⟨false,rfl,jc I2 q2 rfl⟩
   | true=>
    refine step I2 q2 fun t3 v3 H3 _ s3 r3 I3 q3=> ?_
    ·cases e:g' t' t3 with
     | bad=>rw [e] at q3; exact q3.elim
     | ex c=>exact absurd e (nx' _ _ _)
     | ok k=>rw [e] at q3; exact ⟨t',t3,k,r2.mono s3,r3,e,k,rfl,jc I3 q3 rfl⟩
def xf (r r' r'' :R2) (ta tb tc td:TE):TE:=fun σ H Q=>ta σ H fun x H1=>tb σ H1 fun y H2=>r x y H2 fun z H3=>∃ k,z= .bl k/\
 (if k=true then tc σ H3 fun w' H4=>r' y w' H4 fun z' H5=>∃ k',z' = .bl k' /\(if k' =true then td σ H5 fun w2 H6=>r'' w' w2 H6 Q else Q (.bl false) H5) else Q (.bl false) H3)
theorem YM {op op' op'' :CmpOp} {r r' r'' :R2} {ta tb tc td:TE} (ho:OpR X (compareOp op) r) (ho' :OpR X (compareOp op') r') (ho'' :OpR X (compareOp op'') r'') (ha:PE X a ta) (hb:PE X b tb) (hc:PE X c tc) (hd:PE X d td)
  (hm:lastMarks [op,op',op''] [b,c,d]=false:=by with_unfolding_all rfl):PE X (.Compare a [op,op',op''] [b,c,d] pos) (xf r r' r'' ta tb tc td):=by
 intro pins s σ H Q I h
 refine Compare_chain (thn (ha pins s σ H _ I h) fun v s1 ⟨x,H1,I1,r1,q1⟩=>chain_link (thn (hb pins s1 σ H1 _ I1 q1) fun u s2 ⟨y,H2,I2,r2,q2⟩=>
  thn (ho pins s2 σ H2 x y v u _ I2 r1 r2 q2) fun d' s3 ⟨z,H3,I3,r3,k,e,q3⟩=> ?_)) hm
 subst e
 cases r3
 refine wpAny_truthy_bool ?_
 cases k with
 | false=>exact ite_ff ⟨.bl false,H3,I3,rfl,q3⟩
 | true=>
  refine ite_tt (chain_link (thn (hc pins s3 σ H3 _ I3 q3) fun w' s4 ⟨z',H4,I4,r4,q4⟩=>thn (ho' pins s4 σ H4 y z' u w' _ I4 r2 r4 q4) fun d2 s5 ⟨z5,H5,I5,r5,k5,e5,q5⟩=> ?_))
  subst e5
  cases r5
  refine wpAny_truthy_bool ?_
  cases k5 with
  | false=>exact ite_ff ⟨.bl false,H5,I5,rfl,q5⟩
  | true=>exact ite_tt (chain_last (thn (hd pins s5 σ H5 _ I5 q5) fun w6 s6 ⟨z6,H6,I6,r6,q6⟩=>ho'' pins s6 σ H6 z' z6 w' w6 Q I6 r4 r6 q6))
def ch3E (g g' g'' :T->T->R Bool) (fa fb fc fd:En->R T):En->R T:=fun ρ=>(fa ρ).bind fun x=>(fb ρ).bind fun y=>(g x y).bind fun k=>if k=true then (fc ρ).bind fun z=>(g' y z).bind fun k' =>
 if k' =true then (fd ρ).bind fun w=>(g'' z w).bind fun k'' => .ok (.bl k'') else .ok (.bl false) else .ok (.bl false)
theorem QT {op op' op'' :CmpOp} {g g' g'' :T->T->R Bool} (nx:Nx g) (nx' :Nx g') (nx'' :Nx g'') (ho:OpR X (compareOp op) (W6 g)) (ho' :OpR X (compareOp op') (W6 g')) (ho'' :OpR X (compareOp op'') (W6 g''))
  (ha:Jb X Y a fa) (hb:Jb X Y b fb) (hc:Jb X Y c fc) (hd:Jb X Y d fd)
  (hm:lastMarks [op,op',op''] [b,c,d]=false:=by with_unfolding_all rfl):Snd X Y (.Compare a [op,op',op''] [b,c,d] pos) (ch3E g g' g'' fa fb fc fd):= .mk fun ρ=>
 PE.imp (YM ho ho' ho'' (ha ρ) (hb ρ) (hc ρ) (hd ρ) hm) fun σ H Q ⟨B,I,q⟩=>step I q fun t v H1 _ s1 r1 I1 q1=>step I1 q1 fun t' v' H2 _ s2 r2 I2 q2=>by
  cases e:g t t' with
  | bad=>rw [e] at q2; exact q2.elim
  | ex c=>exact absurd e (nx _ _ _)
  | ok k=>
   rw [e] at q2
   refine ⟨t,t',k,r1.mono s2,r2,e,k,rfl, ?_⟩
   cases k with
   | false=>exact jc I2 q2 (.bl false)
   | true=>
    refine step I2 q2 fun t3 v3 H3 _ s3 r3 I3 q3=> ?_
    ·cases e:g' t' t3 with
     | bad=>rw [e] at q3; exact q3.elim
     | ex c=>exact absurd e (nx' _ _ _)
     | ok k=>
      rw [e] at q3
      refine ⟨t',t3,k,r2.mono s3,r3,e,k,rfl, ?_⟩
      cases k with
      | false=>exact jc I3 q3 (.bl false)
      | true=>
       refine step I3 q3 fun t4 v4 H4 _ s4 r4 I4 q4=> ?_
       ·cases e:g'' t3 t4 with
        | bad=>rw [e] at q4; exact q4.elim
        | ex c=>exact absurd e (nx'' _ _ _)
        | ok k=>rw [e] at q4; exact ⟨t3,t4,k,r3.mono s4,r4,e,jc I4 q4 (.bl k)⟩
variable {rest:List Expr} {ga gb:En->R Bool}
def Jo (fa fb:En->R T):En->R T:=fun ρ=>(fa ρ).bind fun x=>match x with
 | .bl true=>fb ρ
 | .bl false=> .ok (.bl false)
 | _=> .bad
def orE (fa fb:En->R T):En->R T:=fun ρ=>(fa ρ).bind fun x=>match x with
 | .bl true=> .ok (.bl true)
 | .bl false=>fb ρ
 | _=> .bad
def gM (fa:En->R T):En->R T:=fun ρ=>(fa ρ).bind fun x=>match x with
 | .bl k=> .ok (.bl (!k))
 | _=> .bad
theorem jP {op} (h:Snd X Y a fa):Snd X Y (.BoolOp op [a] pos) fa:= .mk fun ρ=>XN (h ρ)
theorem jd (ha:Snd X Y a fa) (hb:Snd X Y (.BoolOp .And (b :: rest) pos) fb):Snd X Y (.BoolOp .And (a :: b :: rest) pos) (Jo fa fb):= .mk fun ρ=>
 PE.imp (XO (ha ρ) (hb ρ)) fun σ H Q ⟨B,I,q⟩=>step I q fun t v H1 _ s1 r1 I1 q1=>by
  cases r1 with
  | bl k=>
   refine ⟨k,rfl, ?_⟩
   cases k with
   | true=>exact ⟨_,I1,q1⟩
   | false=>exact jc I1 q1 (.bl false)
  | _=>exact q1.elim
theorem s_or (ha:Snd X Y a fa) (hb:Snd X Y (.BoolOp .Or (b :: rest) pos) fb):Snd X Y (.BoolOp .Or (a :: b :: rest) pos) (orE fa fb):= .mk fun ρ=>
 PE.imp (gj (ha ρ) (hb ρ)) fun σ H Q ⟨B,I,q⟩=>step I q fun t v H1 _ s1 r1 I1 q1=>by
  cases r1 with
  | bl k=>
   refine ⟨k,rfl, ?_⟩
   cases k with
   | false=>exact ⟨_,I1,q1⟩
   | true=>exact jc I1 q1 (.bl true)
  | _=>exact q1.elim
theorem kr (ha:Snd X Y a fa):Snd X Y (.UnaryOp .Not a pos) (gM fa):= .mk fun ρ=>
 PE.imp (XQ (ha ρ)) fun σ H Q ⟨B,I,q⟩=>step I q fun t v H1 _ s1 r1 I1 q1=>by
  cases r1 with
  | bl k=>exact ⟨k,rfl,jc I1 q1 (.bl (!k))⟩
  | _=>exact q1.elim
structure JH (X:Cx) (Y:Fx) (e:Expr) (f:En->R Bool):Prop where
 mk ::
 go:∀ ρ,PW X e (tS Y rE f ρ)
instance {X:Cx} {Y:Fx} {e:Expr} {f:En->R Bool}:CoeFun (JH X Y e f) fun _=>∀ ρ,PW X e (tS Y rE f ρ):=⟨JH.go⟩
theorem JH.t {e:Expr} {f:En->R Bool} (h:JH X Y e f):uh X Y e f:= .mk fun ρ=>(h ρ).pt
theorem PW.imp {e:Expr} {t t' :TT} (h:PW X e t) (i:∀ σ H Q,t' σ H Q->t σ H Q):PW X e t' :=fun wh pins s σ H Q I q=>h wh pins s σ H Q I (i σ H Q q)
def wa (fa fb:En->R Bool):En->R Bool:=fun ρ=>(fa ρ).bind fun x=>if x=true then fb ρ else .ok false
def orT (fa fb:En->R Bool):En->R Bool:=fun ρ=>(fa ρ).bind fun x=>if x=true then .ok true else fb ρ
def Jv (fa:En->R Bool):En->R Bool:=fun ρ=>(fa ρ).bind fun x=> .ok (!x)
theorem W8 (h:uh X Y a ga):JH X Y (.BoolOp .And [a] pos) ga:= .mk fun ρ=>VF (h ρ)
theorem wx (h:uh X Y a ga):JH X Y (.BoolOp .Or [a] pos) ga:= .mk fun ρ=>XJ (h ρ)
theorem yL (ha:uh X Y a ga) (hb:JH X Y (.BoolOp .And (b :: rest) pos) gb):JH X Y (.BoolOp .And (a :: b :: rest) pos) (wa ga gb):= .mk fun ρ=>
 PW.imp (XL (ha ρ) (hb ρ)) fun σ H Q ⟨B,I,q⟩=>step I q fun t v H1 _ s1 r1 I1 q1=>by
  have r1' :v=t:=r1
  subst r1'
  cases v with
  | true=>exact ⟨_,I1,q1⟩
  | false=>exact jc I1 q1 rfl
theorem WZ (ha:uh X Y a ga) (hb:JH X Y (.BoolOp .Or (b :: rest) pos) gb):JH X Y (.BoolOp .Or (a :: b :: rest) pos) (orT ga gb):= .mk fun ρ=>
 PW.imp (gf (ha ρ) (hb ρ)) fun σ H Q ⟨B,I,q⟩=>step I q fun t v H1 _ s1 r1 I1 q1=>by
  have r1' :v=t:=r1
  subst r1'
  cases v with
  | false=>exact ⟨_,I1,q1⟩
  | true=>exact jc I1 q1 rfl
theorem jJ (ha:uh X Y a ga):uh X Y (.UnaryOp .Not a pos) (Jv ga):= .mk fun ρ=>
 PT.imp (XM (ha ρ)) fun σ H Q ⟨B,I,q⟩=>step I q fun t v H1 _ s1 r1 I1 q1=>by
  have r1' :v=t:=r1
  subst r1'
  exact jc I1 q1 rfl
def tru:T->R Bool
 | .bl k=> .ok k
 | .non=> .ok false
 | .int i=> .ok (i != 0)
 | .tup xs=> .ok (!xs.isEmpty)
 | .lst xs=> .ok (!xs.isEmpty)
 | _=> .bad
def jb (fa:En->R T):En->R Bool:=fun ρ=>(fa ρ).bind tru
theorem isE {H:Hp} {xs:List V} {ts:List T} (r:zY H xs ts):(!xs.isEmpty)= !ts.isEmpty:=by cases r <;> rfl
theorem jw (ha:Jb X Y a fa) (he:∀ whole,isTrue a X.env whole=(do let v ← whole; standAt a.pos; holding [v] (truthy v)):=by intro _; rfl):uh X Y a (jb fa):= .mk fun ρ=>
 PT.imp (QL (ha ρ) he) fun σ H Q ⟨B,I,q⟩=>step I q fun t v H1 _ s1 r1 I1 q1=>by
  cases r1 with
  | bl k=>exact ⟨k,rfl,jc I1 q1 rfl⟩
  | non=>exact ⟨false,rfl,jc I1 q1 rfl⟩
  | int i=>exact ⟨_,rfl,jc I1 q1 rfl⟩
  | tup h r=>exact ⟨_, .inr (.inl ⟨_,SqT.of h,rfl⟩),jc I1 q1 (isE r)⟩
  | lst h r=>exact ⟨_, .inl ⟨_,SqL.of h,rfl⟩,jc I1 q1 (isE r)⟩
  | _=>exact q1.elim
def ifE (g:En->R Bool) (fa fb:En->R T):En->R T:=fun ρ=>(g ρ).bind fun k=>if k=true then fa ρ else fb ρ
theorem V5 (hc:uh X Y c ga) (ha:Snd X Y a fa) (hb:Snd X Y b fb):Snd X Y (.IfExp c a b pos) (ifE ga fa fb):= .mk fun ρ=>
 PE.imp (QF (hc ρ) (ha ρ) (hb ρ)) fun σ H Q ⟨B,I,q⟩=>step I q fun t v H1 _ s1 r1 I1 q1=>by
  have r1' :v=t:=r1
  subst r1'
  cases v with
  | true=>exact ⟨_,I1,q1⟩
  | false=>exact ⟨_,I1,q1⟩
end
end PV
namespace PV
open PySem PySem.Spec PyProof.Rows L2
section
variable {X:Cx} {Y:Fx} {a b c d:Expr} {fa fb fc fd:En->R T} {pos p:Pos}
def ap1 (g:T->R T) (fa:En->R T):En->R T:=fun ρ=>(fa ρ).bind g
abbrev St1 (X:Cx) (a:Expr):Prop:=starEach [a] X.env=[(false,eval a X.env)]
theorem W9 {id:String} {x:Str} {r:List V->Hp->VK->Prop} {g:T->R T} (hc:j4 X (.builtin id) r) (hr:∀ v t B H Q,Rep H v t->zK B H->Po Y rC B H (g t) Q->r [v] H Q)
  (gl:Gl X x) (mg:X.mg x=none) (bt:bootBuiltins x=some (.builtin id)) (ha:Jb X Y a fa) (hs:St1 X a:=by exact st1 rfl) (hn:x ≠ "__name__":=by decide) (hd:(x == ("__debug__":Str))=false:=by decide):Snd X Y (.Call (.Name x p) [a] [] pos) (ap1 g fa):= .mk fun ρ=>
 PE.imp (jz hc gl mg bt (zH (ha ρ) Zu hs) hn hd hs rfl) fun σ H Q ⟨B,I,q⟩=>step I q fun t v H1 _ s1 r1 I1 q1=>hr v t _ H1 Q r1 I1.sB q1
theorem V6 {id:String} {x:Str} {r:List V->Hp->VK->Prop} {g:T->R T} (hc:j4 X (.type id) r) (hr:∀ v t B H Q,Rep B v t->zK B H->Po Y rC B H (g t) Q->r [v] H Q)
  (gl:Gl X x) (mg:X.mg x=none) (bt:bootBuiltins x=some (.type id)) (ha:Snd X Y a fa) (hs:St1 X a:=by exact st1 rfl) (hn:x ≠ "__name__":=by decide) (hd:(x == ("__debug__":Str))=false:=by decide):Snd X Y (.Call (.Name x p) [a] [] pos) (ap1 g fa):= .mk fun ρ=>
 PE.imp (Jq hc gl mg bt (zH (ha ρ) Zu hs) hn hd hs rfl) fun σ H Q ⟨B,I,q⟩=>step I q fun t v H1 _ s1 r1 I1 q1=>hr v t _ H1 Q r1 I1.sB q1
def Z0:T->R T
 | .tup xs=> .ok (.int xs.length)
 | .lst xs=> .ok (.int xs.length)
 | .fz xs=> .ok (.int xs.length)
 | .str x=>if x.length<=bnd then .ok (.int x.length) else .bad
 | _=> .bad
theorem gN (v:V) (t:T) (B H:Hp) (Q:VK) (r:Rep H v t) (sB:zK B H) (q:Po Y rC B H (Z0 t) Q):
  (∃ p ys,[v]=[V.ref p]/\(SqL X.K H p ys\/SqT X.K H p ys)/\Q (V.int ys.length) H)\/(∃ z,[v]=[V.str z]/\z.length<=sizeLine/\Q (V.int z.length) H):=by
 cases r with
 | tup h r=>exact .inl ⟨_,_,rfl, .inr (SqT.of h),po0 sB q rfl (by rw [r.length]; exact .int _)⟩
 | lst h r=>exact .inl ⟨_,_,rfl, .inl (SqL.of h),po0 sB q rfl (by rw [r.length]; exact .int _)⟩
 | fz h r=>exact .inl ⟨_,_,rfl, .inl (.inl (.inr ⟨_,h⟩)),po0 sB q rfl (by rw [r.length]; exact .int _)⟩
 | str x=>
  by_cases hb:x.length<=bnd
  ·exact .inr ⟨x,rfl,jv hb,po0 sB q (if_pos hb) (.int _)⟩
  ·rw [show Z0 (.str x)= .bad from if_neg hb] at q; exact q.elim
 | _=>exact q.elim
theorem Z9 (gl:Gl X "len") (mg:X.mg "len"=none) (ha:Jb X Y a fa) (hs:St1 X a:=by exact st1 rfl):Snd X Y (.Call (.Name "len" p) [a] [] pos) (ap1 Z0 fa):=
 W9 (uc.or ud) gN gl mg PySem.boot_len ha hs
def Kz:T->R T
 | .tup xs=> .ok (.tup xs)
 | .lst xs=> .ok (.tup xs)
 | _=> .bad
theorem gO (v:V) (t:T) (B H:Hp) (Q:VK) (r:Rep B v t) (sB:zK B H) (q:Po Y rC B H (Kz t) Q):
  ∃ p ys,[v]=[V.ref p]/\((SqL X.K H p ys/\∀ l,H l=none->Q (.ref l) (upd H l (.tup ys)))\/(SqT X.K H p ys/\Q (.ref p) H)):=by
 cases r with
 | tup h r=>exact ⟨_,_,rfl, .inr ⟨SqT.of (sB _ _ h),po0 sB q rfl (.tup h r)⟩⟩
 | lst h r=>exact ⟨_,_,rfl, .inl ⟨SqL.of (sB _ _ h),fun l hl=>Ky sB q rfl r hl⟩⟩
 | _=>exact q.elim
theorem YN (gl:Gl X "tuple") (mg:X.mg "tuple"=none) (ha:Snd X Y a fa) (hs:St1 X a:=by exact st1 rfl):Snd X Y (.Call (.Name "tuple" p) [a] [] pos) (ap1 Kz fa):=
 V6 Wo gO gl mg (PyProof.Rows.Boot.«tuple») ha hs
def tyN:T->String
 | .non=>"NoneType"
 | .bl _=>"bool"
 | .int _=>"int"
 | .str _=>"str"
 | .tup _=>"tuple"
 | .lst _=>"list"
 | .fz _=>"list"
def isT (n:String) (t:T):Bool:=tyN t == n || (n == "int" && tyN t == "bool")
theorem gP {H:Hp} {v:V} {t:T} (K:PySem.W.Frag) (r:Rep H v t):yB K H v (.type (tyN t)):=by
 cases r with
 | non=>exact .non
 | bl b=>exact .bl b
 | int b=>exact .int b
 | str b=>exact .str b
 | tup h _=>exact .tup h
 | lst h _=>exact .lst h
 | fz h _=>exact .frz h
theorem QU:j4 X (.builtin "isinstance") (fun xs H Q=>∃ v n t,xs=[v, .ty n]/\Rep H v t/\PySem.W.kitOne X.K (.type (tyN t)) (.type n)=some (isT n t)/\Q (.bl (isT n t)) H):=by
 intro pins s σ H xs us Q I rv h
 obtain ⟨v,n,t,rfl,r,hk,q⟩:=h
 obtain ⟨u,w,rfl,ru,rw'⟩:=yA rv
 obtain rfl:w=Value.type n:=rw'
 exact Yr I ru (gP X.K r) hk fun tk=>⟨.bl _,H,I.tok tk,rfl,q⟩
def Jc (n:String) (t:T):R T:= .ok (.bl (isT n t))
theorem Uc (K:PySem.W.Frag) (t:T):PySem.W.kitOne K (.type (tyN t)) (.type "int")=some (isT "int" t):=by cases t <;> rfl
theorem UM (K:PySem.W.Frag) (t:T):PySem.W.kitOne K (.type (tyN t)) (.type "bool")=some (isT "bool" t):=by cases t <;> rfl
theorem Ud (K:PySem.W.Frag) (t:T):PySem.W.kitOne K (.type (tyN t)) (.type "str")=some (isT "str" t):=by cases t <;> rfl
theorem ZX (K:PySem.W.Frag) (t:T):PySem.W.kitOne K (.type (tyN t)) (.type "tuple")=some (isT "tuple" t):=by cases t <;> rfl
theorem Jd {n:String} {p' :Pos} (hk:∀ t,PySem.W.kitOne X.K (.type (tyN t)) (.type n)=some (isT n t)) (gl:Gl X "isinstance") (mg:X.mg "isinstance"=none) (gl' :Gl X (Str.ofString n)) (mg' :X.mg (Str.ofString n)=none) (bt:bootBuiltins (Str.ofString n)=some (.type n)) (ha:Jb X Y a fa)
  (hs:starEach [a, .Name (Str.ofString n) p'] X.env=[(false,eval a X.env),(false,eval (.Name (Str.ofString n) p') X.env)]:=by exact st2 rfl rfl) (hs2:starEach [.Name (Str.ofString n) p'] X.env=[(false,eval (.Name (Str.ofString n) p') X.env)]:=by exact st1 rfl)
  (hn:Str.ofString n ≠ "__name__":=by decide) (hd:(Str.ofString n == ("__debug__":Str))=false:=by decide) (hz:((backTo pos (starEach [.Name (Str.ofString n) p'] X.env)).any fun x=>x.fst)=false:=by exact j8 rfl):
  Snd X Y (.Call (.Name "isinstance" p) [a, .Name (Str.ofString n) p'] [] pos) (ap1 (Jc n) fa):= .mk fun ρ=>
 PE.imp (jz QU gl mg PyProof.Rows.Boot.«isinstance» (zH (ha ρ) (zH (Ye (v:= .ty n) gl' mg' bt rfl hn hd) Zu hs2) (by rw [hs,hs2])) (by decide) (by decide) (by rw [hs,hs2]) hz) fun σ H Q ⟨B,I,q⟩=>
  step I q fun t v H1 _ s1 r1 I1 q1=>⟨v,n,t,rfl,r1,hk t,po0 I1.sB q1 rfl (.bl _)⟩
def atT (xs:List T) (i:Int):R T:=match atI xs i with
 | some t=> .ok t
 | none=> .bad
def ixT:T->T->R T
 | .tup xs, .int i=>atT xs i
 | .lst xs, .int i=>atT xs i
 | .fz xs, .int i=>atT xs i
 | .str z, .int i=>if z.length<=bnd then match atI z.cps.toList i with | some c=> .ok (.str ⟨#[c]⟩) | none=> .bad else .bad
 | _,_=> .bad
theorem YO {H:Hp} {xs:List V} {ts:List T} {i:Int} {t:T} (r:zY H xs ts) (h:atI ts i=some t):∃ v,atI xs i=some v/\Rep H v t:=by
 unfold atI at h ⊢
 rw [r.length]
 cases e:ixN ts.length i with
 | none=>rw [e] at h; cases h
 | some j=>
  rw [e] at h
  obtain ⟨v,h1,h2⟩:=r.get (show ts[j]? =some t from h)
  exact ⟨v,h1,h2⟩
theorem zM (ha:Snd X Y a fa) (hb:Snd X Y b fb) (hs:Yv b:=by exact fun _ _=>rfl):Snd X Y (.Subscript a b pos) (ze ixT fa fb):= .mk fun ρ=>
 PE.imp (gJ kg (ha ρ) (hb ρ) hs) fun σ H Q ⟨B,I,q⟩=>step I q fun t v H1 _ s1 r1 I1 q1=>step I1 q1 fun t' v' H2 _ s2 r2 I2 q2=>by
  have r1:=r1.mono (Z5.ge I1.sB s2)
  cases r2 with
  | int i=>
   cases r1 with
   | @tup _ xs ts h r=>
    have q2:Po Y rC _ H2 (atT ts i) Q:=q2
    unfold atT at q2
    split at q2
    ·rename_i t' e
     obtain ⟨w,e1,e2⟩:=YO r e
     exact .inr (.inl ⟨_,xs,i,w,rfl,rfl,SqT.of (I2.sB _ _ h),e1,po0 I2.sB q2 rfl e2⟩)
    ·exact q2.elim
   | @lst _ xs ts h r=>
    have q2:Po Y rC _ H2 (atT ts i) Q:=q2
    unfold atT at q2
    split at q2
    ·rename_i t' e
     obtain ⟨w,e1,e2⟩:=YO r e
     exact .inl ⟨_,xs,i,w,rfl,rfl,SqL.of (I2.sB _ _ h),e1,po0 I2.sB q2 rfl e2⟩
    ·exact q2.elim
   | @fz _ _ xs ts h r=>
    have q2:Po Y rC _ H2 (atT ts i) Q:=q2
    unfold atT at q2
    split at q2
    ·rename_i t' e
     obtain ⟨w,e1,e2⟩:=YO r e
     exact .inl ⟨_,xs,i,w,rfl,rfl, .inl (.inr ⟨_,I2.sB _ _ h⟩),e1,po0 I2.sB q2 rfl e2⟩
    ·exact q2.elim
   | str z=>
    have q2:Po Y rC _ H2 (if z.length<=bnd then match atI z.cps.toList i with | some c=> .ok (.str ⟨#[c]⟩) | none=> .bad else .bad) Q:=q2
    split at q2
    ·rename_i hb
     split at q2
     ·rename_i c e
      exact .inr (.inr ⟨z,i,c,rfl,rfl,jv hb,e,po0 I2.sB q2 rfl (.str _)⟩)
     ·exact q2.elim
    ·exact q2.elim
   | _=>exact q2.elim
  | _=>cases r1 <;> exact q2.elim
structure Xx (X:Cx) (Y:Fx) (e:Option Expr) (f:En->R (Option Int)):Prop where
 mk ::
 go:∀ ρ,PO X e (tS Y rE f ρ)
instance {X:Cx} {Y:Fx} {e:Option Expr} {f:En->R (Option Int)}:CoeFun (Xx X Y e f) fun _=>∀ ρ,PO X e (tS Y rE f ρ):=⟨Xx.go⟩
def noO:En->R (Option Int):=fun _=> .ok none
def zU (fa:En->R T):En->R (Option Int):=fun ρ=>(fa ρ).bind fun t=>match t with
 | .int i=> .ok (some i)
 | _=> .bad
theorem PO.imp {e:Option Expr} {t t' :TO} (h:PO X e t) (i:∀ σ H Q,t' σ H Q->t σ H Q):PO X e t' :=fun pins s σ H Q I q=>h pins s σ H Q I (i σ H Q q)
theorem ZY:Xx X Y none noO:= .mk fun ρ=>PO.imp VM fun σ H Q ⟨B,I,q⟩=>jc I q rfl
theorem ZN (ha:Snd X Y a fa):Xx X Y (some a) (zU fa):= .mk fun ρ=>PO.imp (VN (ha ρ)) fun σ H Q ⟨B,I,q⟩=>step I q fun t v H1 _ s1 r1 I1 q1=>by
 cases r1 with
 | int i=>exact ⟨i,rfl,jc I1 q1 rfl⟩
 | _=>exact q1.elim
def cut (xs:List T) (lo hi:Option Int):List T:=(xs.drop (HT.sIx xs.length 0 lo)).take (HT.sIx xs.length xs.length hi - HT.sIx xs.length 0 lo)
def slT (t:T) (lo hi:Option Int):R T:=match t with
 | .tup xs=> .ok (.tup (cut xs lo hi))
 | .lst xs=> .ok (.lst (cut xs lo hi))
 | _=> .bad
def slE (fa:En->R T) (fl fh:En->R (Option Int)):En->R T:=fun ρ=>(fa ρ).bind fun t=>(fl ρ).bind fun lo=>(fh ρ).bind fun hi=>slT t lo hi
theorem YQ {H:Hp} {xs:List V} {ts:List T} {lo hi:Option Int} (r:zY H xs ts):zY H (V4 xs lo hi) (cut ts lo hi):=by
 unfold V4 cut
 rw [r.length]
 exact (r.drop _).take _
theorem JI {prog:Program} {w:World} {A:Around} {E:Value->Shared->Prop} {s:Shared} {t sl:Addr} {items:Array Value} {vl vu:Value} {lo hi:Option Int} {Q:Value->Shared->Prop} (ht:IsTup s.heap t items) (hs:s.heap.IsSliceOf sl vl vu .none) (pl:IsPart vl lo) (pu:IsPart vu hi)
  (hw:HT.sIx items.size 0 lo=0/\HT.sIx items.size items.size hi=items.size) (h:Q (.ref t) s):wpAny (model prog w) A (getItem (.ref t) (.ref sl)) Q E s:=by
 obtain ⟨os,hos,hcs,hds⟩:=id hs
 have hTs:s.TypeIs (.ref sl) "slice":=⟨os,hos,hcs⟩
 unfold getItem
 try with_reducible refine wpAny_holding ?_
 first | refine wpAny_bind (wpAny_pure ?_) | skip
 refine wpAny_bind (wpAny_sequenceKey ht.typeIs (by decide) ?_)
 refine wpAny_bind (wpAny_callSpecial?_slot (name:=Str.ofString "__getitem__") ht.typeIs PyProof.Rows.slot_tuple_getitem
  (wpAny_call_entry PyProof.Rows.slot_tuple_getitem ht.typeIs entry_tuple_getitem ?_ (args_tuple_getitem _ _)))
 show wpAny _ _ (Builtin.Tuple.tupleItemsOf (.ref t) >>= _) _ _ s
 refine wpAny_bind (tupleItemsOf_ ht ?_)
 refine wpAny_bind (wpAny_typeOf hTs ?_)
 rw [if_pos (by decide)]
 refine wpAny_bind (HT.sliceApplied_gen hs pl pu ?_)
 have hyes:(((HT.sIx items.size 0 lo:Nat):Int) == 0 && (1:Int) == 1 && (HT.sIx items.size items.size hi - HT.sIx items.size 0 lo) == items.size)=true:=by
  rw [hw.1,hw.2]; simp
 show wpAny _ _ (if (((HT.sIx items.size 0 lo:Nat):Int) == 0 && (1:Int) == 1 && (HT.sIx items.size items.size hi - HT.sIx items.size 0 lo) == items.size)=true then _ else _) _ _ s
 rw [if_pos hyes]
 unfold Builtin.Tuple.tupleIsExact
 refine wpAny_bind (wpAny_bind (wpAny_typeOf ht.typeIs (wpAny_pure ?_)))
 rw [if_pos (by decide)]
 exact wpAny_bind (wpAny_rule (wpAny_pure ⟨_,rfl,wpAny_pure h⟩))
theorem yM:SlR X (fun x lo hi H Q=>∃ a xs,x= .ref a/\SqT X.K H a xs/\(HT.sIx xs.length 0 lo=0/\HT.sIx xs.length xs.length hi=xs.length)/\Q (.ref a) H):=by
 intro pins s σ H x v vl vu lo hi sl Q I rx hs pl pu h
 obtain ⟨a,xs,rfl,hx,hw,q⟩:=h
 obtain rfl:v=Value.ref a:=rx
 obtain ⟨its,r,ht,hz⟩:=I.tuple hx
 have hlen:its.toArray.size=xs.length:=by rw [List.size_toArray]; exact r.length.symm
 refine ⟨"tuple",_,PyProof.Rows.slot_tuple_getitem.lookup,ht.typeIs, ?_⟩
 exact JI ht hs pl pu (by rw [hlen]; exact hw) ⟨.ref a,H,I,rfl,q⟩
theorem xg {xs:List T} {lo hi:Option Int} (h1:HT.sIx xs.length 0 lo=0) (h2:HT.sIx xs.length xs.length hi=xs.length):cut xs lo hi=xs:=by
 unfold cut
 rw [h1,h2]; simp
theorem Zr {lo hi:Option Expr} {fl fh:En->R (Option Int)} {p2:Pos} (ha:Snd X Y a fa) (hl:Xx X Y lo fl) (hh:Xx X Y hi fh):Snd X Y (.Subscript a (.Slice lo hi none p2) pos) (slE fa fl fh):= .mk fun ρ=>
 PE.imp (QO (kd.or (yM.or VR)) (ha ρ) (hl ρ) (hh ρ)) fun σ H Q ⟨B,I,q⟩=>step I q fun t v H1 _ s1 r1 I1 q1=>step I1 q1 fun l l' H2 _ s2 el I2 q2=>step I2 q2 fun h h' H3 _ s3 eh I3 q3=>by
  have el' :l' =l:=el
  have eh' :h' =h:=eh
  subst el' eh'
  have r1:=r1.mono ((Z5.ge I1.sB s2).trans (Z5.ge I2.sB s3))
  cases r1 with
  | @tup _ xs ts hx r=>
   have q3:Po Y rC _ H3 (.ok (.tup (cut ts l' h'))) Q:=q3
   by_cases hw:HT.sIx xs.length 0 l' =0/\HT.sIx xs.length xs.length h' =xs.length
   ·refine .inr (.inl ⟨_,xs,rfl,SqT.of (I3.sB _ _ hx),hw,po0 I3.sB q3 rfl ?_⟩)
    rw [r.length] at hw
    rw [xg hw.1 hw.2]
    exact .tup hx r
   ·exact .inl ⟨_,xs,rfl,SqT.of (I3.sB _ _ hx),hw,fun p hp=>Ky I3.sB q3 rfl (YQ r) hp⟩
  | @lst _ xs ts hx r=>
   have q3:Po Y rC _ H3 (.ok (.lst (cut ts l' h'))) Q:=q3
   exact .inr (.inr ⟨_,xs,rfl,SqL.of (I3.sB _ _ hx),fun p hp=>gK I3.sB q3 rfl (YQ r) hp⟩)
  | _=>exact q3.elim
def yN (t t' :T):R T:=match t,t' with
 | .int i, .int j=> .ok (.int (if j < i then j else i))
 | _,_=> .bad
theorem YR (hc:X.calm=true) (gl:Gl X "min") (mg:X.mg "min"=none) (ha:Snd X Y a fa) (hb:Snd X Y b fb)
  (hs:starEach [a,b] X.env=[(false,eval a X.env),(false,eval b X.env)]:=by exact st2 rfl rfl) (hs2:starEach [b] X.env=[(false,eval b X.env)]:=by exact st1 rfl):
  Snd X Y (.Call (.Name "min" p) [a,b] [] pos) (ze yN fa fb):= .mk fun ρ=>
 PE.imp (jz (Yo hc) gl mg PyProof.Rows.Boot.«min» (zH (ha ρ) (zH (hb ρ) Zu hs2) (by rw [hs,hs2])) (by decide) (by decide) (by rw [hs,hs2]) (by rw [hs2]; rfl)) fun σ H Q ⟨B,I,q⟩=>
  step I q fun t v H1 _ s1 r1 I1 q1=>step I1 q1 fun t' v' H2 _ s2 r2 I2 q2=>by
   cases r1 with
   | int i=>
    cases r2 with
    | int j=>exact ⟨i,j,rfl,po0 I2.sB q2 rfl (.int _)⟩
    | _=>exact q2.elim
   | _=>cases r2 <;> exact q2.elim
def U0:List T->Option Bool
 | []=>some true
 | .bl k :: r=>match U0 r with | some j=>some (k && j) | none=>none
 | _ :: _=>none
def V7:T->R T
 | .lst ts=>match U0 ts with | some k=> .ok (.bl k) | none=> .bad
 | _=> .bad
theorem YS:∀ {H:Hp} {xs:List V} {ts:List T} {its:List Value} {k:Bool},zY H xs ts->ZE xs its->U0 ts=some k->∃ tr:Nat->Bool,(∀ i v,its[i]? =some v->v=Value.bool (tr i))/\(List.range its.length).all tr=k
 | _,_,_,_,k, .nil, .nil,h=>by
  have h' :some true=some k:=h
  cases h'
  exact ⟨fun _=>true,fun i v e=>by simp at e,rfl⟩
 | H,_,_,_,k, .cons (v:=x) (t:=t) r rs, .cons (b:=u) rv vs,h=>by
  cases r with
  | bl b=>
   unfold U0 at h
   split at h
   ·rename_i j e
    cases h
    obtain ⟨tr,h1,h2⟩:=YS rs vs e
    obtain rfl:u=Value.bool b:=rv
    refine ⟨fun i=>match i with | 0=>b | i+1=>tr i,fun i v e=> ?_, ?_⟩
    ·cases i with
     | zero=>simp at e; exact e.symm
     | succ i=>exact h1 i v (by simpa using e)
    ·rw [List.length_cons,List.range_succ_eq_map,List.all_cons,List.all_map,← h2]
     rfl
   ·cases h
  | _=>cases h
theorem YT (hh:X.A.handled=none):j4 X (.builtin "all") (fun vs H Q=>∃ l xs ts k,vs=[.ref l]/\H l=some (.lst xs)/\zY H xs ts/\U0 ts=some k/\Q (.bl k) H):=by
 intro pins s σ H vs us Q I rv h
 obtain ⟨l,xs,ts,k,rfl,hl,r,hk,q⟩:=h
 obtain ⟨u,rfl,ru⟩:=jI rv
 obtain rfl:u=Value.ref l:=ru
 obtain ⟨its,rv,p,_⟩:=Z8 I (.inl hl) r
 obtain ⟨tr,h1,h2⟩:=YS r rv hk
 refine call_all_walk (wpAny_pyIter_list p ?_)
 have hlt:l < s.heap.objs.size:=I.hok.lt hl
 have old:∀ b o,s.heap.get? b=some o->(s.heap.push { cls:= .type "list_iterator",data:= .fields #[.ref l, .int 0 0] }).get? b=some o:=fun b o e=>Heap.get?_push_of_some _ e
 refine ⟨s.heap.objs.size,_,_,_,_,_,tr,rfl,Walks.list (A:=X.A.in1) hh s.heap.objs.size l (Nat.ne_of_lt hlt) its.toArray, ?_, ?_,fun h' tk hk' => ?_⟩
 ·refine ⟨?_,p.at fun o e=>old _ o e⟩
  exact ⟨_,Heap.get?_push_size _ rfl,rfl,rfl⟩
 ·intro i v s' Q' E' hi hq
  rw [h1 i v (by simpa using hi)]
  exact wpAny_truthy_bool hq
 ·rw [List.size_toArray,h2]
  refine ⟨.bl k,H,I.kept (t' :=tk) (fun b o e=>hk' b o ?_ (old b o e)),rfl,q⟩
  simp
  exact Nat.ne_of_lt (Heap.lt_size e)
theorem QV (hh:X.A.handled=none) (gl:Gl X "all") (mg:X.mg "all"=none) (ha:Jb X Y a fa) (hs:St1 X a:=by exact st1 rfl):Snd X Y (.Call (.Name "all" p) [a] [] pos) (ap1 V7 fa):=
 W9 (YT hh) (fun v t B H Q r sB q=>by
  cases r with
  | @lst l xs ts h r=>
   have q:Po Y rC B H (match U0 ts with | some k=> .ok (.bl k) | none=> .bad) Q:=q
   split at q
   ·rename_i k e
    exact ⟨l,xs,ts,k,rfl,h,r,e,po0 sB q rfl (.bl k)⟩
   ·exact q.elim
  | _=>exact q.elim) gl mg PyProof.Rows.Boot.«all» ha hs
end
inductive RS where
 | nx (ρ:En) | rt (t:T) | bk (ρ:En) | ct (ρ:En) | ex (c:Nat) | bad | rf (ts:List T)
def R.s {α:Type} (r:R α) (k:α->RS):RS:=match r with
 | .ok a=>k a
 | .ex c=> .ex c
 | .bad=> .bad
def PoS (Y:Fx) (B:Hp) (r:RS) (D:QE):Prop:=match r with
 | .nx ρ' =>∀ σ' H' B',zK B B' ->SI Y B' ρ' σ' H' ->D.nx σ' H'
 | .rt t=>∀ v H',zK Y.H0 H' ->Rep (Z5 Y.B0 Y.H0 H') v t->D.rt v H'
 | .bk ρ' =>∀ σ' H' B',zK B B' ->SI Y B' ρ' σ' H' ->D.bk σ' H'
 | .ct ρ' =>∀ σ' H' B',zK B B' ->SI Y B' ρ' σ' H' ->D.ct σ' H'
 | .ex c=>XP Y B c
 | .bad=>False
 | .rf ts=>∀ a xs H' B',zK Y.H0 H' ->Y.H0 a=none->H' a=some (.lst xs)->zY B' xs ts->B' a=none->zK B' (Z5 Y.B0 Y.H0 H')->D.rt (.ref a) H'
theorem PoS.up {Y:Fx} {B B' :Hp} {r:RS} {D:QE} (s:zK B B') (h:PoS Y B r D):PoS Y B' r D:=by
 cases r with
 | nx ρ=>exact fun σ' H' B2 s2 I=>h σ' H' B2 (s.trans s2) I
 | bk ρ=>exact fun σ' H' B2 s2 I=>h σ' H' B2 (s.trans s2) I
 | ct ρ=>exact fun σ' H' B2 s2 I=>h σ' H' B2 (s.trans s2) I
 | rt t=>exact h
 | rf t=>exact h
 | ex c=>exact fun d H' s0 sB=>h d H' s0 (s.trans sB)
 | bad=>exact h
def tSS (Y:Fx) (f:En->RS) (ρ:En):TS:=fun D σ H=>∃ B,SI Y B ρ σ H/\PoS Y B (f ρ) D
structure Ws (X:Cx) (Y:Fx) (e:Stmt) (f:En->RS):Prop where
 mk ::
 go:∀ ρ,PS X e (tSS Y f ρ)
instance {X:Cx} {Y:Fx} {e:Stmt} {f:En->RS}:CoeFun (Ws X Y e f) fun _=>∀ ρ,PS X e (tSS Y f ρ):=⟨Ws.go⟩
structure UN (X:Cx) (Y:Fx) (e:List Stmt) (f:En->RS):Prop where
 mk ::
 go:∀ ρ,PSs X e (tSS Y f ρ)
instance {X:Cx} {Y:Fx} {e:List Stmt} {f:En->RS}:CoeFun (UN X Y e f) fun _=>∀ ρ,PSs X e (tSS Y f ρ):=⟨UN.go⟩
theorem wy {α β:Type} {Y:Fx} {rel:Hp->Hp->β->α->Prop} {f:En->R α} {k:α->RS} {ρ:En} {B:Hp} {σ:Sg} {H:Hp} {D:QE} {K:β->Hp->Prop}
  (I:SI Y B ρ σ H) (h:PoS Y B ((f ρ).s k) D)
  (n:∀ a b H1,f ρ= .ok a->zK H H1->rel (Z5 B H H1) H1 b a->SI Y (Z5 B H H1) ρ σ H1->PoS Y (Z5 B H H1) (k a) D->K b H1):tS Y rel f ρ σ H K:=by
 refine ⟨B,I, ?_⟩
 cases e:f ρ with
 | bad=>rw [e] at h; exact h
 | ex c=>rw [e] at h; exact h
 | ok a=>
  rw [e] at h
  exact fun b H1 s r=>n a b H1 e s r (I.grow s) (PoS.up (Z5.ge I.sB s) h)
theorem zT {α:Type} {xs:List α} {i j:Nat} {x y:α} (h:(xs.set i x)[j]? =some y):(j=i/\y=x)\/(j ≠ i/\xs[j]? =some y):=by
 by_cases e:j=i
 ·subst e
  by_cases hl:j < xs.length
  ·rw [List.getElem?_set_self hl] at h; exact .inl ⟨rfl,(Option.some.inj h).symm⟩
  ·rw [List.getElem?_eq_none (by rw [List.length_set]; omega)] at h; cases h
 ·rw [List.getElem?_set_ne (Ne.symm e)] at h; exact .inr ⟨e,h⟩
theorem um {α:Type} {xs:List α} {i:Nat} {x y:α} (h:(xs.set i x)[i]? =some y):i < xs.length:=by
 by_cases hl:i < xs.length
 ·exact hl
 ·rw [List.getElem?_eq_none (by rw [List.length_set]; omega)] at h; cases h
theorem SI.setV {Y:Fx} {B:Hp} {ρ:En} {σ:Sg} {H:Hp} (I:SI Y B ρ σ H) (i:Nat) {v:V} {t:T} (r:Rep B v t):SI Y B (ρ.set i (.vl t)) (σ.set i (some v)) H where
 s0:=I.s0
 sH:=I.sH
 sB:=I.sB
 old:=I.old
 len:=by rw [List.length_set,List.length_set]; exact I.len
 vl:=fun j u h=>by
  rcases zT h with ⟨rfl,e⟩ | ⟨hj,h'⟩
  ·cases e
   exact ⟨v,List.getElem?_set_self (by rw [← I.len]; exact um h),r⟩
  ·obtain ⟨w,e,rr⟩:=I.vl j u h'
   exact ⟨w,by rw [List.getElem?_set_ne (Ne.symm hj)]; exact e,rr⟩
 ow:=fun j us h=>by
  rcases zT h with ⟨rfl,e⟩ | ⟨hj,h'⟩
  ·cases e
  ·obtain ⟨a,xs,e,b0,h0,hh,rr,d⟩:=I.ow j us h'
   refine ⟨a,xs,by rw [List.getElem?_set_ne (Ne.symm hj)]; exact e,b0,h0,hh,rr,fun k ws hk hw=> ?_⟩
   rcases zT hw with ⟨rfl,e'⟩ | ⟨hk',hw'⟩
   ·cases e'
   ·rw [List.getElem?_set_ne (Ne.symm hk')]; exact d k ws hk hw'
 xc:=fun j c h=>by
  rcases zT h with ⟨rfl,e⟩ | ⟨hj,h'⟩
  ·cases e
  ·obtain ⟨a,e,r⟩:=I.xc j c h'
   exact ⟨a,by rw [List.getElem?_set_ne (Ne.symm hj)]; exact e,r⟩
theorem SI.newO {Y:Fx} {B:Hp} {ρ:En} {σ:Sg} {H:Hp} (I:SI Y B ρ σ H) (i:Nat) {p:Addr} {xs:List V} {ts:List T} (hp:H p=none) (r:zY B xs ts):SI Y B (ρ.set i (.ow ts)) (σ.set i (some (.ref p))) (upd H p (.lst xs)) where
 s0:=I.s0
 sH:=I.sH.trans (zK.new hp _)
 sB:=I.sB.trans (zK.new hp _)
 old:=I.old
 len:=by rw [List.length_set,List.length_set]; exact I.len
 vl:=fun j u h=>by
  rcases zT h with ⟨rfl,e⟩ | ⟨hj,h'⟩
  ·cases e
  ·obtain ⟨w,e,rr⟩:=I.vl j u h'
   exact ⟨w,by rw [List.getElem?_set_ne (Ne.symm hj)]; exact e,rr⟩
 ow:=fun j us h=>by
  have op:∀ k ws a,ρ[k]? =some (Sl.ow ws)->σ[k]? =some (some (V.ref a))->a ≠ p:=fun k ws a h1 h2=>by
   obtain ⟨a',xs',e,_,_,hh,_⟩:=I.ow k ws h1
   rw [e] at h2; cases h2
   exact Z4 hh hp
  rcases zT h with ⟨rfl,e⟩ | ⟨hj,h'⟩
  ·cases e
   refine ⟨p,xs,List.getElem?_set_self (by rw [← I.len]; exact um h),I.sB.free hp,I.sH.free hp,Zb,r,fun k ws hk hw=> ?_⟩
   rcases zT hw with ⟨rfl,e'⟩ | ⟨hk',hw'⟩
   ·exact absurd rfl hk
   ·rw [List.getElem?_set_ne (Ne.symm hk')]
    exact fun z=>op k ws p hw' z rfl
  ·obtain ⟨a,xs',e,b0,h0,hh,rr,d⟩:=I.ow j us h'
   refine ⟨a,xs',by rw [List.getElem?_set_ne (Ne.symm hj)]; exact e,b0,h0,by rw [zD (op j us a h' e)]; exact hh,rr,fun k ws hk hw=> ?_⟩
   rcases zT hw with ⟨rfl,e'⟩ | ⟨hk',hw'⟩
   ·rw [List.getElem?_set_self (by rw [← I.len]; exact um hw)]
    intro z
    exact op j us a h' e (by injection z with z; injection z with z; injection z with z; exact z.symm)
   ·rw [List.getElem?_set_ne (Ne.symm hk')]; exact d k ws hk hw'
 xc:=fun j c h=>by
  rcases zT h with ⟨rfl,e⟩ | ⟨hj,h'⟩
  ·cases e
  ·obtain ⟨a,e,r⟩:=I.xc j c h'
   exact ⟨a,by rw [List.getElem?_set_ne (Ne.symm hj)]; exact e,r⟩
theorem SI.chg {Y:Fx} {B:Hp} {ρ:En} {σ:Sg} {H:Hp} (I:SI Y B ρ σ H) (i:Nat) {p:Addr} {ts us:List T} {ys:List V} (hi:ρ[i]? =some (.ow ts)) (he:σ[i]? =some (some (.ref p))) (r:zY B ys us):SI Y B (ρ.set i (.ow us)) σ (upd H p (.lst ys)):=by
 obtain ⟨p',xs,e,b0,h0,hh,rr,d⟩:=I.ow i ts hi
 rw [he] at e
 cases e
 have nb:∀ b o,B b=some o->b ≠ p:=fun b o h z=>by subst z; rw [b0] at h; cases h
 have n0:∀ b o,Y.H0 b=some o->b ≠ p:=fun b o h z=>by subst z; rw [h0] at h; cases h
 refine ⟨I.s0,fun b o h=>by rw [zD (n0 b o h)]; exact I.sH b o h,fun b o h=>by rw [zD (nb b o h)]; exact I.sB b o h,I.old,by rw [List.length_set]; exact I.len,fun j u h=> ?_,fun j ws h=> ?_,fun j c h=> ?_⟩
 rotate_right
 ·rcases zT h with ⟨rfl,z⟩ | ⟨hj,h'⟩
  ·cases z
  ·exact I.xc j c h'
 ·rcases zT h with ⟨rfl,z⟩ | ⟨hj,h'⟩
  ·cases z
  ·exact I.vl j u h'
 ·rcases zT h with ⟨rfl,z⟩ | ⟨hj,h'⟩
  ·cases z
   refine ⟨p,ys,he,b0,h0,Zb,r,fun k vs hk hw=> ?_⟩
   rcases zT hw with ⟨rfl,e'⟩ | ⟨hk',hw'⟩
   ·exact absurd rfl hk
   ·exact d k vs hk hw'
  ·obtain ⟨a,xs',e,c0,g0,gg,ss,d'⟩:=I.ow j ws h'
   have hne:a ≠ p:=fun z=>by subst z; exact d j ws hj h' e
   refine ⟨a,xs',e,c0,g0,by rw [zD hne]; exact gg,ss,fun k vs hk hw=> ?_⟩
   rcases zT hw with ⟨rfl,e'⟩ | ⟨hk',hw'⟩
   ·rw [he]; intro z; injection z with z; injection z with z; injection z with z; exact hne z.symm
   ·exact d' k vs hk hw'
def Wa:Sl->Sl
 | .ow ts=> .vl (.lst ts)
 | x=>x
def frz (ρ:En):En:=ρ.map Wa
theorem SI.up {Y:Fx} {B:Hp} {ρ:En} {σ:Sg} {H:Hp} (I:SI Y B ρ σ H):zK B (Z5 B Y.H0 H):=fun b o h=>by
 cases q:Y.H0 b with
 | none=>rw [Zw q]; exact I.sB b o h
 | some u=>rw [Zs q]; exact h
theorem SI.frz {Y:Fx} {B:Hp} {ρ:En} {σ:Sg} {H:Hp} (I:SI Y B ρ σ H):SI Y (Z5 B Y.H0 H) (PV.frz ρ) σ H:=by
 have up:zK B (Z5 B Y.H0 H):=fun b o h=>by
  cases q:Y.H0 b with
  | none=>rw [Zw q]; exact I.sB b o h
  | some u=>rw [Zs q]; exact h
 refine ⟨I.s0,I.sH,fun b o h=> ?_,fun b o h=>by rw [Zs h]; exact I.old b o h,by unfold PV.frz; rw [List.length_map]; exact I.len,fun j t h=> ?_,fun j ts h=> ?_,fun j c h=> ?_⟩
 rotate_right
 ·unfold PV.frz at h
  rw [List.getElem?_map] at h
  cases e:ρ[j]? with
  | none=>rw [e] at h; cases h
  | some x=>
   rw [e] at h
   cases x with
   | xc d=>
    cases h
    obtain ⟨a,e1,r⟩:=I.xc j _ e
    exact ⟨a,e1,up a _ r⟩
   | un=>cases h
   | vl _=>cases h
   | ow _=>cases h
 ·cases q:Y.H0 b with
  | none=>rw [Zw q] at h; exact h
  | some u=>rw [Zs q] at h; exact I.sB b o h
 ·unfold PV.frz at h
  rw [List.getElem?_map] at h
  cases e:ρ[j]? with
  | none=>rw [e] at h; cases h
  | some x=>
   rw [e] at h
   cases x with
   | un=>cases h
   | vl u=>
    cases h
    obtain ⟨v,e1,r⟩:=I.vl j _ e
    exact ⟨v,e1,r.mono up⟩
   | ow us=>
    cases h
    obtain ⟨a,xs,e1,b0,h0,hh,rr,_⟩:=I.ow j us e
    exact ⟨.ref a,e1, .lst (by rw [Zw h0]; exact hh) (rr.mono up)⟩
   | xc _=>cases h
 ·unfold PV.frz at h
  rw [List.getElem?_map] at h
  cases e:ρ[j]? with
  | none=>rw [e] at h; cases h
  | some x=>
   rw [e] at h
   cases x with
   | un=>cases h
   | vl u=>cases h
   | ow us=>cases h
   | xc _=>cases h
theorem ku {Y:Fx} {B H H' :Hp} (s0:zK Y.H0 H) (old:∀ b o,Y.H0 b=some o->B b=Y.B0 b) (s:zK H H') (sB:zK B H):zK (Z5 B H H') (Z5 Y.B0 Y.H0 H'):=fun b o h=>by
 cases q:H b with
 | none=>
  rw [Zw q] at h
  rw [Zw (s0.free q)]; exact h
 | some u=>
  rw [Zs q] at h
  cases z:Y.H0 b with
  | none=>rw [Zw z]; exact s b o (sB b o h)
  | some w=>rw [Zs z,← old b w z]; exact h
section
variable {X:Cx} {Y:Fx} {a b c d:Expr} {fa fb fc fd:En->R T} {pos p:Pos} {st:Stmt} {sts sts' :List Stmt} {f g:En->RS}
def nxS:En->RS:=fun ρ=> .nx ρ
def zz (f g:En->RS):En->RS:=fun ρ=>match f ρ with
 | .nx ρ' =>g ρ'
 | r=>r
theorem zO:UN X Y [] nxS:= .mk fun ρ=>PSs.imp VG fun D σ H ⟨B,I,q⟩=>q σ H B (zK.refl B) I
theorem zn (h:Ws X Y st f):UN X Y [st] f:= .mk fun ρ=>Yf (h ρ)
theorem zh (h1:Ws X Y st f) (h2:UN X Y sts g):UN X Y (st :: sts) (zz f g):= .mk fun ρ=>by
 refine PSs.imp (QG (u:=fun D σ H=>∃ ρ',tSS Y g ρ' D σ H) (h1 ρ) ?_) ?_
 ·intro pins s σ H D I ⟨ρ',q⟩
  exact h2 ρ' pins s σ H D I q
 ·intro D σ H ⟨B,I,q⟩
  refine ⟨B,I, ?_⟩
  unfold zz at q
  cases e:f ρ with
  | nx ρ' =>
   rw [e] at q
   intro σ' H' B' s' I'
   exact ⟨ρ',B',I',PoS.up s' q⟩
  | rt t=>rw [e] at q; exact q
  | rf t=>rw [e] at q; exact q
  | bk ρ' =>rw [e] at q; exact q
  | ct ρ' =>rw [e] at q; exact q
  | ex c=>rw [e] at q; exact q
  | bad=>rw [e] at q; exact q
def zJ (i:Nat) (fa:En->R T):En->RS:=fun ρ=>(fa ρ).s fun t=> .nx (ρ.set i (.vl t))
theorem Z1 {i:Nat} {x:Str} {p' :Pos} (hN:X.N.Nodup) (hi:X.N[i]? =some x) (hx:L2.Loc X.env.scope x) (ha:Snd X Y a fa) (hs:swapsWith a (some (.Name x p')) pos.line X.env=pure false:=by rfl)
  (hf:X.fn x=true\/X.env.scope.names.lookup x=some .local:=by first | exact .inl rfl | exact .inr rfl | assumption):Ws X Y (.Assign [.Name x p'] a pos) (zJ i fa):= .mk fun ρ=>
 PS.imp (UG hN hi hx (ha ρ) hs hf) fun D σ H ⟨B,I,q⟩=>wy I q fun t v H1 _ s1 r1 I1 q1=>q1 _ _ _ (zK.refl _) (I1.setV i r1)
def U1 (i:Nat) (ga:En->R (List T)):En->RS:=fun ρ=>(ga ρ).s fun ts=>if ts.length<=bnd then .nx (ρ.set i (.ow ts)) else .bad
theorem wz {i:Nat} {x:Str} {p' :Pos} {es:List Expr} {ga:En->R (List T)} (hN:X.N.Nodup) (hi:X.N[i]? =some x) (hx:L2.Loc X.env.scope x) (ha:U9 X Y es ga) (hs:swapsWith (.List es p) (some (.Name x p')) pos.line X.env=pure false:=by rfl)
  (hf:X.fn x=true\/X.env.scope.names.lookup x=some .local:=by first | exact .inl rfl | exact .inr rfl | assumption):Ws X Y (.Assign [.Name x p'] (.List es p) pos) (U1 i ga):= .mk fun ρ=>
 PS.imp (UG hN hi hx (V3 (ha ρ)) hs hf) fun D σ H ⟨B,I,q⟩=>wy I q fun ts vs H1 _ s1 r1 I1 q1=>by
  split at q1
  ·rename_i hb
   exact ⟨by rw [r1.length]; exact jv hb,fun p hp=>q1 _ _ _ (zK.refl _) (I1.newO i hp r1)⟩
  ·exact q1.elim
def zN (fa:En->R T):En->RS:=fun ρ=>(fa (frz ρ)).s fun t=> .rt t
theorem zr (ha:Snd X Y a fa):Ws X Y (.Return (some a) pos) (zN fa):= .mk fun ρ=>
 PS.imp (XR (ha (frz ρ))) fun D σ H ⟨B,I,q⟩=>by
  refine ⟨_,I.frz, ?_⟩
  unfold zN at q
  cases e:fa (frz ρ) with
  | bad=>rw [e] at q; exact q
  | ex c=>
   rw [e] at q
   exact fun d H' s0 sG=>q d H' s0 (I.up.trans sG)
  | ok t=>
   rw [e] at q
   intro v H' s r
   have J:=I.frz
   exact q v H' (I.sH.trans s) (r.mono (ku J.sH J.old s J.sB))
def ifS (g:En->R Bool) (f1 f2:En->RS):En->RS:=fun ρ=>(g ρ).s fun k=>if k=true then f1 ρ else f2 ρ
theorem zP {ga:En->R Bool} (hc:uh X Y c ga) (h1:UN X Y sts f) (h2:UN X Y sts' g):Ws X Y (.If c sts sts' pos) (ifS ga f g):= .mk fun ρ=>
 PS.imp (gq (hc ρ) (h1 ρ) (h2 ρ)) fun D σ H ⟨B,I,q⟩=>wy I q fun t v H1 _ s1 r1 I1 q1=>by
  have r1' :v=t:=r1
  subst r1'
  cases v with
  | true=>exact ⟨_,I1,q1⟩
  | false=>exact ⟨_,I1,q1⟩
def wX (fa:En->R T):En->RS:=fun ρ=>(fa ρ).s fun _=> .nx ρ
theorem YU (ha:Snd X Y a fa) (hs:swapsWith a none pos.line X.env=pure false:=by rfl):Ws X Y (.Expr a pos) (wX fa):= .mk fun ρ=>
 PS.imp (U4 (ha ρ) hs) fun D σ H ⟨B,I,q⟩=>wy I q fun t v H1 _ s1 r1 I1 q1=>q1 _ _ _ (zK.refl _) I1
def V8 (i:Nat) (fa:En->R T):En->RS:=fun ρ=>match ρ[i]? with
 | some (.ow ts)=>(fa ρ).s fun t=>if ts.length < bnd then .nx (ρ.set i (.ow (ts++[t]))) else .bad
 | _=> .bad
def yO (i:Nat) (fa:En->R T):En->RS:=fun ρ=>match ρ[i]? with
 | some (.ow ts)=>(fa ρ).s fun t=>match t with
  | .lst us=>if ts.length+us.length<=bnd then .nx (ρ.set i (.ow (ts++us))) else .bad
  | _=> .bad
 | _=> .bad
theorem kv {n:Nat} (h:n < bnd):n < sizeLine:=by rw [sizeLine_eq]; exact h
theorem kw {i:Nat} {x:Str} {px pa:Pos} (hv:PE X (.Name x px) (Yc i)) (ha:Snd X Y a fa) (hb:attributeBase (.Name x px) "append" X.env (eval (.Name x px) X.env)=eval (.Name x px) X.env:=by rfl) (hs:St1 X a:=by exact st1 rfl)
  (hz:(pa.endLine == p.line)=true:=by rfl) (hw:swapsWith (.Call (.Attribute (.Name x px) "append" pa) [a] [] p) none pos.line X.env=pure false:=by rfl):Ws X Y (.Expr (.Call (.Attribute (.Name x px) "append" pa) [a] [] p) pos) (V8 i fa):= .mk fun ρ=>by
 have e1:(((((backTo p (starEach [a] X.env)).all fun x=> !x.fst) && (backToKw p (keywordEach [] X.env)).all fun x=>x.fst.isSome) && decide (([a].length+([]:List Keyword).length+if ([]:List Keyword).isEmpty=true then 0 else 1) < 30))=true):=by rw [hs]; rfl
 refine PS.imp (U4 (Yw PySem.F.plainAttrs_list PySem.F.slot_list_append PySem.F.type_list_append ue hv (zH (ha ρ) Zu hs) hb e1 hz hs rfl) hw) fun D σ H ⟨B,I,q⟩=> ?_
 unfold V8 at q
 split at q
 ·rename_i ts e
  obtain ⟨l,xs,e1,b0,h0,hh,rr,d⟩:=I.ow i ts e
  refine ⟨.ref l,e1, .inl ⟨rfl,_,SqL.of hh⟩, ?_⟩
  refine wy I q fun t v H1 _ s1 r1 I1 q1=> ?_
  split at q1
  ·rename_i hb
   refine ⟨l,xs,v,rfl,rfl,s1 _ _ hh,by rw [rr.length]; exact kv hb, ?_⟩
   exact q1 _ _ _ (zK.refl _) (I1.chg i e e1 ((rr.mono (Z5.ge I.sB s1)).append (.cons r1 .nil)))
  ·exact q1.elim
 ·exact q.elim
theorem YV {i:Nat} {x:Str} {px pa:Pos} (hv:PE X (.Name x px) (Yc i)) (ha:Snd X Y a fa) (hb:attributeBase (.Name x px) "extend" X.env (eval (.Name x px) X.env)=eval (.Name x px) X.env:=by rfl) (hs:St1 X a:=by exact st1 rfl)
  (hz:(pa.endLine == p.line)=true:=by rfl) (hw:swapsWith (.Call (.Attribute (.Name x px) "extend" pa) [a] [] p) none pos.line X.env=pure false:=by rfl):Ws X Y (.Expr (.Call (.Attribute (.Name x px) "extend" pa) [a] [] p) pos) (yO i fa):= .mk fun ρ=>by
 have e1:(((((backTo p (starEach [a] X.env)).all fun x=> !x.fst) && (backToKw p (keywordEach [] X.env)).all fun x=>x.fst.isSome) && decide (([a].length+([]:List Keyword).length+if ([]:List Keyword).isEmpty=true then 0 else 1) < 30))=true):=by rw [hs]; rfl
 refine PS.imp (U4 (Yw PySem.F.plainAttrs_list PySem.F.slot_list_extend PySem.F.type_list_extend Yx hv (zH (ha ρ) Zu hs) hb e1 hz hs rfl) hw) fun D σ H ⟨B,I,q⟩=> ?_
 unfold yO at q
 split at q
 ·rename_i ts e
  obtain ⟨l,xs,e1,b0,h0,hh,rr,d⟩:=I.ow i ts e
  refine ⟨.ref l,e1, .inl ⟨rfl,_,SqL.of hh⟩, ?_⟩
  refine wy I q fun t v H1 _ s1 r1 I1 q1=> ?_
  cases r1 with
  | @lst b zs us hb r=>
   have q1:PoS Y _ (if ts.length+us.length<=bnd then .nx (ρ.set i (.ow (ts++us))) else .bad) D:=q1
   split at q1
   ·rename_i hl
    refine ⟨l,b,xs,zs,rfl,rfl,s1 _ _ hh,I1.sB _ _ hb,by rw [rr.length,r.length]; exact jv hl, ?_⟩
    exact q1 _ _ _ (zK.refl _) (I1.chg i e e1 ((rr.mono (Z5.ge I.sB s1)).append r))
   ·exact q1.elim
  | _=>exact q1.elim
 ·exact q.elim
end
def spP (cl:Nat->Value) (n:Nat) (g:List T->R T):Sp:=fun vs H Q E=>∃ B ts,ts.length=n/\zK B H/\zY B vs ts/\Po ⟨B,H,E,cl⟩ rC B H (g ts) Q
theorem spP.len {cl:Nat->Value} {n:Nat} {g:List T->R T} (vs:List V) (H:Hp) (Q:VK) (E:XK) (h:spP cl n g vs H Q E):vs.length=n:=by
 obtain ⟨B,ts,hl,_,r,_⟩:=h
 rw [r.length,hl]
def zc (n:Nat) (g:List T->R T) (ga:En->R (List T)):En->R T:=fun ρ=>(ga ρ).bind fun ts=>if ts.length=n then g ts else .bad
section
variable {X:Cx} {Y:Fx} {a b c d:Expr} {fa fb fc fd:En->R T} {pos p:Pos}
theorem V9 {CX:CXT} {k n:Nat} {f:Addr} {fd:FuncData} {ps:List Str} {g:List T->R T} {x:Str} {es:List Expr} {ga:En->R (List T)} (F:ZB X.prog X.w X.K X.mg X.base CX k f fd ps (spP Y.cl n g)) (hr:JG k X.A) (gl:Gl X x) (mg:X.mg x=some (.ref f))
  (kp:PySem.W.keepIn X.K (.ref f)=true) (bd:L2.Binds X.K fd ps []) (hx:Jf CX X Y.E) (ha:U9 X Y (a :: es) ga) (hd:(x == ("__debug__":Str))=false:=by decide)
  (hs:starEach (a :: es) X.env=(false,eval a X.env) :: starEach es X.env:=by exact Zv rfl) (hz:((backTo pos (starEach es X.env)).any fun x=>x.fst)=false:=by exact j8 rfl):Snd X Y (.Call (.Name x p) (a :: es) [] pos) (zc n g ga):= .mk fun ρ=>
 PE.imp (Ys F hr gl mg kp bd .nil hx (ha ρ) hd hs hz) fun σ H Q ⟨B,I,q⟩=>step I q fun ts vs H1 _ s1 r1 I1 q1=>by
  split at q1
  ·rename_i hn
   rw [List.append_nil]
   refine ⟨_,ts,hn,I1.sB,r1, ?_⟩
   revert q1
   cases g ts with
   | bad=>exact fun q1=>q1
   | ex c=>exact fun q1 d H' s sB=>q1 d H' (I1.sH.trans s) sB
   | ok t=>exact fun q1=>q1
  ·exact q1.elim
end
def zo:RS->R T
 | .rt t=> .ok t
 | .rf ts=> .ok (.lst ts)
 | .nx _=> .ok .non
 | .ex c=> .ex c
 | _=> .bad
def en0 (n:Nat) (ts:List T):En:=ts.map Sl.vl++List.replicate (n - ts.length) Sl.un
theorem zY.vl {H:Hp}:∀ {vs:List V} {ts:List T} {i:Nat} {t:T} {n m:Nat},zY H vs ts->(ts.map Sl.vl++List.replicate n Sl.un)[i]? =some (Sl.vl t)->∃ v:V,(vs.map some++List.replicate m none)[i]? =some (some v)/\Rep H v t
 | _,_,i,t,n,m, .nil,h=>by
  exfalso
  simp only [List.map_nil,List.nil_append] at h
  rw [List.getElem?_replicate] at h
  split at h
  ·cases h
  ·cases h
 | _,_,0,t,n,m, .cons r _,h=>by
  simp at h; subst h; exact ⟨_,rfl,r⟩
 | _,_,i+1,t,n,m, .cons _ q,h=>by
  obtain ⟨v,h1,h2⟩:=zY.vl (i:=i) (t:=t) (n:=n) (m:=m) q (by simpa using h)
  exact ⟨v,by simpa using h1,h2⟩
theorem Va {n:Nat}:∀ {ts:List T} {i:Nat} {us:List T},(ts.map Sl.vl++List.replicate n Sl.un)[i]? =some (Sl.ow us)->False
 | [],i,us,h=>by
  simp only [List.map_nil,List.nil_append] at h
  rw [List.getElem?_replicate] at h
  split at h
  ·cases h
  ·cases h
 | t :: ts,0,us,h=>by simp at h
 | t :: ts,i+1,us,h=>Va (ts:=ts) (i:=i) (us:=us) (n:=n) (by simpa using h)
theorem Vb {n:Nat}:∀ {ts:List T} {i:Nat} {c:Nat},(ts.map Sl.vl++List.replicate n Sl.un)[i]? =some (Sl.xc c)->False
 | [],i,us,h=>by
  simp only [List.map_nil,List.nil_append] at h
  rw [List.getElem?_replicate] at h
  split at h
  ·cases h
  ·cases h
 | t :: ts,0,us,h=>by simp at h
 | t :: ts,i+1,us,h=>Vb (ts:=ts) (i:=i) (c:=us) (n:=n) (by simpa using h)
theorem SI.start {Y:Fx} {N:List Str} {vs:List V} {ts:List T} (s:zK Y.B0 Y.H0) (r:zY Y.B0 vs ts):SI Y Y.B0 (en0 N.length ts) (L2.start N vs) Y.H0 where
 s0:=s
 sH:=zK.refl _
 sB:=s
 old:=fun _ _ _=>rfl
 len:=by unfold en0 L2.start; simp [r.length]
 vl:=fun i t h=>r.vl h
 ow:=fun i ts h=>(Va h).elim
 xc:=fun i c h=>(Vb h).elim
section
variable {P:Program} {w:World} {K:PySem.W.Frag} {mg:Str->Option Value} {base:Heap}
theorem Zj {cl:Nat->Value} {x qual:Str} {st:Stmt} {f:Addr} {fd:FuncData} {N ps:List Str} {k n:Nat} {fb:En->RS} {g:List T->R T} (F:Fun K x qual st f fd) (S:zp N ps (zf st)) (hn:n=ps.length)
  (hb:∀ (cdv:Value) (A:Around) (outer:List Env) (s:Shared) (H:Hp) (E:XK) (Y:Fx),Y.cl=cl->JG k (A.deeper (envOfC qual (zf st) s.heap.objs.size f cdv))->
   UN (wV CX0 P w K mg base N qual (zf st) f cdv A outer s H E).nox Y (ZT st) fb)
  (hg:∀ ts,ts.length=n->g ts=zo (fb (en0 N.length ts))):ZB P w K mg base CX0 (k+1) f fd ps (spP cl n g):=by
 subst hn
 refine F.ok S spP.len fun cdv A outer s H vs Q E hr ⟨B,ts,hl,sB,r,q⟩=> ?_
 refine ⟨_,hb cdv A outer s H E ⟨B,H,E,cl⟩ rfl hr (en0 N.length ts),B,SI.start (Y:=⟨B,H,E,cl⟩) sB r, ?_⟩
 rw [hg ts hl] at q
 revert q
 cases fb (en0 N.length ts) with
 | rt t=>exact fun q v H' s r=>q v H' s r
 | rf t=>exact fun q a xs H' B' s0 n e r _ l=>q (.ref a) H' s0 (.lst (by rw [Zw n]; exact e) (r.mono l))
 | nx ρ=>exact fun q σ' H' B' _ I=>q .non H' I.sH .non
 | ex c=>exact fun q=>q
 | bk ρ=>exact fun q=>q.elim
 | ct ρ=>exact fun q=>q.elim
 | bad=>exact fun q=>q
end
abbrev rI:Hp->Hp->It->List T->Prop:=fun B1 _ J ts=>∀ B2 H2,zK B1 B2->zK B2 H2->(∀ i,i < ts.length->J.go i H2)/\(∀ (i:Nat) t x H3,ts[i]? =some t->J.yld i H2 x H3->zK H2 H3/\Rep (Z5 B2 H2 H3) x t)/\(∀ i,ts.length<=i->J.stop i H2)
structure YW (X:Cx) (Y:Fx) (tg iter:Expr) (f:En->R (List T)):Prop where
 mk ::
 go:∀ ρ,PI X tg iter (tS Y rI f ρ)
instance {X:Cx} {Y:Fx} {tg iter:Expr} {f:En->R (List T)}:CoeFun (YW X Y tg iter f) fun _=>∀ ρ,PI X tg iter (tS Y rI f ρ):=⟨YW.go⟩
section
variable {X:Cx} {Y:Fx} {a b c d tg:Expr} {fa fb fc fd:En->R T} {pos p:Pos}
theorem PI.imp {e:Expr} {t t' :TI} (h:PI X tg e t) (i:∀ σ H Q,t' σ H Q->t σ H Q):PI X tg e t' :=fun pins s σ H Q I q=>h pins s σ H Q I (i σ H Q q)
theorem kx {K:PySem.W.Frag} {B1 H1:Hp} {a:Addr} {xs:List V} {ts:List T} (h:B1 a=some (.tup xs)) (r:zY B1 xs ts):rI B1 H1 (Itt K a) ts:=fun B2 H2 s1 s2=>by
 have h2:=s2 _ _ (s1 _ _ h)
 refine ⟨fun i hi=> ?_,fun i t x H3 e y=> ?_,fun i hi=>⟨xs,SqT.of h2,by rw [r.length]; exact hi⟩⟩
 ·obtain ⟨v,e,_⟩:=r.get (List.getElem?_eq_getElem hi)
  exact ⟨xs,v,SqT.of h2,e⟩
 ·obtain ⟨rfl,y⟩:=y
  obtain ⟨v,e1,r1⟩:=r.get e
  have:=y xs (SqT.of h2)
  rw [e1] at this; cases this
  refine ⟨zK.refl _, ?_⟩
  rw [Z5.self B2 _ s2]
  exact r1.mono s1
theorem ky {K:PySem.W.Frag} {B1 H1:Hp} {a:Addr} {xs:List V} {ts:List T} (h:B1 a=some (.lst xs)) (r:zY B1 xs ts):rI B1 H1 (Itl K a) ts:=fun B2 H2 s1 s2=>by
 have h2:=s2 _ _ (s1 _ _ h)
 refine ⟨fun i hi=> ?_,fun i t x H3 e y=> ?_,fun i hi=>⟨xs,SqL.of h2,by rw [r.length]; exact hi⟩⟩
 ·obtain ⟨v,e,_⟩:=r.get (List.getElem?_eq_getElem hi)
  exact ⟨xs,v,SqL.of h2,e⟩
 ·obtain ⟨rfl,y⟩:=y
  obtain ⟨v,e1,r1⟩:=r.get e
  have:=y xs (SqL.of h2)
  rw [e1] at this; cases this
  refine ⟨zK.refl _, ?_⟩
  rw [Z5.self B2 _ s2]
  exact r1.mono s1
def rng (lo:Int) (n:Nat):List T:=(List.range n).map fun (i:Nat)=>T.int (lo+(i:Int))
theorem Vc {B1 H1:Hp} {lo:Int} {n:Nat}:rI B1 H1 (Itr lo n) (rng lo n):=fun B2 H2 s1 s2=>by
 have hl:(rng lo n).length=n:=by unfold rng; simp
 refine ⟨fun i hi=>by rw [hl] at hi; exact hi,fun i t x H3 e y=> ?_,fun i hi=>by rw [hl] at hi; exact hi⟩
 obtain ⟨rfl,rfl⟩:=y
 refine ⟨zK.refl _, ?_⟩
 unfold rng at e
 rw [List.getElem?_map] at e
 by_cases hi:i < n
 ·rw [List.getElem?_range hi] at e
  cases e
  exact .int _
 ·rw [List.getElem?_eq_none (by simp; omega)] at e; cases e
def Zd (fa:En->R T):En->R (List T):=fun ρ=>(fa ρ).bind fun t=>match t with
 | .int j=>if -1000000 < j/\j < 1000000 then .ok (rng 0 j.toNat) else .bad
 | _=> .bad
def wb (fa fb:En->R T):En->R (List T):=fun ρ=>(fa ρ).bind fun t=>(fb ρ).bind fun t' =>match t,t' with
 | .int i, .int j=>if -1000000 < i/\i < 1000000/\ -1000000 < j/\j < 1000000 then .ok (rng i (j - i).toNat) else .bad
 | _,_=> .bad
theorem jE (gl:Gl X "range") (mg:X.mg "range"=none) (ha:Snd X Y a fa) (hs:St1 X a:=by exact st1 rfl):YW X Y tg (.Call (.Name "range" p) [a] [] pos) (Zd fa):= .mk fun ρ=>PI.imp (Yi gl mg (zH (ha ρ) Zu hs) hs) fun σ H R ⟨B,I,q⟩=>step I q fun t v H1 _ s1 r1 I1 q1=>by
 cases r1 with
 | int j=>
  have q1:Po Y rI _ H1 (if -1000000 < j/\j < 1000000 then .ok (rng 0 j.toNat) else .bad) R:=q1
  split at q1
  ·rename_i hj
   exact ⟨j,rfl,by omega,by omega,jc I1 q1 Vc⟩
  ·exact q1.elim
 | _=>exact q1.elim
theorem YX (gl:Gl X "range") (mg:X.mg "range"=none) (ha:Snd X Y a fa) (hb:Snd X Y b fb) (hs:starEach [a,b] X.env=[(false,eval a X.env),(false,eval b X.env)]:=by exact st2 rfl rfl) (hs2:St1 X b:=by exact st1 rfl):YW X Y tg (.Call (.Name "range" p) [a,b] [] pos) (wb fa fb):= .mk fun ρ=>
 PI.imp (Yj gl mg (zH (ha ρ) (zH (hb ρ) Zu hs2) (by rw [hs,hs2])) hs hs2) fun σ H R ⟨B,I,q⟩=>step I q fun t v H1 _ s1 r1 I1 q1=>step I1 q1 fun t' v' H2 _ s2 r2 I2 q2=>by
  cases r1 with
  | int i=>
   cases r2 with
   | int j=>
    have q2:Po Y rI _ H2 (if -1000000 < i/\i < 1000000/\ -1000000 < j/\j < 1000000 then .ok (rng i (j - i).toNat) else .bad) R:=q2
    split at q2
    ·rename_i hj
     exact ⟨i,j,rfl,⟨by omega,by omega,by omega,by omega⟩,jc I2 q2 Vc⟩
    ·exact q2.elim
   | _=>exact q2.elim
  | _=>cases r2 <;> exact q2.elim
def gQ (X:Cx) (Y:Fx) (tg:Expr) (g:T->En->R En):Prop:=∃ t:TG,PG X tg t/\∀ B ρ σ H v x Q,SI Y B ρ σ H->Rep B v x->(match g x ρ with | .ok ρ' =>∀ σ',SI Y B ρ' σ' H->Q σ' H | _=>False)->t v σ H Q
def zw (i:Nat):T->En->R En:=fun t ρ=> .ok (ρ.set i (.vl t))
theorem jQ {i:Nat} {x:Str} (hN:X.N.Nodup) (hi:X.N[i]? =some x) (hx:L2.Loc X.env.scope x) (hf:X.fn x=true\/X.env.scope.names.lookup x=some .local:=by first | exact .inl rfl | exact .inr rfl | assumption):gQ X Y (.Name x pos) (zw i):=
 ⟨u5 i,zu hN hi hx hf,fun B ρ σ H v x Q I r q=>q _ (I.setV i r)⟩
def Zt (i j:Nat):T->En->R En:=fun t ρ=>match t with
 | .tup [x,y]=> .ok ((ρ.set i (.vl x)).set j (.vl y))
 | _=> .bad
theorem Vd {i j:Nat} {x y:Str} {p' p2:Pos} {k:Nat} (hc:X.calm=true) (hN:X.N.Nodup) (hi:X.N[i]? =some x) (hj:X.N[j]? =some y) (hx:L2.Loc X.env.scope x) (hy:L2.Loc X.env.scope y)
  (hf:X.fn x=true\/X.env.scope.names.lookup x=some .local:=by first | exact .inl rfl | exact .inr rfl | assumption) (hf' :X.fn y=true\/X.env.scope.names.lookup y=some .local:=by first | exact .inl rfl | exact .inr rfl | assumption):
  gQ X Y (.Tuple [.Name x pos, .Name y p'] k p2) (Zt i j):=by
 refine ⟨gs X.K 2 (Yg (u5 i) (Yg (u5 j) gr)),W2 hc (ZF (zu hN hi hx hf) (ZF (zu hN hj hy hf') JF)),fun B ρ σ H v t Q I r q=> ?_⟩
 cases r with
 | @tup l xs ts h r=>
  cases r with
  | nil=>exact q.elim
  | cons r1 rr=>
   cases rr with
   | nil=>exact q.elim
   | cons r2 rr=>
    cases rr with
    | cons _ _=>exact q.elim
    | nil=>
     exact ⟨l,_,rfl,SqT.of (I.sB _ _ h),rfl,_,_,rfl,_,_,rfl,rfl,q _ ((I.setV i r1).setV j r2)⟩
 | _=>exact q.elim
def j5 (g:T->En->R En) (fb:En->RS):List T->En->RS
 | [],ρ=> .nx ρ
 | t :: ts,ρ=>match g t ρ with
  | .ok ρ1=>match fb ρ1 with
   | .nx ρ2=>j5 g fb ts ρ2
   | .ct ρ2=>j5 g fb ts ρ2
   | .bk ρ2=> .nx ρ2
   | r=>r
  | .ex c=> .bad
  | .bad=> .bad
def ju (fi:En->R (List T)) (g:T->En->R En) (fb:En->RS):En->RS:=fun ρ=>(fi ρ).s fun ts=>j5 g fb ts ρ
theorem JJ {iter:Expr} {sts:List Stmt} {fi:En->R (List T)} {g:T->En->R En} {fb:En->RS} (hp:PassesOwn (model X.prog X.w) X.A X.env X.xe) (hc:X.calm=true) (hi:YW X Y tg iter fi) (hg:gQ X Y tg g) (hb:UN X Y sts fb)
  (hs:∀ x,foldedSetIterable iter X.env x=pure x:=by intro _; rfl):Ws X Y (.For tg iter sts [] pos) (ju fi g fb):= .mk fun ρ=>by
 obtain ⟨tG,hG,hG'⟩:=hg
 refine PS.imp (XU (tb:=fun D σ H=>∃ ρ',tSS Y fb ρ' D σ H) hp hc (hi ρ) hG (fun pins s σ H D I ⟨ρ',q⟩=>hb ρ' pins s σ H D I q) hs) fun D σ H ⟨B,I,q⟩=> ?_
 refine wy I q fun ts J H1 _ s1 r1 I1 q1=> ?_
 refine ⟨fun i m σ' H' =>m=ts.length - i/\i<=ts.length/\∃ ρ' B',SI Y B' ρ' σ' H' /\zK (Z5 B H H1) B' /\PoS Y B' (j5 g fb (ts.drop i) ρ') D,⟨ts.length,by simp,Nat.zero_le _,ρ,_,I1,zK.refl _,q1⟩, ?_⟩
 rintro i m σ' H' ⟨rfl,hi,ρ',B',I',sB',q'⟩
 obtain ⟨hgo,hyld,hstop⟩:=r1 B' H' sB' I'.sB
 by_cases hlt:i < ts.length
 ·refine .inr ⟨hgo i hlt,fun σ2 H2=>∃ ρ2 B2,SI Y B2 ρ2 σ2 H2/\zK (Z5 B H H1) B2/\PoS Y B2 (j5 g fb (ts.drop (i+1)) ρ2) D,fun σ2 H2 ⟨ρ2,B2,I2,s2,q2⟩=>⟨ts.length - (i+1),by omega,rfl,hlt,ρ2,B2,I2,s2,q2⟩,fun x H2 y=> ?_⟩
  obtain ⟨s2,r2⟩:=hyld i _ x H2 (List.getElem?_eq_getElem hlt) y
  rw [List.drop_eq_getElem_cons hlt] at q'
  unfold j5 at q'
  refine hG' _ ρ' σ' H2 x _ _ (I'.grow s2) r2 ?_
  cases eg:g ts[i] ρ' with
  | bad=>rw [eg] at q'; exact q'
  | ex c=>rw [eg] at q'; exact q'
  | ok ρ1=>
   rw [eg] at q'
   intro σ1 J1
   refine ⟨ρ1,_,J1, ?_⟩
   have q2:=PoS.up (Z5.ge I'.sB s2) q'
   dsimp only at q2
   have s3:zK (Z5 B H H1) (Z5 B' H' H2):=sB'.trans (Z5.ge I'.sB s2)
   revert q2
   cases fb ρ1 with
   | nx ρ2=>exact fun q2 σ3 H3 B3 s4 I3=>⟨ρ2,B3,I3,s3.trans s4,PoS.up s4 q2⟩
   | ct ρ2=>exact fun q2 σ3 H3 B3 s4 I3=>⟨ρ2,B3,I3,s3.trans s4,PoS.up s4 q2⟩
   | bk ρ2=>exact fun q2=>q2
   | rt t=>exact fun q2=>q2
   | rf t=>exact fun q2=>q2
   | ex c=>exact fun q2=>q2
   | bad=>exact fun q2=>q2
 ·have e:i=ts.length:=by omega
  subst e
  rw [List.drop_length] at q'
  exact .inl ⟨hstop _ (Nat.le_refl _),q' σ' H' B' (zK.refl _) I'⟩
def jm (g:En->R Bool) (fb:En->RS):Nat->En->RS
 | 0,_=> .bad
 | n+1,ρ=>(g ρ).s fun k=>if k=true then match fb ρ with
   | .nx ρ2=>jm g fb n ρ2
   | .ct ρ2=>jm g fb n ρ2
   | .bk ρ2=> .nx ρ2
   | r=>r
  else .nx ρ
theorem xh {n:Nat} {sts:List Stmt} {ga:En->R Bool} {fb:En->RS} (hp:PassesOwn (model X.prog X.w) X.A X.env X.xe) (hc:uh X Y c ga) (hb:UN X Y sts fb):Ws X Y (.While c sts [] pos) (jm ga fb n):= .mk fun ρ=>by
 refine PS.imp (QH (tc:=fun σ H Q=>∃ ρ',tS Y rE ga ρ' σ H Q) (tb:=fun D σ H=>∃ ρ',tSS Y fb ρ' D σ H) hp (fun pins s σ H D I ⟨ρ',q⟩=>hc ρ' pins s σ H D I q) (fun pins s σ H D I ⟨ρ',q⟩=>hb ρ' pins s σ H D I q)) fun D σ H ⟨B,I,q⟩=> ?_
 refine ⟨fun m σ' H' =>∃ ρ' B',SI Y B' ρ' σ' H' /\PoS Y B' (jm ga fb m ρ') D,⟨n,ρ,B,I,q⟩, ?_⟩
 rintro m σ' H' ⟨ρ',B',I',q'⟩
 cases m with
 | zero=>exact q'.elim
 | succ m=>
  unfold jm at q'
  refine ⟨ρ',wy I' q' fun t v H1 _ s1 r1 I1 q1=> ?_⟩
  have r1' :v=t:=r1
  subst r1'
  cases v with
  | false=>exact q1 _ _ _ (zK.refl _) I1
  | true=>
   refine ⟨fun σ2 H2=>∃ ρ2 B2,SI Y B2 ρ2 σ2 H2/\PoS Y B2 (jm ga fb m ρ2) D,fun σ2 H2 h=>⟨m,Nat.lt_succ_self m,h⟩,ρ',_,I1, ?_⟩
   have q1:PoS Y _ (match fb ρ' with
    | .nx ρ2=>jm ga fb m ρ2
    | .ct ρ2=>jm ga fb m ρ2
    | .bk ρ2=> .nx ρ2
    | r=>r) D:=q1
   revert q1
   cases fb ρ' with
   | nx ρ2=>exact fun q2 σ3 H3 B3 s4 I3=>⟨ρ2,B3,I3,PoS.up s4 q2⟩
   | ct ρ2=>exact fun q2 σ3 H3 B3 s4 I3=>⟨ρ2,B3,I3,PoS.up s4 q2⟩
   | bk ρ2=>exact fun q2=>q2
   | rt t=>exact fun q2=>q2
   | rf t=>exact fun q2=>q2
   | ex c=>exact fun q2=>q2
   | bad=>exact fun q2=>q2
end
theorem wA {env:Env}:∀ (ns:List (Str×NameKind)) (acc:List (Str×Addr)),(∀ x∈ns,x.2=NameKind.free->∃ c,env.cells.lookup x.1=some c)->(∀ x c,acc.lookup x=some c->env.cells.lookup x=some c)->
  ∃ cl,(forIn ns acc (fun (x:Str×NameKind) (r:List (Str×Addr))=>if (x.2 == NameKind.free)=true then (do let c ← cellOf env x.1; pure (ForInStep.yield ((x.1,c) :: r))) else pure (ForInStep.yield r)):Sem _)=pure cl/\
   (∀ x c,cl.lookup x=some c->env.cells.lookup x=some c)/\(∀ x c,acc.lookup x=some c->∃ c',cl.lookup x=some c')/\(∀ x∈ns,x.2=NameKind.free->∃ c,cl.lookup x.1=some c)
 | [],acc,_,h=>⟨acc,rfl,h,fun x c e=>⟨c,e⟩,fun x hx=>by simp at hx⟩
 | (n,k) :: ns,acc,hf,h=>by
  by_cases hk:k=NameKind.free
  ·obtain ⟨c,hc⟩:=hf (n,k) List.mem_cons_self hk
   have h' :∀ x d,((n,c) :: acc).lookup x=some d->env.cells.lookup x=some d:=fun x d e=>by
    by_cases hx:x=n
    ·subst hx
     have e' :some c=some d:=by simpa [List.lookup_cons] using e
     cases e'; exact hc
    ·have e' :acc.lookup x=some d:=by
      rw [List.lookup_cons,(beq_eq_false_iff_ne.mpr hx)] at e; exact e
     exact h x d e'
   obtain ⟨cl,e,h1,h2,h3⟩:=wA ns ((n,c) :: acc) (fun x hx=>hf x (List.mem_cons_of_mem _ hx)) h'
   refine ⟨cl, ?_,h1,fun x d ed=> ?_,fun x hx hxf=> ?_⟩
   ·rw [List.forIn_cons]
    subst hk
    have q:cellOf env n=pure c:=by unfold cellOf; rw [hc]
    simp only [beq_self_eq_true,if_true,q]
    exact e
   ·by_cases hx:x=n
    ·subst hx; exact h2 x c (by simp [List.lookup_cons])
    ·exact h2 x d (by rw [List.lookup_cons,(beq_eq_false_iff_ne.mpr hx)]; exact ed)
   ·rcases List.mem_cons.mp hx with rfl | hx
    ·exact h2 n c (by simp [List.lookup_cons])
    ·exact h3 x hx hxf
  ·obtain ⟨cl,e,h1,h2,h3⟩:=wA ns acc (fun x hx=>hf x (List.mem_cons_of_mem _ hx)) h
   refine ⟨cl, ?_,h1,h2,fun x hx hxf=> ?_⟩
   ·rw [List.forIn_cons]
    have q:(k == NameKind.free)=false:=by simpa using hk
    simp only [q,Bool.false_eq_true,if_false]
    exact e
   ·rcases List.mem_cons.mp hx with rfl | hx
    ·exact absurd hxf hk
    ·exact h3 x hx hxf
theorem xi {scope:Scope} {env:Env} (hf:∀ x∈scope.names,x.2=NameKind.free->∃ c,env.cells.lookup x.1=some c):
  ∃ cl,closureFor scope env=pure cl/\(∀ x c,cl.lookup x=some c->env.cells.lookup x=some c)/\(∀ x∈scope.names,x.2=NameKind.free->∃ c,cl.lookup x.1=some c):=by
 obtain ⟨cl,e,h1,_,h3⟩:=wA scope.names [] hf (fun x c e=>by simp at e)
 refine ⟨cl, ?_,h1,h3⟩
 unfold closureFor
 show (do let cs ← _; pure cs)=_
 exact (by simpa using e)
def cxC (X:Cx) (scope:Scope) (N' :List Str) (cl:List (Str×Addr)) (C:Addr) (s3:Shared) (H3:Hp) (fp:List Addr) (pins:List (Addr×Obj)):Cx:=
 { X with N:=N',s₀:=s3,H₀:=H3,env:=compEnvC scope cl C X.env,outer:=X.stack,stack:=X.stack,ex:=fp,fn:=fun _=>false,pn:=X.pn++pins,xe:=fun _ _=>False }
structure CSc (X:Cx) (scope:Scope):Prop where
 kind:scope.kind= .function
 nocell:∀ x∈scope.names,x.2 ≠ .cell
 loc:∀ x∈scope.names,x.2= .local->scope.names.lookup x.1=some .local
 fre:∀ x∈scope.names,x.2= .free->X.env.kindOf x.1=some .cell\/X.env.kindOf x.1=some .free
theorem Jw {scope:Scope} {env:Env} {x:Str} {k:NameKind} (h:(relabel scope env).names.lookup x=some k) (hk:k= .cell\/k= .free) (hn:∀ x∈scope.names,x.2 ≠ NameKind.cell):∃ y∈scope.names,y.1=x/\y.2= .free:=by
 have go:∀ ns:List (Str×NameKind),(∀ x∈ns,x.2 ≠ NameKind.cell)->(ns.map fun (n,k)=>if (k == NameKind.free && env.scope.kind == .function && env.kindOf n == some .cell) then (n,NameKind.cell) else (n,k)).lookup x=some k->∃ y∈ns,y.1=x/\y.2= .free:=by
  intro ns
  induction ns with
  | nil=>intro _ h; simp at h
  | cons y ns ih=>
   intro hn h
   obtain ⟨n,k'⟩:=y
   by_cases hx:x=n
   ·subst hx
    refine ⟨(x,k'),List.mem_cons_self,rfl, ?_⟩
    rw [List.map_cons] at h
    by_cases hc:(k' == NameKind.free && env.scope.kind == .function && env.kindOf x == some .cell)=true
    ·rw [Bool.and_eq_true,Bool.and_eq_true] at hc
     exact eq_of_beq hc.1.1
    ·simp only [if_neg hc,List.lookup_cons,beq_self_eq_true] at h
     cases h
     rcases hk with rfl | rfl
     ·exact absurd rfl (hn _ List.mem_cons_self)
     ·rfl
   ·obtain ⟨z,hz,h1,h2⟩:=ih (fun z hz=>hn z (List.mem_cons_of_mem _ hz)) (by
     rw [List.map_cons] at h
     by_cases hc:(k' == NameKind.free && env.scope.kind == .function && env.kindOf n == some .cell)=true
     ·simp only [if_pos hc,List.lookup_cons,(beq_eq_false_iff_ne.mpr hx)] at h; exact h
     ·simp only [if_neg hc,List.lookup_cons,(beq_eq_false_iff_ne.mpr hx)] at h; exact h)
    exact ⟨z,List.mem_cons_of_mem _ hz,h1,h2⟩
 exact go scope.names hn h
section
variable {X:Cx} {pins:List (Addr×Obj)} {σ:Sg} {H:Hp} {s:Shared}
theorem YY {scope:Scope} {N' :List Str} {cl:List (Str×Addr)} {fp:List Addr} {h' :Heap} {tk:Nat} {σ' :Sg} (I:L2.Inv X pins σ H s) (S:CSc X scope) (hc:X.calm=true)
  (hcl:∀ x c,cl.lookup x=some c->X.env.cells.lookup x=some c) (hcf:∀ x∈scope.names,x.2=NameKind.free->∃ c,cl.lookup x.1=some c)
  (hfp:∀ b∈fp,uY X pins H b) (hfo:∀ b∈fp,∃ o,s.heap.get? b=some o)
  (hns:h'.Ns s.heap.objs.size (fun _=>none)) (hk:∀ b o,s.heap.get? b=some o->h'.get? b=some o)
  (hl:σ'.length=N'.length) (hσ:∀ (i:Nat) (x:Str) (v:V),N'[i]? =some x->σ'[i]? =some (some v)->∃ j:Nat,X.N[j]? =some x/\σ[j]? =some (some v)/\Vis X.env.scope x/\(scope.names.lookup x=some .free)/\(X.env.kindOf x=some .cell\/X.env.kindOf x=some .free)):
  L2.Inv (cxC X scope N' cl s.heap.objs.size s H fp pins) [] σ' H { s with heap:=h',toks:=tk }:=by
 have stk:=I.stkSub
 have hlt:∀ b∈fp,b < s.heap.objs.size:=fun b hb=>let ⟨o,e⟩:=hfo b hb; Heap.lt_size e
 have fresh:H s.heap.objs.size=none:=I.hok.fresh (Nat.le_refl _)
 refine ⟨⟨I.ok.mod,S.kind,I.ok.glob,I.ok.blt,Nat.le_refl _,fun x y c h1 h2=>I.ok.inj x y c (hcl _ _ h1) (hcl _ _ h2),fun x hx=> ?_,fun x c h _=>(Bool.false_ne_true h).elim,fun _=>I.ok.hd hc,I.ok.frames, .inl rfl,fun b hb=> ?_,I.bs,
   Nat.le_trans I.ok.bsz I.sz,fun b o e hb=> ?_,fun b hb hb' => ?_,I.stack,I.stkFree⟩,rfl,I.bare,Un.kept hk,⟨_,hns,fun i x v h1 h2 h3=> ?_⟩,fun x c e=> ?_,fresh,fun x c e=>I.freeC x c (hcl _ _ e),fun p hp=> ?_,I.hok.kept hk,hl⟩
 ·have hx' :(relabel scope X.env).names.lookup x=some .cell\/(relabel scope X.env).names.lookup x=some .free:=hx
  obtain ⟨y,hy,rfl,hyf⟩:∃ y∈scope.names,y.1=x/\y.2= .free:=by
   rcases hx' with h | h
   ·exact Jw h (.inl rfl) S.nocell
   ·exact Jw h (.inr rfl) S.nocell
  exact hcf y hy hyf
 ·refine ⟨Nat.ne_of_lt (hlt b hb),fun x c e=>(hfp b hb).2.2.2.2.1 x c (hcl _ _ e)⟩
 ·rcases (hfp b hb).2.2.2.1 with h | h
  ·exact I.ok.noex b o e h
  ·exact absurd (Nat.lt_of_lt_of_le (Heap.lt_size e) (Nat.le_trans I.ok.bsz h)) (Nat.lt_irrefl _)
 ·have q:=hfp b hb
  rcases List.mem_cons.mp (stk b hb') with z | z
  ·exact q.2.1 z
  ·exact q.2.2.1 z
 ·obtain ⟨j,e1,e2,e3,e4,e5⟩:=hσ i x v h1 h2
  obtain ⟨m,hn,hloc⟩:=I.loc
  obtain ⟨u,ru,lk⟩:=hloc j x v e1 e2 e3
  refine ⟨u,ru, .inr ⟨?_, ?_⟩⟩
  ·have h3:Vis (relabel scope X.env) x:=h3
   rcases h3 with h | h | h
   ·exfalso
    have:∀ ns:List (Str×NameKind),ns.lookup x=some .free->(ns.map fun (n,k)=>if (k == NameKind.free && X.env.scope.kind == .function && X.env.kindOf n == some .cell) then (n,NameKind.cell) else (n,k)).lookup x ≠ some .local:=by
     intro ns
     induction ns with
     | nil=>intro z; simp at z
     | cons y ns ih=>
      obtain ⟨n,k⟩:=y
      intro z w
      rw [List.map_cons] at w
      by_cases hx:x=n
      ·subst hx
       have hkf:some k=some NameKind.free:=by simpa [List.lookup_cons] using z
       by_cases hcn:(k == NameKind.free && X.env.scope.kind == .function && X.env.kindOf x == some .cell)=true
       ·simp only [if_pos hcn,List.lookup_cons,beq_self_eq_true] at w; cases w
       ·simp only [if_neg hcn,List.lookup_cons,beq_self_eq_true] at w
        rw [hkf] at w; cases w
      ·have z' :ns.lookup x=some .free:=by rw [List.lookup_cons,(beq_eq_false_iff_ne.mpr hx)] at z; exact z
       refine ih z' ?_
       by_cases hcn:(k == NameKind.free && X.env.scope.kind == .function && X.env.kindOf n == some .cell)=true
       ·simp only [if_pos hcn,List.lookup_cons,(beq_eq_false_iff_ne.mpr hx)] at w; exact w
       ·simp only [if_neg hcn,List.lookup_cons,(beq_eq_false_iff_ne.mpr hx)] at w; exact w
    exact this _ e4 h
   ·exact .inl h
   ·exact .inr h
  ·rcases lk with ⟨hk',_⟩ | ⟨_,c,hc',hcell⟩
   ·rcases e5 with z | z <;> (rw [z] at hk'; cases hk')
   ·obtain ⟨c',hc2⟩:=hcf (x, .free) (PySem.mem_of_lookup e4) rfl
    have:=hcl x c' hc2
    rw [hc'] at this; cases this
    obtain ⟨o,eo,ed⟩:=hcell
    exact ⟨c,hc2,o,hk _ _ eo,ed⟩
 ·obtain ⟨v,o,eo,ed⟩:=I.cell x c (hcl _ _ e)
  exact ⟨v,o,hk _ _ eo,ed⟩
 ·have hp' :p∈X.pn++pins:=by
   have:p∈(X.pn++pins)++[]:=hp
   rwa [List.append_nil] at this
  obtain ⟨e,n,ne,nf,dc⟩:=I.pin p hp'
  refine ⟨hk _ _ e,n,Nat.ne_of_lt (Heap.lt_size e),fun hb=> ?_,dc⟩
  rcases List.mem_cons.mp (stk _ hb) with z | z
  ·exact ne z
  ·exact nf z
end
def PIf (X:Cx) (ifs:List Expr) (t:TT):Prop:=
 ∀ (pins:List (Addr×Obj)) (s:Shared) (σ:Sg) (H:Hp) (Q:Bool->Hp->Prop),L2.Inv X pins σ H s->t σ H Q->
  wpAny (model X.prog X.w) X.A (forIn ifs true fun c r=>if r=true then do let ok ← isTrue c X.env (eval c X.env); pure (ForInStep.yield ok) else pure (ForInStep.yield r)) (TP X pins σ Q) X.xe s
theorem xj {X:Cx}:PIf X [] (fun _ H Q=>Q true H):=fun _ _ σ H _ I h=>wpAny_tests_nil ⟨H,I,h⟩
theorem xk {X:Cx} {c:Expr} {t:TT} (h:PT X c t):PIf X [c] t:=fun pins s σ H Q I q=>wpAny_tests_one (h pins s σ H Q I q)
theorem Wt {α:Type} {M:Model} {A:Around} {m:Sem α} {Q:α->Shared->Prop} {E E' :Value->Shared->Prop} {s:Shared} (hE:E' =fun _ _=>False) (h:wpAny M A m Q E' s):wpAny M A m Q E s:=wpAny_mono h (fun _ _ q=>q) fun e s' z=>by
 rw [hE] at z; exact z.elim
def xl (J:It) (D:Addr) (g:TG) (tt:TT) (te:TE) (fin:Sg->Hp->Prop) (W:Nat->Nat->List V->Sg->Hp->Prop):Prop:=
 ∀ i m ys σ H,W i m ys σ H->H D=some (.lst ys)/\((J.stop i H/\fin σ H)\/(J.go i H/\∀ x H2,J.yld i H x H2->g x σ H2 fun σ3 H3=>tt σ3 H3 fun k H4=>
  if k=true then te σ3 H4 fun v H5=>H5 D=some (.lst ys)/\ys.length < sizeLine/\∃ m',m' < m/\W (i+1) m' (ys++[v]) σ3 (upd H5 D (.lst (ys++[v]))) else ∃ m',m' < m/\W (i+1) m' ys σ3 H4))
theorem YZ {X:Cx} (hx:X.xe=fun _ _=>False) (hc:X.calm=true) {tg iter elt:Expr} {ifs:List Expr} {scope:Scope} {pos:Pos} {J:It} {fp:List Addr} {it:Addr} {tn:Nat->Heap->Prop} (TJ:Qx X.prog X.w X.K tg J fp it tn)
  {g:TG} {tt:TT} {te:TE} (hg:PG X tg g) (ht:PIf X ifs tt) (he:PE X elt te) {D:Addr} {R:Result->Shared->Prop} {fin:Sg->Hp->Prop} (W:Nat->Nat->List V->Sg->Hp->Prop) (turn:xl J D g tt te fin W)
  (hR:∀ s σ H,L2.Inv X [] σ H s->fin σ H->R (.ok .next) s) {m0:Nat} {σ0:Sg} {H0:Hp} {s0:Shared} (w0:W 0 m0 [] σ0 H0) (I0:L2.Inv X [] σ0 H0 s0) (t0:tn 0 s0.heap) (f0:∀ b∈fp,uY X [] H0 b):
  codeAny (model X.prog X.w) X.A (.compLoop (.ListComp elt [⟨tg,iter,ifs,0⟩] scope pos) 0 (.ref it) (.ref D) X.env) R s0:=by
 have stat:∀ {H' :Hp},(∀ b∈fp,H' b=none)->∀ b∈fp,uY X [] H' b:=fun hn b hb=>⟨hn b hb,(f0 b hb).2⟩
 refine codeAny_loop rfl (fun n s' =>∃ i ys σ' H',L2.Inv X [] σ' H' s' /\tn i s'.heap/\(∀ b∈fp,H' b=none)/\W i n ys σ' H') (fun n s3 h3=> ?_) m0 ⟨0,[],σ0,H0,I0,t0,fun b hb=>(f0 b hb).1,w0⟩
 obtain ⟨i,ys,σ3,H3,I3,st3,fr3,w3⟩:=h3
 show wpAny _ X.A ((compTurn (.ListComp elt [⟨tg,iter,ifs,0⟩] scope pos) 0 (.ref it) (.ref D) X.env).onRaise (fun x=>do noteFrame x X.env; theTreesLotGoes x)) _ _ s3
 refine wpAny_noted ?_
 rw [compTurn_list]
 obtain ⟨hD,h⟩:=turn i n ys σ3 H3 w3
 rcases h with ⟨stop,qn⟩ | ⟨go,next⟩
 ·refine wpAny_bind (wpAny_standAt (wpAny_bind (thn (TJ.done X rfl rfl rfl hc i [] s3 σ3 H3 _ I3 (stat fr3) st3 stop) fun r s4 ⟨hr,I4⟩=> ?_)))
  subst hr
  exact wpAny_pure (hR s4 σ3 H3 I4 qn)
 ·refine wpAny_bind (wpAny_standAt (wpAny_bind (thn (TJ.item X rfl rfl rfl hc i [] s3 σ3 H3 _ I3 (stat fr3) st3 go) fun r s4 ⟨u,hr,h4⟩=> ?_)))
  subst hr
  refine wpAny_bind (thn h4 fun _ s5 ⟨x,H5,I5,r5,y5,st5,fr5⟩=> ?_)
  have I5' :=I5.pinned (stat fr5) (TJ.obj _ _ st5)
  refine wpAny_bind (Wt hx (thn (hg _ s5 σ3 H5 x u _ I5' r5 (next x H5 y5)) fun _ s6 ⟨σ6,H6,I6,q6⟩=> ?_))
  have again:∀ {σ7:Sg} {H7:Hp} {s7:Shared} {ys' :List V},L2.Inv X ([]++u6 fp s5.heap) σ7 H7 s7->(∃ m',m' < n/\W (i+1) m' ys' σ7 H7)->∃ m,m < n/\∃ i ys σ' H',L2.Inv X [] σ' H' s7/\tn i s7.heap/\(∀ b∈fp,H' b=none)/\W i m ys σ' H' :=fun {σ7 H7 s7 ys'} I7 ⟨m',hm,w7⟩=>by
   refine ⟨m',hm,i+1,ys',σ7,H7,I7.unpinned,TJ.keep _ _ _ st5 fun b hb o e=>(I7.pin (b,o) (List.mem_append_right _ (List.mem_append_right _ (jY hb e)))).1,fun b hb=> ?_,w7⟩
   obtain ⟨o,e,d⟩:=TJ.obj _ _ st5 b hb
   exact (I7.pin (b,o) (List.mem_append_right _ (List.mem_append_right _ (jY hb e)))).2.1
  refine wpAny_bind (Wt hx (thn (ht _ s6 σ6 H6 _ I6 q6) fun k s7 ⟨H7,I7,q7⟩=> ?_))
  cases k with
  | false=>exact wpAny_pure ⟨rfl,again I7 q7⟩
  | true=>
   refine wpAny_bind (wpAny_bind (Wt hx (thn (he _ s7 σ6 H7 _ I7 q7) fun v s8 ⟨y,H8,I8,r8,hD8,hlen,q8⟩=> ?_)))
   refine wpAny_bind (Wt hx (thn (ue _ s8 σ6 H8 (.ref D) [y] (.ref D) [v] (fun _ H9=>∃ m',m' < n/\W (i+1) m' (ys++[y]) σ6 H9) I8 rfl (.cons r8 .nil) ⟨D,ys,y,rfl,rfl,hD8,hlen,q8⟩) fun w s9 ⟨_,H9,I9,_,q9⟩=> ?_))
   exact wpAny_pure (wpAny_pure ⟨rfl,again I9 q9⟩)
def Ve (k:Nat) (js:List Nat) (σ:Sg):Sg:=List.replicate k none++js.map fun j=>(σ[j]?).getD none
section
variable {X:Cx}
abbrev QW (X:Cx) (scope:Scope) (N' :List Str) (P:Cx->Prop):Prop:=∀ cl C s3 H3 fp pins,P (cxC X scope N' cl C s3 H3 fp pins)
structure gR (X:Cx) (scope:Scope) (N' :List Str) (k:Nat) (js:List Nat):Prop where
 len:N'.length=k+js.length
 cap:∀ (i j:Nat),js[i]? =some j->∃ x,N'[k+i]? =some x/\X.N[j]? =some x/\Vis X.env.scope x/\scope.names.lookup x=some .free/\(X.env.kindOf x=some .cell\/X.env.kindOf x=some .free)
theorem Wu {tg iter elt:Expr} {ifs:List Expr} {scope:Scope} {pos pos' :Pos} {N' :List Str} {k:Nat} {js:List Nat} {wi:TI} {g:TG} {tt:TT} {te:TE} {use:Option (Value->Sem Unit)} (S:CSc X scope) (CP:gR X scope N' k js) (hc:X.calm=true)
  (hi:PI X tg iter wi) (hg:QW X scope N' fun XC=>PG XC tg g) (ht:QW X scope N' fun XC=>PIf XC ifs tt) (he:QW X scope N' fun XC=>PE XC elt te) {pins:List (Addr×Obj)} {σ:Sg} {H:Hp} {s:Shared} {Q:Value->Shared->Prop} {F:Addr->Hp->Prop} (I:L2.Inv X pins σ H s)
  (h:wi σ H fun J H1=>∀ D,H1 D=none->∃ W,(∃ m,W 0 m [] (Ve k js σ) (upd H1 D (.lst [])))/\xl J D g tt te (fun _ H' =>F D H') W)
  (hQ:∀ D C H' s',L2.Inv X pins σ H' s' ->F D H' ->H' C=none->(X.s₀.heap.objs.size<=C)->C ≠ X.env.locals->(∀ x c,X.env.cells.lookup x=some c->c ≠ C)->(∀ p∈X.pn++pins,p.1 ≠ C)->(∃ m,s'.heap.Ns C m)->compPost (model X.prog X.w) X.A X.xe use Q (.ref D) C (.ok .next) s')
  (hs:∀ x,foldedSetIterable iter X.env x=pure x:=by intro _; rfl):
  wpAny (model X.prog X.w) X.A (comprehension (.ListComp elt [⟨tg,iter,ifs,0⟩] scope pos) scope X.env pos' (newList []) false (eval iter X.env) use) Q X.xe s:=by
 obtain ⟨cl,ecl,hcl,hcf⟩:=xi (scope:=scope) (env:=X.env) fun x hx hf=>I.ok.has x.1 (S.fre x hx hf)
 refine wpAny_comprehension_free rfl hs ecl S.kind S.loc ?_
 refine thn (hi pins s σ H _ I h) fun v s1 h1=>thn h1 fun itv s2 h2=> ?_
 obtain ⟨it,fp,tn,J,H2,e,I2,TJ,st2,f2,q2⟩:=h2
 subst e
 refine wpAny_newObj_type ?_
 have hD:H2 s2.heap.objs.size=none:=I2.hok.fresh (Nat.le_refl _)
 have I3:L2.Inv X pins σ (upd H2 s2.heap.objs.size (.lst [])) { s2 with heap:=s2.heap.push { cls:= .type "list",data:= .seq ([]:List Value).toArray } }:=
  I2.laid (t' :=s2.toks) (fun b u e=>Heap.get?_push_of_some _ e) (Nat.le_refl _) ⟨Nat.zero_le _,[],_, .nil,Heap.get?_push_size _ rfl⟩
 obtain ⟨W,⟨m0,w0⟩,turn⟩:=q2 s2.heap.objs.size hD
 have f3:∀ b∈fp,uY X pins (upd H2 s2.heap.objs.size (.lst [])) b:=fun b hb=>by
  obtain ⟨o,eo,_⟩:=TJ.obj _ _ st2 b hb
  exact ⟨by rw [zD (Nat.ne_of_lt (Heap.lt_size eo))]; exact (f2 b hb).1,(f2 b hb).2⟩
 have o3:∀ b∈fp,∃ o,(s2.heap.push { cls:= .type "list",data:= .seq ([]:List Value).toArray }).get? b=some o:=fun b hb=>by
  obtain ⟨o,eo,_⟩:=TJ.obj _ _ st2 b hb
  exact ⟨o,Heap.get?_push_of_some _ eo⟩
 refine wpAny_newFunctionEnv S.nocell (by intro y hy; simp at hy) (fun h4 hns4 hsb4=> ?_) S.kind
 generalize hG:s2.heap.push { cls:= .type "list",data:= .seq ([]:List Value).toArray }=G3 at I3 o3 hns4 hsb4 ⊢
 dsimp only at hns4 hsb4 ⊢
 have s3e:∃ s3:Shared,s3={ s2 with heap:=G3 }:=⟨_,rfl⟩
 obtain ⟨s3,es3⟩:=s3e
 have hh3:s3.heap=s2.heap.push { cls:= .type "list",data:= .seq ([]:List Value).toArray }:=by rw [es3,hG]
 have hg3:G3=s3.heap:=by rw [es3]
 rw [← es3] at I3
 have ht3:s2.toks=s3.toks:=by rw [es3]
 rw [hg3] at hns4 hsb4 o3
 have k4:∀ b o,s3.heap.get? b=some o->h4.get? b=some o:=fun b o e=>hsb4.extBut b o (Nat.ne_of_lt (Heap.lt_size e)) (Heap.get?_push_of_some _ e)
 have IC:=YY (N' :=N') (cl:=cl) (fp:=fp) (σ' :=Ve k js σ) (tk:=s3.toks+([]:List (Str×Value)).length) I3 S hc hcl hcf f3 o3 hns4 k4 (by unfold Ve; simp [CP.len]) (fun i x v h1 h2=>by
  unfold Ve at h2
  by_cases hik:i < k
  ·rw [List.getElem?_append_left (by simpa using hik),List.getElem?_replicate,if_pos hik] at h2
   cases h2
  ·have hk' :k<=i:=by omega
   rw [List.getElem?_append_right (by simpa using hk'),List.length_replicate,List.getElem?_map] at h2
   cases ej:js[i - k]? with
   | none=>rw [ej] at h2; cases h2
   | some j=>
    rw [ej] at h2
    obtain ⟨y,e1,e2,e3,e4,e5⟩:=CP.cap (i - k) j ej
    have:k+(i - k)=i:=by omega
    rw [this,h1] at e1
    cases e1
    refine ⟨j,e2, ?_,e3,e4,e5⟩
    have h2' :some ((σ[j]?).getD none)=some (some v):=h2
    cases ez:σ[j]? with
    | none=>rw [ez] at h2'; cases h2'
    | some z=>rw [ez] at h2'; exact congrArg some (Option.some.inj h2'))
 have TC:Qx (cxC X scope N' cl s3.heap.objs.size s3 (upd H2 s2.heap.objs.size (.lst [])) fp pins).prog (cxC X scope N' cl s3.heap.objs.size s3 (upd H2 s2.heap.objs.size (.lst [])) fp pins).w (cxC X scope N' cl s3.heap.objs.size s3 (upd H2 s2.heap.objs.size (.lst [])) fp pins).K tg J fp it tn:=TJ
 have t4:tn 0 h4:=TJ.keep _ _ _ st2 fun b hb o e=>k4 b o (by rw [hh3]; exact Heap.get?_push_of_some _ e)
 have fC:∀ b∈fp,uY (cxC X scope N' cl s3.heap.objs.size s3 (upd H2 s2.heap.objs.size (.lst [])) fp pins) [] (upd H2 s2.heap.objs.size (.lst [])) b:=fun b hb=>by
  obtain ⟨q0,q1,q2,q3,q4,q5⟩:=f3 b hb
  obtain ⟨o,eo⟩:=o3 b hb
  refine ⟨q0,Nat.ne_of_lt (Heap.lt_size eo),fun hb' => ?_, .inl hb,fun x c e=>q4 x c (hcl _ _ e),fun p hp=> ?_⟩
  ·rcases List.mem_cons.mp (I3.stkSub b hb') with z | z
   ·exact q1 z
   ·exact q2 z
  ·exact q5 p (by
    have:p∈(X.pn++pins)++[]:=hp
    rwa [List.append_nil] at this)
 have fin:∀ (s5:Shared) (σ5:Sg) (H5:Hp),L2.Inv (cxC X scope N' cl s3.heap.objs.size s3 (upd H2 s2.heap.objs.size (.lst [])) fp pins) [] σ5 H5 s5->F s2.heap.objs.size H5->compPost (model X.prog X.w) X.A X.xe use Q (.ref s2.heap.objs.size) s3.heap.objs.size (.ok .next) s5:=fun s5 σ5 H5 I5 q5=>by
  have J5:L2.Inv X pins σ H5 s5:=I3.call' (ch:=fp) I5.os I5.base I5.hok I5.bare fun b hb=>by
   obtain ⟨q0,q1,q2,q3,q4,q5⟩:=f3 b hb
   exact ⟨q3,q1,q4,q5⟩
  refine hQ _ _ H5 s5 J5 q5 I5.free I3.sz (Nat.ne_of_gt I3.lt) (fun x c e z=> ?_) (fun p hp z=> ?_) (let ⟨m,hm,_⟩:=I5.loc; ⟨m,hm⟩)
  ·obtain ⟨v',o,eo,_⟩:=I3.cell x c e
   exact absurd (Heap.lt_size eo) (by rw [z]; exact Nat.lt_irrefl _)
  ·exact absurd (Heap.lt_size (I3.pin p hp).1) (by rw [z]; exact Nat.lt_irrefl _)
 have loop:=YZ (X:=cxC X scope N' cl s3.heap.objs.size s3 (upd H2 s2.heap.objs.size (.lst [])) fp pins) (iter:=iter) (scope:=scope) (pos:=pos) (R:=compPost (model X.prog X.w) X.A X.xe use Q (.ref s2.heap.objs.size) s3.heap.objs.size) rfl hc TC (hg _ _ _ _ _ _) (ht _ _ _ _ _ _) (he _ _ _ _ _ _) W turn fin w0 IC t4 fC
 rw [es3] at loop
 exact codeAny_compStart_list loop (TJ.self _ _ _ _ _ t4 loop)
end
def zZ (g:T->En->R En) (ft:En->R Bool) (fe:En->R T):List T->En->R (List T)
 | [],_=> .ok []
 | t :: ts,ρ=>(g t ρ).bind fun ρ1=>(ft ρ1).bind fun k=>if k=true then (fe ρ1).bind fun v=>(zZ g ft fe ts ρ1).bind fun vs=> .ok (v :: vs) else zZ g ft fe ts ρ1
def QX:Option Sl->Sl
 | some (.vl t)=> .vl t
 | _=> .un
def wY (k:Nat) (js:List Nat) (ρ:En):En:=List.replicate k .un++js.map fun j=>QX ρ[j]?
def quiet {α:Type}:R α->R α
 | .ok a=> .ok a
 | _=> .bad
def zG (g:T->En->R En) (ft:En->R Bool) (fe:En->R T) (k:Nat) (js:List Nat) (ρ:En) (ts:List T):R (List T):=if ts.length<=bnd then quiet (zZ g ft fe ts (wY k js ρ)) else .bad
def zQ (fi:En->R (List T)) (g:T->En->R En) (ft:En->R Bool) (fe:En->R T) (k:Nat) (js:List Nat):En->R T:=fun ρ=>(fi ρ).bind fun ts=>(zG g ft fe k js ρ ts).bind fun vs=> .ok (.lst vs)
def GOk (tG:TG) (g:T->En->R En):Prop:=∀ Y B ρ σ H v x Q,SI Y B ρ σ H->Rep B v x->(match g x ρ with | .ok ρ' =>∀ σ',SI Y B ρ' σ' H->Q σ' H | _=>False)->tG v σ H Q
theorem zA (i:Nat):GOk (u5 i) (zw i):=fun Y B ρ σ H v x Q I r q=>q _ (I.setV i r)
theorem Jx (K:PySem.W.Frag) (i j:Nat):GOk (gs K 2 (Yg (u5 i) (Yg (u5 j) gr))) (Zt i j):=fun Y B ρ σ H v t Q I r q=>by
 cases r with
 | @tup l xs ts h r=>
  cases r with
  | nil=>exact q.elim
  | cons r1 rr=>
   cases rr with
   | nil=>exact q.elim
   | cons r2 rr=>
    cases rr with
    | cons _ _=>exact q.elim
    | nil=>exact ⟨l,_,rfl,SqT.of (I.sB _ _ h),rfl,_,_,rfl,_,_,rfl,rfl,q _ ((I.setV i r1).setV j r2)⟩
 | _=>exact q.elim
theorem SI.block {Y:Fx} {B:Hp} {ρ:En} {σ:Sg} {H H3:Hp} {D:Addr} (I:SI Y B ρ σ H) (k:Nat) (js:List Nat) (E:XK) (hD:H D=none) (o:HO):SI ⟨B,H,E,Y.cl⟩ B (wY k js ρ) (Ve k js σ) (upd H D o) where
 s0:=I.sB
 sH:=zK.new hD _
 sB:=I.sB.trans (zK.new hD _)
 old:=fun _ _ _=>rfl
 len:=by unfold wY Ve; simp
 vl:=fun i t h=>by
  unfold wY at h
  unfold Ve
  by_cases hik:i < k
  ·rw [List.getElem?_append_left (by simpa using hik),List.getElem?_replicate,if_pos hik] at h; cases h
  ·have hk' :k<=i:=by omega
   rw [List.getElem?_append_right (by simpa using hk'),List.length_replicate,List.getElem?_map] at h ⊢
   cases ej:js[i - k]? with
   | none=>rw [ej] at h; cases h
   | some j=>
    rw [ej] at h
    have h' :QX ρ[j]? = .vl t:=Option.some.inj h
    unfold QX at h'
    split at h'
    ·rename_i u e
     cases h'
     obtain ⟨v,e1,r⟩:=I.vl j _ e
     exact ⟨v,by show some ((σ[j]?).getD none)=_; rw [e1]; rfl,r⟩
    ·cases h'
 ow:=fun i ts h=>by
  exfalso
  unfold wY at h
  by_cases hik:i < k
  ·rw [List.getElem?_append_left (by simpa using hik),List.getElem?_replicate,if_pos hik] at h; cases h
  ·have hk' :k<=i:=by omega
   rw [List.getElem?_append_right (by simpa using hk'),List.length_replicate,List.getElem?_map] at h
   cases ej:js[i - k]? with
   | none=>rw [ej] at h; cases h
   | some j=>
    rw [ej] at h
    have h' :QX ρ[j]? = .ow ts:=Option.some.inj h
    unfold QX at h'
    split at h' <;> cases h'
 xc:=fun i c h=>by
  exfalso
  unfold wY at h
  by_cases hik:i < k
  ·rw [List.getElem?_append_left (by simpa using hik),List.getElem?_replicate,if_pos hik] at h; cases h
  ·have hk' :k<=i:=by omega
   rw [List.getElem?_append_right (by simpa using hk'),List.length_replicate,List.getElem?_map] at h
   cases ej:js[i - k]? with
   | none=>rw [ej] at h; cases h
   | some j=>
    rw [ej] at h
    have h' :QX ρ[j]? = .xc c:=Option.some.inj h
    unfold QX at h'
    split at h' <;> cases h'
theorem SI.acc {Y:Fx} {B:Hp} {ρ:En} {σ:Sg} {H:Hp} {D:Addr} (I:SI Y B ρ σ H) (hb:B D=none) (h0:Y.H0 D=none) (ho:∀ (i:Nat) (ts:List T),ρ[i]? =some (Sl.ow ts)->σ[i]? ≠ some (some (V.ref D))) (o:HO):SI Y B ρ σ (upd H D o) where
 s0:=I.s0
 sH:=fun b u h=>by
  rw [zD (fun z=>by subst z; rw [h0] at h; cases h)]; exact I.sH b u h
 sB:=fun b u h=>by
  rw [zD (fun z=>by subst z; rw [hb] at h; cases h)]; exact I.sB b u h
 old:=I.old
 len:=I.len
 vl:=I.vl
 ow:=fun i ts h=>by
  obtain ⟨a,xs,e,b0,h0',hh,r,d⟩:=I.ow i ts h
  refine ⟨a,xs,e,b0,h0', ?_,r,d⟩
  rw [zD (fun z=>ho i ts h (by rw [e,z]))]; exact hh
 xc:=I.xc
def xm (ρ:En):Prop:=∀ (i:Nat) (ts:List T),ρ[i]? ≠ some (Sl.ow ts)
theorem QY (k:Nat) (js:List Nat) (ρ:En):xm (wY k js ρ):=fun i ts h=>by
 unfold wY at h
 by_cases hik:i < k
 ·rw [List.getElem?_append_left (by simpa using hik),List.getElem?_replicate,if_pos hik] at h; cases h
 ·have hk' :k<=i:=by omega
  rw [List.getElem?_append_right (by simpa using hk'),List.length_replicate,List.getElem?_map] at h
  cases ej:js[i - k]? with
  | none=>rw [ej] at h; cases h
  | some j=>
   rw [ej] at h
   have h' :QX ρ[j]? = .ow ts:=Option.some.inj h
   unfold QX at h'
   split at h' <;> cases h'
theorem Wv {ρ:En} {i:Nat} {t:T} (h:xm ρ):xm (ρ.set i (.vl t)):=fun j ts e=>by
 rcases zT e with ⟨_,z⟩ | ⟨_,z⟩
 ·cases z
 ·exact h j ts z
def GNo (g:T->En->R En):Prop:=∀ t ρ ρ',xm ρ->g t ρ= .ok ρ' ->xm ρ'
theorem zB (i:Nat):GNo (zw i):=fun t ρ ρ' h e=>by
 cases e; exact Wv h
theorem Jy (i j:Nat):GNo (Zt i j):=fun t ρ ρ' h e=>by
 unfold Zt at e
 split at e
 ·cases e; exact Wv (Wv h)
 ·cases e
section
variable {X:Cx} {Y:Fx} {tg iter elt:Expr} {ifs:List Expr} {scope:Scope} {pos pos' :Pos} {N' :List Str} {k:Nat} {js:List Nat} {fi:En->R (List T)} {tG:TG} {g:T->En->R En} {ft:En->R Bool} {fe:En->R T}
structure yP (X:Cx) (Y:Fx) (ifs:List Expr) (f:En->R Bool):Prop where
 mk ::
 go:∀ ρ,PIf X ifs (tS Y rE f ρ)
instance {X:Cx} {Y:Fx} {ifs:List Expr} {f:En->R Bool}:CoeFun (yP X Y ifs f) fun _=>∀ ρ,PIf X ifs (tS Y rE f ρ):=⟨yP.go⟩
theorem PIf.imp {X:Cx} {e:List Expr} {t t' :TT} (h:PIf X e t) (i:∀ σ H Q,t' σ H Q->t σ H Q):PIf X e t' :=fun pins s σ H Q I q=>h pins s σ H Q I (i σ H Q q)
def Zc:En->R Bool:=fun _=> .ok true
theorem Zx {X:Cx}:yP X Y [] Zc:= .mk fun ρ=>PIf.imp xj fun σ H Q ⟨B,I,q⟩=>jc I q rfl
theorem Jg {X:Cx} {c:Expr} (h:uh X Y c ft):yP X Y [c] ft:= .mk fun ρ=>xk (h ρ)
theorem wC {B1 H1:Hp} {σ:Sg} {ρ:En} {J:It} {ts vs:List T} {D:Addr} (hG:GOk tG g) (hN:GNo g) (I:SI Y B1 ρ σ H1) (rI' :rI B1 H1 J ts) (hl:ts.length<=bnd) (ev:zZ g ft fe ts (wY k js ρ)= .ok vs) (hD:H1 D=none) {F:Hp->Prop}
  (hF:∀ H' xs B',zK H1 H' ->H' D=some (.lst xs)->zY B' xs vs->zK B' (Z5 B1 H1 H')->B' D=none->zK B1 B' ->F H'):
  ∃ W,(∃ m,W 0 m [] (Ve k js σ) (upd H1 D (.lst [])))/\xl J D tG (fun σ H Q=>∃ Y' ρ',Y'.cl=Y.cl/\tS Y' rE ft ρ' σ H Q) (fun σ H Q=>∃ Y' ρ',Y'.cl=Y.cl/\tS Y' rC fe ρ' σ H Q) (fun _ H' =>F H') W:=by
 refine ⟨fun i m ys σ' H' =>m=ts.length - i/\i<=ts.length/\ys.length<=i/\H' D=some (.lst ys)/\∃ ρ' B' us ws,SI ⟨B1,H1,fun _ _ _=>False,Y.cl⟩ B' ρ' σ' H' /\xm ρ' /\zK B1 B' /\B' D=none/\zY B' ys us/\zZ g ft fe (ts.drop i) ρ' = .ok ws/\us++ws=vs,
  ⟨ts.length,by simp,Nat.zero_le _,Nat.zero_le _,Zb,_,B1,[],vs,I.block (H3:=H1) k js _ hD _,QY k js ρ,zK.refl _,I.sB.free hD, .nil,ev,rfl⟩, ?_⟩
 rintro i m ys σ' H' ⟨rfl,hi,hyl,hDl,ρ',B',us,ws,I',no',s1',bD,r',ew,eall⟩
 refine ⟨hDl, ?_⟩
 obtain ⟨hgo,hyld,hstop⟩:=rI' B' H' s1' I'.sB
 have tD:∀ H2,zK H' H2->Z5 B' H' H2 D=none:=fun H2 s=>by rw [Zs hDl]; exact bD
 by_cases hlt:i < ts.length
 ·refine .inr ⟨hgo i hlt,fun x H2 y=> ?_⟩
  obtain ⟨s2,r2⟩:=hyld i _ x H2 (List.getElem?_eq_getElem hlt) y
  rw [List.drop_eq_getElem_cons hlt] at ew
  unfold zZ at ew
  have I2:=I'.grow s2
  refine hG _ _ ρ' σ' H2 x _ _ I2 r2 ?_
  cases eg:g ts[i] ρ' with
  | bad=>rw [eg] at ew; cases ew
  | ex c=>rw [eg] at ew; cases ew
  | ok ρ1=>
   rw [eg] at ew
   have no1:xm ρ1:=hN _ _ _ no' eg
   intro σ1 J1
   refine ⟨⟨B1,H1,fun _ _ _=>False,Y.cl⟩,ρ1,rfl,_,J1, ?_⟩
   have ew1:(ft ρ1).bind (fun k=>if k=true then (fe ρ1).bind fun v=>(zZ g ft fe (ts.drop (i+1)) ρ1).bind fun vs=> .ok (v :: vs) else zZ g ft fe (ts.drop (i+1)) ρ1)= .ok ws:=ew
   cases ef:ft ρ1 with
   | bad=>rw [ef] at ew1; cases ew1
   | ex c=>rw [ef] at ew1; cases ew1
   | ok kk=>
    rw [ef] at ew1
    intro b H3 s3 eb
    have eb' :b=kk:=eb
    subst eb'
    have ew2:(if b=true then (fe ρ1).bind fun v=>(zZ g ft fe (ts.drop (i+1)) ρ1).bind fun vs=> .ok (v :: vs) else zZ g ft fe (ts.drop (i+1)) ρ1)= .ok ws:=ew1
    have J2:=J1.grow s3
    have hD3:H3 D=some (.lst ys):=s3 _ _ (s2 _ _ hDl)
    have bD3:Z5 (Z5 B' H' H2) H2 H3 D=none:=by rw [Zs (s2 _ _ hDl)]; exact tD H2 s2
    have sB3:zK B' (Z5 (Z5 B' H' H2) H2 H3):=(Z5.ge I'.sB s2).trans (Z5.ge I2.sB s3)
    cases b with
    | false=>
     have ew3:zZ g ft fe (ts.drop (i+1)) ρ1= .ok ws:=ew2
     exact ⟨ts.length - (i+1),by omega,rfl,hlt,by omega,hD3,ρ1,_,us,ws,J2,no1,s1'.trans sB3,bD3,r'.mono sB3,ew3,eall⟩
    | true=>
     refine ⟨⟨B1,H1,fun _ _ _=>False,Y.cl⟩,ρ1,rfl,_,J2, ?_⟩
     have ew3:(fe ρ1).bind (fun v=>(zZ g ft fe (ts.drop (i+1)) ρ1).bind fun vs=> .ok (v :: vs))= .ok ws:=ew2
     cases ee:fe ρ1 with
     | bad=>rw [ee] at ew3; cases ew3
     | ex c=>rw [ee] at ew3; cases ew3
     | ok v=>
      rw [ee] at ew3
      have ew4:(zZ g ft fe (ts.drop (i+1)) ρ1).bind (fun vs=> .ok (v :: vs))= .ok ws:=ew3
      cases el:zZ g ft fe (ts.drop (i+1)) ρ1 with
      | bad=>rw [el] at ew4; cases ew4
      | ex c=>rw [el] at ew4; cases ew4
      | ok ws' =>
       rw [el] at ew4
       cases ew4
       intro w H4 s4 rw4
       have hD4:H4 D=some (.lst ys):=s4 _ _ hD3
       have J3:=J2.grow s4
       have bD4:Z5 (Z5 (Z5 B' H' H2) H2 H3) H3 H4 D=none:=by rw [Zs hD3]; exact bD3
       have sB4:=sB3.trans (Z5.ge J2.sB s4)
       refine ⟨hD4,Nat.lt_of_lt_of_le (Nat.lt_of_le_of_lt hyl hlt) (jv hl),ts.length - (i+1),by omega,rfl,hlt,by rw [List.length_append,List.length_singleton]; omega,Zb,ρ1,_,us++[v],ws', ?_,no1,s1'.trans sB4,bD4,(r'.mono sB4).append (.cons rw4 .nil),el,by rw [List.append_assoc]; exact eall⟩
       exact J3.acc bD4 hD (fun j ts' e=>(no1 j ts' e).elim) _
 ·have e:i=ts.length:=by omega
  subst e
  refine .inl ⟨hstop _ (Nat.le_refl _), ?_⟩
  rw [List.drop_length] at ew
  cases ew
  rw [List.append_nil] at eall
  subst eall
  refine hF H' ys B' I'.sH hDl r' (fun b o h=> ?_) bD s1'
  cases q:H1 b with
  | none=>rw [Zw q]; exact I'.sB b o h
  | some u=>
   rw [Zs q]
   have z:B' b=B1 b:=I'.old b u q
   rw [← z]; exact h
structure UO (X:Cx) (Y:Fx) (tg iter elt:Expr) (ifs:List Expr) (scope:Scope) (N' :List Str) (k:Nat) (js:List Nat) (fi:En->R (List T)) (tG:TG) (g:T->En->R En) (ft:En->R Bool) (fe:En->R T):Prop where
 sc:CSc X scope
 cp:gR X scope N' k js
 cm:X.calm=true
 it:YW X Y tg iter fi
 gt:QW X scope N' fun XC=>PG XC tg tG
 gk:GOk tG g
 gn:GNo g
 tt:∀ Y',Y'.cl=Y.cl->QW X scope N' fun XC=>yP XC Y' ifs ft
 el:∀ Y',Y'.cl=Y.cl->QW X scope N' fun XC=>Snd XC Y' elt fe
 hs:∀ x,foldedSetIterable iter X.env x=pure x
theorem Zo (C:UO X Y tg iter elt ifs scope N' k js fi tG g ft fe):Snd X Y (.ListComp elt [⟨tg,iter,ifs,0⟩] scope pos) (zQ fi g ft fe k js):= .mk fun ρ=>by
 intro pins s σ H Q I ⟨B,J,q⟩
 rw [eval_ListComp]
 refine Wu (use:=none) (Q:=EP X pins σ Q) (F:=fun D H' =>Q (.ref D) H') (te:=fun σ H Q=>∃ Y' ρ',Y'.cl=Y.cl/\tS Y' rC fe ρ' σ H Q) (tt:=fun σ H Q=>∃ Y' ρ',Y'.cl=Y.cl/\tS Y' rE ft ρ' σ H Q) C.sc C.cp C.cm (C.it ρ) C.gt
  (fun cl Cx' s3 H3 fp pins pins' s σ H Q I ⟨Y',ρ',ey,q⟩=>C.tt Y' ey cl Cx' s3 H3 fp pins ρ' pins' s σ H Q I q) (fun cl Cx' s3 H3 fp pins pins' s σ H Q I ⟨Y',ρ',ey,q⟩=>C.el Y' ey cl Cx' s3 H3 fp pins ρ' pins' s σ H Q I q) I ?_ ?_ C.hs
 ·refine step J q fun ts it' H1 _ s1 r1 J1 q1=> ?_
  intro D hD
  unfold zG at q1
  split at q1
  ·rename_i hl
   cases ev:zZ g ft fe ts (wY k js ρ) with
   | bad=>rw [ev] at q1; exact q1.elim
   | ex c=>rw [ev] at q1; exact q1.elim
   | ok vs=>
    rw [ev] at q1
    refine wC C.gk C.gn J1 r1 hl ev hD fun H' xs B' s' e' r' l' b' sb' => ?_
    refine (show Po Y rC _ H1 (.ok (.lst vs)) Q from q1) (.ref D) H' s' ?_
    exact .lst (by rw [Zw hD]; exact e') (r'.mono l')
  ·exact q1.elim
 ·intro D Cc H' s' I' q' hC h0 hL hcell hpin hns
  obtain ⟨m,hm⟩:=hns
  refine ⟨m,hm,fun h' hsb=>⟨.ref D,H', ?_,rfl,q'⟩⟩
  exact I'.turned (t' :=s'.toks) (fun b o hb e=>hsb.extBut b o hb e) hC (Ne.symm hL).symm (.inr h0) hcell hpin
end
section
variable {X:Cx} {Y:Fx} {tg iter elt:Expr} {ifs:List Expr} {scope:Scope} {pos pos' :Pos} {N' :List Str} {k:Nat} {js:List Nat} {fi:En->R (List T)} {tG:TG} {g:T->En->R En} {ft:En->R Bool} {fe:En->R T}
theorem wD {i:Nat} {x:Str} {pc p' :Pos} (C:UO X Y tg iter elt ifs scope N' k js fi tG g ft fe) (hN:X.N.Nodup) (hi:X.N[i]? =some x) (hx:L2.Loc X.env.scope x)
  (hsw:swapsWith (.ListComp elt [⟨tg,iter,ifs,0⟩] scope pc) (some (.Name x p')) pos.line X.env=pure true) (hf:X.fn x=true\/X.env.scope.names.lookup x=some .local:=by first | exact .inl rfl | exact .inr rfl | assumption):
  Ws X Y (.Assign [.Name x p'] (.ListComp elt [⟨tg,iter,ifs,0⟩] scope pc) pos) (zJ i (zQ fi g ft fe k js)):= .mk fun ρ=>by
 intro pins s σ H D I ⟨B,J,q⟩
 rw [exec_Assign_Name_used _ _ _ _ hsw]
 refine wpAny_bind (wpAny_standAt (wpAny_bind ?_))
 show wpAny _ X.A (do let _ ← comprehension (.ListComp elt [⟨tg,iter,ifs,0⟩] scope pc) scope X.env _ (newList []) false (eval iter X.env) (some (assign (.Name x p') X.env))) _ _ s
 refine wpAny_bind (thn (Wu (use:=some (assign (.Name x p') X.env)) (Q:=fun _ s' =>SP X pins D .next s') (F:=fun D' H' =>D.nx (σ.set i (some (.ref D'))) H') (te:=fun σ H Q=>∃ Y' ρ',Y'.cl=Y.cl/\tS Y' rC fe ρ' σ H Q) (tt:=fun σ H Q=>∃ Y' ρ',Y'.cl=Y.cl/\tS Y' rE ft ρ' σ H Q) C.sc C.cp C.cm (C.it ρ) C.gt
  (fun cl Cx' s3 H3 fp pins pins' s σ H Q I ⟨Y',ρ',ey,q⟩=>C.tt Y' ey cl Cx' s3 H3 fp pins ρ' pins' s σ H Q I q) (fun cl Cx' s3 H3 fp pins pins' s σ H Q I ⟨Y',ρ',ey,q⟩=>C.el Y' ey cl Cx' s3 H3 fp pins ρ' pins' s σ H Q I q) I ?_ ?_ C.hs) fun _ s' hq=>wpAny_pure (wpAny_pure hq))
 ·have q' :PoS Y B (((fi ρ).s fun ts=>(zG g ft fe k js ρ ts).s fun vs=> .nx (ρ.set i (.vl (.lst vs))))) D:=by
   unfold zJ zQ at q
   revert q
   cases fi ρ with
   | bad=>exact fun q=>q
   | ex c=>exact fun q=>q
   | ok ts=>
    intro q
    have q2:PoS Y B (((zG g ft fe k js ρ ts).bind fun vs=>R.ok (T.lst vs)).s fun t=>RS.nx (List.set ρ i (Sl.vl t))) D:=q
    show PoS Y B ((zG g ft fe k js ρ ts).s fun vs=>RS.nx (List.set ρ i (Sl.vl (T.lst vs)))) D
    revert q2
    cases zG g ft fe k js ρ ts with
    | bad=>exact fun q=>q
    | ex c=>exact fun q=>q
    | ok vs=>exact fun q=>q
  refine wy J q' fun ts it' H1 _ s1 r1 J1 q1=> ?_
  intro D' hD
  unfold zG at q1
  split at q1
  ·rename_i hl
   cases ev:zZ g ft fe ts (wY k js ρ) with
   | bad=>rw [ev] at q1; exact q1.elim
   | ex c=>rw [ev] at q1; exact q1.elim
   | ok vs=>
    rw [ev] at q1
    refine wC C.gk C.gn J1 r1 hl ev hD fun H' xs B' s' e' r' l' b' sb' => ?_
    have rr:Rep (Z5 (Z5 B H H1) H1 H') (.ref D') (.lst vs):= .lst (by rw [Zw hD]; exact e') (r'.mono l')
    exact q1 _ _ _ (Z5.ge J1.sB s') ((J1.grow s').setV i rr)
  ·exact q1.elim
 ·intro D' Cc H' s' I' q' hC h0 hL hcell hpin hns
  obtain ⟨m,hm⟩:=hns
  show wpAny _ X.A (assign (.Name x p') X.env (.ref D')) _ _ s'
  refine wpAny_assign_Name (wu (v:= .ref D') I' hN hi hx rfl (fun s'' I'' ⟨a,hsb,ha⟩=> ?_) hf)
  have hne:Cc ≠ a:=by
   rcases ha with rfl | ha
   ·exact hL
   ·exact (hcell x a ha).symm
  refine ⟨m,hm.sameBut hsb hne,fun h' hsb' =>⟨_,H', ?_,q'⟩⟩
  exact I''.turned (t' :=s''.toks) (fun b o hb e=>hsb'.extBut b o hb e) hC hL (.inr h0) hcell hpin
end
def Itc (x:Str):It:=⟨fun i _=>i < x.cps.size,fun i H v H' =>H' =H/\∃ c,x.cps[i]? =some c/\v= .str ⟨#[c]⟩,fun i _=>x.cps.size<=i⟩
theorem Wb {P:Program} {w:World} {K:PySem.W.Frag} {tg:Expr} {x:Str} {t:Tok} {ty:String} (it:Addr) (hty:ty="str_ascii_iterator"\/ty="str_iterator"):Qx P w K tg (Itc x) [it] it (fun i h=>h.IsStrIter it ty x t i):=by
 have W:∀ A:Around,A.handled=none->Walks P w A it [it] [it] x.cps.size (SignAt x) (fun i h=>h.IsStrIter it ty x t i):=fun A hA=>by
  rcases hty with rfl | rfl
  ·exact Walks.strAscii hA it x t
  ·exact Walks.strWide hA it x t
 have hn:["enumerate","zip","dict_itemiterator","dict_reverseitemiterator","odict_iterator","itertools.zip_longest","itertools.pairwise"].contains ty=false:=by rcases hty with rfl | rfl <;> decide
 refine ⟨by simp,fun i h st b hb=> ?_,fun i h h' st k=> ?_, ?_, ?_,fun A i s Q E st h=> ?_⟩
 ·have e:b=it:=by simpa using hb
  subst e
  obtain ⟨o,e,c,d⟩:=st
  exact ⟨o,e,fun v z=>by rw [d] at z; cases z⟩
 ·obtain ⟨o,e,r⟩:=st
  exact ⟨o,k it (by simp) o e,r⟩
 ·intro X hP hw hK hc i pins s σ H E I hf st hg
  subst hP hw hK
  obtain ⟨f0,f1,f2,f3,f4,f5⟩:=hf it (by simp)
  refine (W X.A (I.ok.hd hc)).item i s _ _ hg st fun v h' tk hv st' kk=> ?_
  obtain ⟨c,u,hc',rfl⟩:=hv
  have I1:L2.Inv X pins σ H { s with heap:=h',toks:=tk }:=I.turned (fun b o hb e=>kk b o (by simpa using hb) e) f0 f1 f3 f4 f5
  obtain ⟨o,e,cl,d⟩:=id st'
  exact ⟨_,rfl,QI (s:={ s with heap:=h',toks:=tk }) e cl d hn ⟨.str ⟨#[c]⟩,H,I1,⟨u,rfl⟩,⟨rfl,c,hc',rfl⟩,st',fun b hb=>(hf b hb).1⟩⟩
 ·intro X hP hw hK hc i pins s σ H E I hf st hg
  subst hP hw hK
  obtain ⟨f0,f1,f2,f3,f4,f5⟩:=hf it (by simp)
  have hx:x.cps[i]? =none:=Array.getElem?_eq_none hg
  rcases hty with rfl | rfl
  ·exact wpAny_pyNext_ascii_end (I.ok.hd hc) st hx fun h' eb=>⟨rfl,I.turned (t' :=s.toks) (fun b o hb e=>eb b o hb e) f0 f1 f3 f4 f5⟩
  ·exact wpAny_pyNext_wide_end (I.ok.hd hc) st hx fun h' eb=>⟨rfl,I.turned (t' :=s.toks) (fun b o hb e=>eb b o hb e) f0 f1 f3 f4 f5⟩
 ·rcases hty with rfl | rfl
  ·exact wpAny_pyIter_striter_ascii st h
  ·exact wpAny_pyIter_striter_wide st h
def je (x:Str):List T:=x.cps.toList.map fun c=>T.str ⟨#[c]⟩
theorem QZ {B1 H1:Hp} {x:Str}:rI B1 H1 (Itc x) (je x):=fun B2 H2 s1 s2=>by
 have hl:(je x).length=x.cps.size:=by unfold je; simp
 refine ⟨fun i hi=>by rw [hl] at hi; exact hi,fun i t v H3 e y=> ?_,fun i hi=>by rw [hl] at hi; exact hi⟩
 obtain ⟨rfl,c,hc,rfl⟩:=y
 refine ⟨zK.refl _, ?_⟩
 unfold je at e
 rw [List.getElem?_map] at e
 have hc' :x.cps.toList[i]? =some c:=by simpa using hc
 rw [hc'] at e
 cases e
 exact .str _
section
variable {X:Cx} {Y:Fx} {a b c d tg:Expr} {fa fb fc fd:En->R T} {pos p:Pos}
theorem kz {l:Expr} {tl:TE} (hl:PE X l tl):PI X tg l (fun σ H R=>tl σ H fun x H1=>(∃ a,x= .ref a/\(((∃ xs,SqL X.K H1 a xs)/\R (Itl X.K a) H1)\/((∃ xs,SqT X.K H1 a xs)/\R (Itt X.K a) H1)))\/(∃ z,x= .str z/\R (Itc z) H1)):=by
 intro pins s σ H R I h
 refine thn (hl pins s σ H _ I h) fun v s1 ⟨x,H1,I1,r1,q1⟩=> ?_
 have ok:∀ b∈[s1.heap.objs.size],uY X pins H1 b:=fun b hb=>by
  have e:b=s1.heap.objs.size:=by simpa using hb
  subst e
  exact I1.fpOk (Nat.le_refl _) (I1.hok.fresh (Nat.le_refl _))
 rcases q1 with ⟨a,e,q⟩ | ⟨z,e,q⟩
 ·subst e
  obtain rfl:v=Value.ref a:=r1
  rcases q with ⟨⟨xs,hq⟩,q⟩ | ⟨⟨xs,hq⟩,q⟩
  ·obtain ⟨its,rv,p,hz⟩:=I1.list hq
   exact wpAny_pyIter_list p.isList ⟨s1.heap.objs.size,[s1.heap.objs.size],_,_,H1,rfl,I1.kept (t' :=s1.toks) fun b o e=>Heap.get?_push_of_some _ e,Yh a _,⟨_,Heap.get?_push_size _ rfl,rfl,rfl⟩,ok,q⟩
  ·obtain ⟨its,rv,p,hz⟩:=I1.tuple hq
   exact wpAny_pyIter_tuple (show s1.heap.IsTuple a its.toArray from p) ⟨s1.heap.objs.size,[s1.heap.objs.size],_,_,H1,rfl,I1.kept (t' :=s1.toks) fun b o e=>Heap.get?_push_of_some _ e,yw a _,⟨_,Heap.get?_push_size _ rfl,rfl,rfl⟩,ok,q⟩
 ·subst e
  obtain ⟨t,rfl⟩:=r1
  cases ha:z.cps.all (· < 128)
  ·exact wpAny_pyIter_wide ha ⟨s1.heap.objs.size,[s1.heap.objs.size],_,_,H1,rfl,I1.kept (t' :=s1.toks) fun b o e=>Heap.get?_push_of_some _ e,Wb _ (.inr rfl),⟨_,Heap.get?_push_size _ rfl,rfl,rfl⟩,ok,q⟩
  ·exact wpAny_pyIter_ascii ha ⟨s1.heap.objs.size,[s1.heap.objs.size],_,_,H1,rfl,I1.kept (t' :=s1.toks) fun b o e=>Heap.get?_push_of_some _ e,Wb _ (.inl rfl),⟨_,Heap.get?_push_size _ rfl,rfl,rfl⟩,ok,q⟩
def wE:T->R (List T)
 | .lst xs=> .ok xs
 | .tup xs=> .ok xs
 | .str x=> .ok (je x)
 | _=> .bad
def ZW (fa:En->R T):En->R (List T):=fun ρ=>(fa ρ).bind wE
theorem ZZ (ha:Snd X Y a fa):YW X Y tg a (ZW fa):= .mk fun ρ=>PI.imp (kz (ha ρ)) fun σ H R ⟨B,I,q⟩=>step I q fun t v H1 _ s1 r1 I1 q1=>by
 cases r1 with
 | @tup l xs ts h r=>
  exact .inl ⟨l,rfl, .inr ⟨⟨xs,SqT.of (I1.sB _ _ h)⟩,jc I1 (show Po Y rI _ H1 (.ok ts) R from q1) (kx h r)⟩⟩
 | @lst l xs ts h r=>
  exact .inl ⟨l,rfl, .inl ⟨⟨xs,SqL.of (I1.sB _ _ h)⟩,jc I1 (show Po Y rI _ H1 (.ok ts) R from q1) (ky h r)⟩⟩
 | str z=>exact .inr ⟨z,rfl,jc I1 (show Po Y rI _ H1 (.ok (je z)) R from q1) QZ⟩
 | _=>exact q1.elim
end
theorem Inv.laidT {X:Cx} {pins:List (Addr×Obj)} {σ:Sg} {H:Hp} {s:Shared} {h' :Heap} {tk:Nat} {ch:List Addr} {a:Addr} {xs:List V} (I:L2.Inv X pins σ H s) (hf:∀ b∈ch,uY X pins H b) (k:∀ b o,b ∉ ch->s.heap.get? b=some o->h'.get? b=some o)
  (th:∀ b o,b∈ch->s.heap.get? b=some o->∃ o',h'.get? b=some o') (ha:s.heap.objs.size<=a) (new:ZH X.prog X.w (upd H a (.tup xs)) h' a (.tup xs)):L2.Inv X pins σ (upd H a (.tup xs)) { s with heap:=h',toks:=tk }:=by
 have hn:H a=none:=I.hok.fresh ha
 have nch:∀ b u,H b=some u->b ∉ ch:=fun b u e hb=>by rw [(hf b hb).1] at e; cases e
 refine I.call' (s' :={ s with heap:=h',toks:=tk }) (ch:=ch) rfl ⟨fun b o e n _ hc=>k b o hc e,fun b o e n _ hc=>⟨o.slots,k b o hc e⟩,fun b o e n _=>by rw [zD (Nat.ne_of_lt (Nat.lt_of_lt_of_le (Heap.lt_size e) ha))]; exact n,fun b o e hc=>⟨o,k b o hc e⟩,
  fun b ys e=>by rw [zD (Z4 e hn)]; exact e,fun b o u e=>by rw [zD (Z4 e hn)]; exact e,fun b ps e=>⟨#[],by rw [zD (Z4 e hn),e]; simp⟩⟩ (fun b u e=> ?_) I.bare fun b hb=> ?_
 ·by_cases hb:b=a
  ·subst hb; rw [Zb] at e; cases e; exact new
  ·rw [zD hb] at e
   refine (I.hok b u e).stay (fun c v hc q=> ?_) (fun c q=>by rw [zD (Z4 q hn)]; exact q) fun c ys q=>by rw [zD (Z4 q hn)]; exact q
   rcases hc with rfl | hc
   ·exact k c v (nch c u e) q
   ·exact k c v (nch c _ hc) q
 ·obtain ⟨f0,f1,f2,f3,f4,f5⟩:=hf b hb
  exact ⟨f3,f1,f4,f5⟩
def Ite (K:PySem.W.Frag) (l:Addr):It:=
 ⟨fun i H=>∃ xs x,SqL K H l xs/\xs[i]? =some x,fun i H v H' =>∃ p x,H p=none/\v= .ref p/\(∀ xs,SqL K H l xs->xs[i]? =some x)/\H' =upd H p (.tup [.int i,x]),fun i H=>∃ xs,SqL K H l xs/\xs.length<=i⟩
theorem qa {P:Program} {w:World} {K:PySem.W.Frag} {elts:List Expr} {kk:Nat} {pt:Pos} (e it l:Addr) (hei:e ≠ it) (hle:l ≠ e) (hli:l ≠ it):
  Qx P w K (.Tuple elts kk pt) (Ite K l) [e,it] e (fun i h=>(∃ old,IsEnum h e it i old)/\h.IsListIter it l i) where
 mem:=by simp
 obj:=fun i h st b hb=>by
  obtain ⟨⟨old,he⟩,o,e1,c,d⟩:=st
  rcases List.mem_cons.mp hb with rfl | hb
  ·exact ⟨_,he,fun v z=>nomatch z⟩
  ·have z:b=it:=by simpa using hb
   subst z
   exact ⟨o,e1,fun v z=>by rw [d] at z; cases z⟩
 keep:=fun i h h' st k=>by
  obtain ⟨⟨old,he⟩,hit⟩:=st
  exact ⟨⟨old,k e (by simp) _ he⟩,hit.at fun o x=>k it (by simp) o x⟩
 item:=by
  intro X hP hw hK hc i pins s σ H E I hf st hg
  subst hP hw hK
  obtain ⟨xs,x,hq,hx⟩:=hg
  obtain ⟨its,rv,p,hz⟩:=I.list hq
  obtain ⟨u,hu,ru⟩:=rv.get hx
  obtain ⟨⟨old,he⟩,hit⟩:=st
  have hi:i < its.toArray.size:=by
   have:=(List.getElem?_eq_some_iff.mp hu).1
   simpa using this
  refine (WalksT.enumerate (prog:=X.prog) (w:=X.w) (I.ok.hd hc) e it l hei hle hli its.toArray).item i s _ _ hi ⟨⟨old,he⟩,hit,p.isList⟩ fun T vals h' tk hP hT hTup hM hk=> ?_
  obtain ⟨t,y,hy,rfl⟩:=hP
  have hyu:y=u:=by
   have:its[i]? =some y:=by simpa using hy
   rw [hu] at this; exact (Option.some.inj this).symm
  subst hyu
  refine ⟨.ref T,rfl, ?_⟩
  refine (WalksT.enumerate (prog:=X.prog) (w:=X.w) (I.ok.hd hc) e it l hei hle hli its.toArray).go elts kk pt i T _ _ _ hM fun h2 hst2 hk2=> ?_
  have hTn:H T=none:=I.hok.fresh hT
  have hTne:∀ b∈[e,it],b ≠ T:=fun b hb z=>by
   obtain ⟨_,_,_,h3,h4⟩:=hM
   rcases List.mem_cons.mp hb with rfl | hb
   ·exact h3 z.symm
   ·have:b=it:=by simpa using hb
    subst this; exact h4 z.symm
  have vt:IsTup h2 T #[.int i t,y]:=by
   obtain ⟨o,eo,r⟩:=hTup
   exact ⟨o,hk2 T o (fun hb=>hTne T hb rfl) eo,r⟩
  refine ⟨.ref T,upd H T (.tup [.int i,x]),Inv.laidT (s:=s) (h' :=h2) (ch:=[e,it]) (tk:=tk) I hf (fun b o hb e=>hk2 b o hb (hk b o hb e)) (fun b o hb _=> ?_) hT ⟨by rw [sizeLine_eq]; show 2<=16777216; decide,[.int i t,y], .cons ⟨t,rfl⟩ (.cons ru .nil),vt⟩,rfl,⟨T,x,hTn,rfl,fun ys hy=>by rw [I.list_inj hy hq]; exact hx,rfl⟩,⟨hst2.1,hst2.2.1⟩,fun b hb=> ?_⟩
  ·obtain ⟨⟨old2,he2⟩,⟨o2,eo2,_⟩,_⟩:=hst2
   rcases List.mem_cons.mp hb with rfl | hb
   ·exact ⟨_,he2⟩
   ·have:b=it:=by simpa using hb
    subst this; exact ⟨o2,eo2⟩
  ·rw [zD (hTne b hb)]; exact (hf b hb).1
 done:=by
  intro X hP hw hK hc i pins s σ H E I hf st hg
  subst hP hw hK
  obtain ⟨xs,hq,hx⟩:=hg
  obtain ⟨its,rv,p,hz⟩:=I.list hq
  obtain ⟨⟨old,he⟩,hit⟩:=st
  have hl:=rv.length
  refine wpAny_pyNext_enum_end (I.ok.hd hc) he hit p.isList (Array.getElem?_eq_none (by simp; omega)) fun h' hk=>⟨rfl, ?_⟩
  obtain ⟨f0,f1,f2,f3,f4,f5⟩:=hf it (by simp)
  exact I.turned (t' :=s.toks) (fun b o hb e=>hk b o hb e) f0 f1 f3 f4 f5
 self:=fun _ _ _ _ _ st h=>let ⟨⟨_,he⟩,_⟩:=st; wpAny_pyIter_enum he h
def Jj (xs:List T):List T:=(xs.zipIdx).map fun p=>T.tup [.int (p.2:Nat),p.1]
theorem uo {xs:List T} {i:Nat} {t:T} (h:(Jj xs)[i]? =some t):∃ x,xs[i]? =some x/\t= .tup [.int (i:Nat),x]:=by
 unfold Jj at h
 rw [List.getElem?_map,List.getElem?_zipIdx] at h
 cases e:xs[i]? with
 | none=>rw [e] at h; cases h
 | some x=>rw [e] at h; cases h; exact ⟨x,rfl,by simp⟩
theorem JV (xs:List T):(Jj xs).length=xs.length:=by unfold Jj; simp
theorem xn {K:PySem.W.Frag} {B1 H1:Hp} {a:Addr} {xs:List V} {ts:List T} (h:B1 a=some (.lst xs)) (r:zY B1 xs ts):rI B1 H1 (Ite K a) (Jj ts):=fun B2 H2 s1 s2=>by
 have h2:=s2 _ _ (s1 _ _ h)
 rw [JV]
 refine ⟨fun i hi=> ?_,fun i t x H3 e y=> ?_,fun i hi=>⟨xs,SqL.of h2,by rw [r.length]; exact hi⟩⟩
 ·obtain ⟨v,e,_⟩:=r.get (List.getElem?_eq_getElem hi)
  exact ⟨xs,v,SqL.of h2,e⟩
 ·obtain ⟨p,v,hp,rfl,y,rfl⟩:=y
  obtain ⟨t',et,rfl⟩:=uo e
  obtain ⟨v',e1,r1⟩:=r.get et
  have:=y xs (SqL.of h2)
  rw [e1] at this; cases this
  refine ⟨zK.new hp _, .tup (Ji hp _) (.cons (.int _) (.cons ?_ .nil))⟩
  exact (r1.mono s1).mono (Z5.ge s2 (zK.new hp _))
section
variable {X:Cx} {Y:Fx} {a:Expr} {fa:En->R T} {pos p pt:Pos} {elts:List Expr} {kk:Nat}
theorem xo {ta:TA} (hg:Gl X "enumerate") (hm:X.mg "enumerate"=none) (ha:PA X [a] ta) (hs:St1 X a:=by exact st1 rfl):
  PI X (.Tuple elts kk pt) (.Call (.Name "enumerate" p) [a] [] pos) (fun σ H R=>ta σ H fun vs H1=>∃ l xs,vs=[.ref l]/\H1 l=some (.lst xs)/\R (Ite X.K l) H1):=by
 intro pins s σ H R I h
 refine Call_ (JU I hg hm PyProof.Rows.Boot.«enumerate» (PyProof.Rows.callWith_type1 (thn (ha pos pins s σ H _ I h) fun us s1 ⟨vs,H1,I1,r1,q1⟩=> ?_) hs rfl))
 obtain ⟨l,xs,e,hl,q⟩:=q1
 subst e
 obtain ⟨u,rfl,ru⟩:=jI r1
 obtain rfl:u=Value.ref l:=ru
 obtain ⟨_,its,n,rv,eo⟩:=(show ZH X.prog X.w H1 s1.heap l (.lst xs) from I1.hok l _ hl)
 have hlt:l < s1.heap.objs.size:=Heap.lt_size eo
 refine call_enumerate_1 eo fun h' he hit hsz hk=>wpAny_pyIter_enum he ?_
 have f:∀ b∈[s1.heap.objs.size+1,s1.heap.objs.size],uY X pins H1 b:=fun b hb=>by
  rcases List.mem_cons.mp hb with rfl | hb
  ·exact I1.fpOk (Nat.le_succ _) (I1.hok.fresh (Nat.le_succ _))
  ·have z:b=s1.heap.objs.size:=by simpa using hb
   subst z
   exact I1.fpOk (Nat.le_refl _) (I1.hok.fresh (Nat.le_refl _))
 exact ⟨s1.heap.objs.size+1,[s1.heap.objs.size+1,s1.heap.objs.size],_,_,H1,rfl,I1.kept (t' :=s1.toks) hk,qa _ _ l (Nat.succ_ne_self _) (Nat.ne_of_lt (Nat.lt_succ_of_lt hlt)) (Nat.ne_of_lt hlt),⟨⟨_,he⟩,hit⟩,f,q⟩
def xp (fa:En->R T):En->R (List T):=fun ρ=>(fa ρ).bind fun t=>match t with
 | .lst xs=> .ok (Jj xs)
 | _=> .bad
theorem kA (hg:Gl X "enumerate") (hm:X.mg "enumerate"=none) (ha:Snd X Y a fa) (hs:St1 X a:=by exact st1 rfl):YW X Y (.Tuple elts kk pt) (.Call (.Name "enumerate" p) [a] [] pos) (xp fa):= .mk fun ρ=>
 PI.imp (xo hg hm (zH (ha ρ) Zu hs) hs) fun σ H R ⟨B,I,q⟩=>step I q fun t v H1 _ s1 r1 I1 q1=>by
  cases r1 with
  | @lst l xs ts h r=>exact ⟨l,xs,rfl,I1.sB _ _ h,jc I1 (show Po Y rI _ H1 (.ok (Jj ts)) R from q1) (xn h r)⟩
  | _=>exact q1.elim
def Y8:List T->Option (List Str)
 | []=>some []
 | .str x :: r=>match Y8 r with | some ys=>some (x :: ys) | none=>none
 | _ :: _=>none
def kB (sep:Str):T->R T
 | .lst ts=>match Y8 ts with
  | some ys=>if (ys.map (·.length)).sum+ys.length*sep.length<=16777216 then .ok (.str (Txt.join sep ys)) else .bad
  | none=> .bad
 | _=> .bad
theorem Ww {H:Hp}:∀ {xs:List V} {ts:List T} {its:List Value} {ys:List Str},zY H xs ts->ZE xs its->Y8 ts=some ys->StrsAre its ys
 | _,_,_,ys, .nil, .nil,h=>by
  have h' :some []=some ys:=h
  cases h'; exact .nil
 | _,_,_,ys, .cons (t:=t) r rs, .cons (b:=u) rv vs,h=>by
  cases r with
  | str x=>
   unfold Y8 at h
   split at h
   ·rename_i zs e
    cases h
    obtain ⟨tk,rfl⟩:=rv
    exact .cons x tk (Ww rs vs e)
   ·cases h
  | _=>cases h
theorem xr:MtR X "str.join" (fun x xs H Q=>∃ z l zs ts ys,x= .str z/\xs=[.ref l]/\H l=some (.lst zs)/\zY H zs ts/\Y8 ts=some ys/\(ys.map (·.length)).sum+ys.length*z.length<=16777216/\Q (.str (Txt.join z ys)) H):=by
 intro pins s σ H x xs v us Q I rx rv h
 obtain ⟨z,l,zs,ts,ys,rfl,rfl,hl,r,e,hb,q⟩:=h
 obtain ⟨t,rfl⟩:=rx
 obtain ⟨u,rfl,ru⟩:=jI rv
 obtain rfl:u=Value.ref l:=ru
 obtain ⟨its,rv,p,_⟩:=Z8 I (.inl hl) r
 exact join_list p (by simpa using Ww r rv e) hb fun t' k=>⟨.str _,H,I.tok k,⟨t',rfl⟩,q⟩
theorem kC {z:Str} {kc:Nat} {pz pa:Pos} (ha:Jb X Y a fa) (hb:attributeBase (.Constant (.str z) kc pz) "join" X.env (eval (.Constant (.str z) kc pz) X.env)=eval (.Constant (.str z) kc pz) X.env:=by rfl) (hs:St1 X a:=by exact st1 rfl)
  (hz:(pa.endLine == p.line)=true:=by rfl):Snd X Y (.Call (.Attribute (.Constant (.str z) kc pz) "join" pa) [a] [] p) (ap1 (kB z) fa):= .mk fun ρ=>by
 have e1:(((((backTo p (starEach [a] X.env)).all fun x=> !x.fst) && (backToKw p (keywordEach [] X.env)).all fun x=>x.fst.isSome) && decide (([a].length+([]:List Keyword).length+if ([]:List Keyword).isEmpty=true then 0 else 1) < 30))=true):=by rw [hs]; rfl
 refine PE.imp (Yw PySem.F.plainAttrs_str PySem.F.slot_str_join PySem.F.type_str_join xr V1 (zH (ha ρ) Zu hs) hb e1 hz hs rfl) fun σ H Q ⟨B,I,q⟩=> ?_
 refine ⟨rfl,step I q fun t v H1 _ s1 r1 I1 q1=> ?_⟩
 cases r1 with
 | @lst l xs ts h r=>
  have q1:Po Y rC _ H1 (match Y8 ts with | some ys=>if (ys.map (·.length)).sum+ys.length*z.length<=16777216 then .ok (.str (Txt.join z ys)) else .bad | none=> .bad) Q:=q1
  split at q1
  ·rename_i ys e
   split at q1
   ·rename_i hl
    exact ⟨z,l,xs,ts,ys,rfl,rfl,h,r,e,hl,po0 I1.sB q1 rfl (.str _)⟩
   ·exact q1.elim
  ·exact q1.elim
 | _=>exact q1.elim
end
def dd:List Str->List Str->List Str
 | acc,[]=>acc
 | acc,x :: r=>dd (if x∈acc then acc else acc++[x]) r
section
variable {prog:Program} {w:World} {A:Around} {R:Result->Shared->Prop} {I:Addr} {fp wr:List Addr} {n:Nat} {P:Nat->Value->Prop} {St:Nat->Heap->Prop}
theorem jZ {h h' :Heap} {S:Addr} {f g:Str->Bool} {m k:Nat} (x:h.SetOf (strKind prog w) S f m) (e:∀ o,h.get? S=some o->h'.get? S=some o) (ef:f=g) (em:m=k):h'.SetOf (strKind prog w) S g k:=by
 subst ef em
 obtain ⟨o,es,ep,t,ho,r⟩:=x
 exact ⟨o,es,ep,t,e o ho,r⟩
theorem v6 (W:Walks prog w A.in1 I fp wr n P St) (S:Addr) (hSf:S ∉ fp) (val:Nat->Str) (hval:∀ i v,P i v->∃ t,v=Value.str (val i) t) (hb:n+1 < scanBound):
  ∀ (k i:Nat) (acc:List Str) (s:Shared),n - i=k->i<=n->acc.length<=i->St i s.heap->s.heap.SetOf (strKind prog w) S (fun x=>decide (x∈acc)) acc.length->
   (∀ h' tk,(∀ b o,b ∉ S :: wr->s.heap.get? b=some o->h'.get? b=some o)->h'.SetOf (strKind prog w) S (fun x=>decide (x∈dd acc ((List.range' i k).map val))) (dd acc ((List.range' i k).map val)).length->
    R (.ok (.ret .none)) { s with heap:=h',toks:=tk })->codeAny (model prog w) A (.builtin "set.update.loop" ⟨[.ref S, .ref I],[]⟩) R s:=by
 intro k
 induction k with
 | zero=>
  intro i acc s hk hi hal hst hS hR
  obtain rfl:i=n:=by omega
  refine codeAny_builtin F.entry_set_update_loop ?_
  rw [Around.under_plainId F.plain_set_update_loop _]
  refine wpAny_bind (m:=pyNext (.ref I)) (W.done s _ _ hst fun h' tk hk' =>wpAny_pure ?_)
  exact hR h' tk (fun b o hb e=>hk' b o (fun z=>hb (List.mem_cons_of_mem _ z)) e) (jZ hS (fun o e=>hk' S o (fun z=>hSf (W.sub _ z)) e) rfl rfl)
 | succ k ih=>
  intro i acc s hk hi hal hst hS hR
  refine codeAny_builtin F.entry_set_update_loop ?_
  rw [Around.under_plainId F.plain_set_update_loop _]
  refine wpAny_bind (m:=pyNext (.ref I)) (W.item i s _ _ (by omega) hst fun v h1 tk1 hP hst1 hk1=> ?_)
  obtain ⟨t,rfl⟩:=hval i v hP
  have hS1:=jZ hS (fun o e=>hk1 S o (fun z=>hSf (W.sub _ z)) e) rfl rfl
  refine wpAny_bind (m:=holding [Value.str (val i) t] (setAdd S (.str (val i) t))) (wpAny_holding ?_)
  unfold setAdd
  have isk:(strKind prog w).is (val i) (.str (val i) t)=true:=strKind_is _ _ _ _
  refine wpAny_holding (wpAny_bind ((strKind prog w).pyHash isk ?_))
  refine wpAny_setAddHashed_of (knd:=strKind prog w) (s:={ s with heap:=h1,toks:=tk1+1 }) isk rfl hS1 (by omega) fun h2 hsb hS2=> ?_
  have e2:(if decide (val i∈acc)=true then acc.length else acc.length+1)=(if val i∈acc then acc else acc++[val i]).length:=by
   by_cases hm:val i∈acc
   ·simp [hm]
   ·simp [hm]
  have e1:(fun x=>decide (x∈acc) || decide (x=val i))=(fun x=>decide (x∈(if val i∈acc then acc else acc++[val i]))):=by
   funext x
   by_cases hm:val i∈acc
   ·simp only [if_pos hm]
    by_cases hx:x=val i
    ·subst hx; simp [hm]
    ·simp [hx]
   ·simp [hm,Bool.decide_or]
  have hS3:=jZ (h' :=h2) hS2 (fun o e=>e) e1 e2
  refine wpAny_pure ⟨plainId_quiet F.plain_set_update_loop _,ih (i+1) _ _ (by omega) (by omega) ?_ (W.frame _ h1 _ hst1 fun b hb o e=> ?_) hS3 fun h3 tk3 hk3 hS4=> ?_⟩
  ·split
   ·omega
   ·rw [List.length_append,List.length_singleton]; omega
  ·exact (hsb.2 b (fun z:b=S=>hSf (z ▸ hb))).trans e
  ·rw [List.range'_succ,List.map_cons] at hR
   refine hR h3 tk3 (fun b o hb e=>hk3 b o hb ?_) hS4
   exact (hsb.2 b (fun z:b=S=>hb (z ▸ List.mem_cons_self))).trans (hk1 b o (fun z=>hb (List.mem_cons_of_mem _ z)) e)
end
section
variable {prog:Program} {w:World} {A:Around} {E:Value->Shared->Prop} {s:Shared}
set_option maxRecDepth 100000 in
set_option maxHeartbeats 3200000 in
theorem qb {l:Addr} {its:List Value} {ys:List Str} {Q:Value->Shared->Prop} (hh:A.handled=none) (hl:s.heap.IsList l its.toArray) (hi:StrsAre its ys) (hb:its.length+1 < scanBound)
  (h:∀ (h' :Heap) (tk:Nat),h'.SetOf (strKind prog w) s.heap.objs.size (fun x=>decide (x∈dd [] ys)) (dd [] ys).length->(∀ b o,b < s.heap.objs.size->s.heap.get? b=some o->h'.get? b=some o)->
   Q (.ref s.heap.objs.size) { s with heap:=h',toks:=tk }):wpAny (model prog w) A (call (.type "set") [.ref l]) Q E s:=by
 have getv:∀ {its:List Value} {ys:List Str},StrsAre its ys->its.length=ys.length/\∀ (i:Nat) (v:Value),its[i]? =some v->∃ t,v=Value.str (ys.getD i ⟨#[]⟩) t:=fun {its ys} hi=>by
  induction hi with
  | nil=>exact ⟨rfl,fun i v e=>by simp at e⟩
  | cons y t _ ih=>
   refine ⟨by simp [ih.1],fun i v e=> ?_⟩
   cases i with
   | zero=>exact ⟨t,by simpa using e.symm⟩
   | succ i=>exact ih.2 i v (by simpa using e)
 obtain ⟨hlen,hget⟩:=getv hi
 have hys:(List.range' 0 its.length).map (fun i=>ys.getD i ⟨#[]⟩)=ys:=by
  rw [hlen]
  refine List.ext_getElem? fun i=> ?_
  rw [List.getElem?_map]
  by_cases hi' :i < ys.length
  ·rw [List.getElem?_range' hi',List.getElem?_eq_getElem hi']
   simp [List.getElem?_eq_getElem hi']
  ·rw [List.getElem?_eq_none (by simp; omega),List.getElem?_eq_none (by omega)]
   rfl
 obtain ⟨c,tl,hmro⟩:=F.called_set.mro
 have hmade:=F.called_set.made
 have hsub:=F.called_set.sub
 have h1:=F.called_set.notType
 have h2:=F.called_set.canCreate
 have hct:=F.typeCall_set_1 (.ref l)
 refine wpAny_call (codeAny_of_tree (show wpAny _ _ (callAny (.type "set") _) _ _ _ from ?_))
 refine wpAny_pure ⟨Code.quiet_builtin _ (by decide+kernel),codeAny_builtin F.entry_type_call ?_⟩
 rw [Around.under_plain (weight_type_call_type "set" [.ref l] []) rfl]
 repeat any_goals (first | assumption | wp_step)
 refine codeAny_mono (code_set_new_1 (.ref l) (E:=E) (Q₁:=fun obj s₁=>∃ led:Bool,obj= .ref s.heap.objs.size/\s₁={ s with heap:=s.heap.push { cls:= .type "set",dict:=none,data:= .set #[] 0 (.fresh 0 0 led) } }) fun led=>⟨led,rfl,rfl⟩) fun r s₁ hr=> ?_
 cases r with
 | error e=>exact hr
 | ok fl=>
  cases fl with
  | ret obj=>
   obtain ⟨led,rfl,rfl⟩:=hr
   generalize hG:s.heap.push { cls:= .type "set",dict:=none,data:= .set #[] 0 (.fresh 0 0 led) }=G
   have hS:G.get? s.heap.objs.size=some { cls:= .type "set",dict:=none,data:= .set #[] 0 (.fresh 0 0 led) }:=by rw [← hG]; exact Heap.get?_push_size _ rfl
   have hGs:G.objs.size=s.heap.objs.size+1:=by rw [← hG,Heap.size_push]
   have hGk:∀ b o,s.heap.get? b=some o->G.get? b=some o:=fun b o e=>by rw [← hG]; exact Heap.get?_push_of_some _ e
   have hT:Shared.TypeIs { s with heap:=G } (.ref s.heap.objs.size) "set":=⟨_,hS,rfl⟩
   have hli:=F.called_set.init.lookup
   have hbi:=F.called_set.init.bind (.ref s.heap.objs.size)
   repeat any_goals (first | assumption | wp_step)
   refine codeAny_mono (codeAny_call_builtin (R:=wants (fun r s₂=>r= .none/\∃ h' tk,s₂={ s with heap:=h',toks:=tk }/\h'.SetOf (strKind prog w) s.heap.objs.size (fun x=>decide (x∈dd [] ys)) (dd [] ys).length/\
     (∀ b o,b < s.heap.objs.size->s.heap.get? b=some o->h'.get? b=some o)) E) F.called_set.init.plain F.entry_set_init (check_set_init_1 hT ?_)) fun r₂ s₂ hr₂=> ?_
   ·obtain ⟨⟨ocls,odict,odata,oslots⟩,hol,hcl,nl,hdl⟩:=hl
    simp only at hcl hdl
    subst hcl; subst hdl
    have hol' :=hGk _ _ hol
    have hsls:=F.sub_list_set
    have hslf:=F.sub_list_frozenset
    have hne:(Value.type "list" == Value.type "dict")=false:=by decide
    have hl1:G.IsList l its.toArray:=⟨_,hol',rfl,nl,rfl⟩
    have hlS:l < s.heap.objs.size:=Heap.lt_size hol
    unfold Builtin.«set.__init__» noKeywords Builtin.Frozenset.updateFrom
    generalize hPI:pyIter=PI
    wp_walk
    subst hPI
    refine wpAny_pyIter_list hl1 (wpAny_bind (wpAny_runValue ?_))
    have hSf:s.heap.objs.size ∉ [G.objs.size,l]:=by
     rw [hGs]
     intro z
     rcases List.mem_cons.mp z with z | z
     ·exact absurd z (Nat.ne_of_lt (Nat.lt_succ_self _))
     ·exact absurd (List.mem_singleton.mp z) (Nat.ne_of_gt hlS)
    refine v6 (Walks.list (A:=A.in1.in1.in1) (by simp [hh]) G.objs.size l (by rw [hGs]; exact Nat.ne_of_lt (Nat.lt_succ_of_lt hlS)) its.toArray) s.heap.objs.size hSf (fun i=>ys.getD i ⟨#[]⟩) (fun i v e=>hget i v (by simpa using e)) (by simpa using hb) its.length 0 [] _ (by simp) (Nat.zero_le _) (Nat.le_refl _)
     ⟨⟨_,Heap.get?_push_size _ rfl,rfl,rfl⟩,hl1.push _⟩ ?_ ?_
    ·have hget' :(G.push { cls:= .type "list_iterator",data:= .fields #[.ref l, .int 0 0] }).get? s.heap.objs.size=some { cls:= .type "set",dict:=none,data:= .set #[] 0 (.fresh 0 0 led) }:=Heap.get?_push_of_some _ hS
     exact jZ ((PyProof.Rows.setObjOf_fresh (knd:=strKind prog w) led).setOf hget' (by unfold scanBound; omega)) (fun o e=>e) (by funext x; simp) rfl
    ·intro h' tk' hm hS'
     rw [hys] at hS'
     refine wpAny_pure (show wpAny _ _ (ret Value.none) _ _ _ from wpAny_pure ⟨rfl,h',tk',rfl,hS',fun b o hb e=> ?_⟩)
     refine hm b o (fun z=> ?_) (Heap.get?_push_of_some _ (hGk b o e))
     rcases List.mem_cons.mp z with z | z
     ·exact absurd z (Nat.ne_of_lt hb)
     ·have z' :b=G.objs.size:=List.mem_singleton.mp z
      rw [hGs] at z'
      exact absurd z' (Nat.ne_of_lt (Nat.lt_succ_of_lt hb))
   ·cases r₂ with
    | error e=>exact hr₂
    | ok fl₂=>
     cases fl₂ with
     | ret r=>
      obtain ⟨rfl,h',tk,rfl,hS',hk'⟩:=hr₂
      repeat any_goals (first | assumption | wp_step)
      exact h _ _ hS' hk'
     | _=>exact hr₂.elim
  | _=>exact hr.elim
end
section
variable {X:Cx} {Y:Fx} {a b:Expr} {fa fb:En->R T} {pos pos' p p' :Pos}
theorem qc (hh:X.A.handled=none):j4 X (.type "set") (fun vs H Q=>∃ l xs ts ys,vs=[.ref l]/\H l=some (.lst xs)/\zY H xs ts/\Y8 ts=some ys/\ts.length+1 < 4096/\
  ∀ q,H q=none->Q (.ref q) (upd H q (.ext fun h=>h.SetOf (strKind X.prog X.w) q (fun x=>decide (x∈dd [] ys)) (dd [] ys).length))):=by
 intro pins s σ H vs us Q I rv h
 obtain ⟨l,xs,ts,ys,rfl,hl,r,ey,hb,q⟩:=h
 obtain ⟨u,rfl,ru⟩:=jI rv
 obtain rfl:u=Value.ref l:=ru
 obtain ⟨its,rv,pl,hln,_⟩:=Z8 I (.inl hl) r
 refine qb hh pl (Ww r rv ey) (by unfold scanBound; omega) fun h' tk hS hk=> ?_
 refine ⟨.ref s.heap.objs.size,_,I.laid (t' :=tk) (fun b u e=>hk b u (Heap.lt_size e) e) (Nat.le_refl _) ?_,rfl,q _ (I.hok.fresh (Nat.le_refl _))⟩
 obtain ⟨o,es,ep,t,ho,rr⟩:=id hS
 exact ⟨hS,⟨o,ho⟩,fun h1 h2 ⟨o1,es1,ep1,t1,ho1,rr1⟩ e=>⟨o1,es1,ep1,t1,e _ ho1,rr1⟩⟩
theorem qd:j4 X (.builtin "len") (fun vs H Q=>∃ q φ f n,vs=[.ref q]/\H q=some (.ext φ)/\(∀ h:Heap,φ h->h.SetOf (strKind X.prog X.w) q f n)/\Q (.int n) H):=by
 intro pins s σ H vs us Q I rv h
 obtain ⟨l,φ,f,n,rfl,hl,hφ,q⟩:=h
 obtain ⟨u,rfl,ru⟩:=jI rv
 obtain rfl:u=Value.ref l:=ru
 obtain ⟨h1,_,_⟩:=(show ZH X.prog X.w H s.heap l (.ext φ) from I.hok l _ hl)
 obtain ⟨o,es,ep,t,ho,hex,hd,_,_,hb,hf,hn⟩:=hφ _ h1
 refine call_len_set ho hex hd hf ?_ ⟨.int es.size,H,I.tok _,⟨_,rfl⟩,by rw [hn]; exact q⟩
 have:es.size < 4096:=hb
 omega
def v7:T->R T
 | .lst ts=>match Y8 ts with
  | some ys=>if ts.length+1 < 4096 then .ok (.int (dd [] ys).length) else .bad
  | none=> .bad
 | _=> .bad
theorem kD (hh:X.A.handled=none) (gl:Gl X "len") (mg:X.mg "len"=none) (gl' :Gl X "set") (mg' :X.mg "set"=none) (ha:Jb X Y a fa) (hs:St1 X a:=by exact st1 rfl) (hs' :St1 X (.Call (.Name "set" p') [a] [] pos'):=by exact st1 rfl):
  Snd X Y (.Call (.Name "len" p) [.Call (.Name "set" p') [a] [] pos'] [] pos) (ap1 v7 fa):= .mk fun ρ=>
 PE.imp (jz qd gl mg PySem.boot_len (zH (Jq (qc hh) gl' mg' PyProof.Rows.Boot.«set» (zH (ha ρ) Zu hs) (by decide) (by decide) hs rfl) Zu hs') (by decide) (by decide) hs' rfl) fun σ H Q ⟨B,I,q⟩=>
  step I q fun t v H1 _ s1 r1 I1 q1=>by
   cases r1 with
   | @lst l xs ts h r=>
    have q1:Po Y rC _ H1 (match Y8 ts with | some ys=>if ts.length+1 < 4096 then .ok (.int (dd [] ys).length) else .bad | none=> .bad) Q:=q1
    split at q1
    ·rename_i ys e
     split at q1
     ·rename_i hl
      refine ⟨l,xs,ts,ys,rfl,h,r,e,hl,fun z hz=>⟨z,_,_,_,rfl,Zb,fun h hh=>hh, ?_⟩⟩
      exact q1 _ _ (zK.new hz _) (.int _)
     ·exact q1.elim
    ·exact q1.elim
   | _=>exact q1.elim
def KA (i j:Nat) (ga:En->R (List T)):En->RS:=fun ρ=>(ga ρ).s fun ts=>match ts with
 | [x,y]=> .nx ((ρ.set i (.vl x)).set j (.vl y))
 | _=> .bad
theorem gS {i j:Nat} {x y:Str} {ga:En->R (List T)} {px py pt pt2:Pos} {kt k2:Nat} (hc:X.calm=true) (hN:X.N.Nodup) (hi:X.N[i]? =some x) (hj:X.N[j]? =some y) (hij:i ≠ j) (hx:X.env.scope.names.lookup x=some .local) (hy:X.env.scope.names.lookup y=some .local)
  (ha:U9 X Y [a,b] ga) (hs:swappedStores [.Tuple [.Name x px, .Name y py] kt pt] (.Tuple [a,b] k2 pt2) X.env=pure (some [x,y])) (hw:swapsWithSole [.Tuple [.Name x px, .Name y py] kt pt] (.Tuple [a,b] k2 pt2) pos.line X.env=pure false:=by rfl):
  Ws X Y (.Assign [.Tuple [.Name x px, .Name y py] kt pt] (.Tuple [a,b] k2 pt2) pos) (KA i j ga):= .mk fun ρ=>
 PS.imp (XS hc hN hi hj hij hx hy (ha ρ) hs hw) fun D σ H ⟨B,I,q⟩=>wy I q fun ts vs H1 _ s1 r1 I1 q1=>by
  cases r1 with
  | nil=>exact q1.elim
  | cons r rr=>
   cases rr with
   | nil=>exact q1.elim
   | cons r' rr=>
    cases rr with
    | cons _ _=>exact q1.elim
    | nil=>exact ⟨_,_,rfl,q1 _ _ _ (zK.refl _) ((I1.setV i r).setV j r')⟩
end
theorem kE {X:Cx} {E:XK}:Jf CX0 X E:=fun _ _ _ _ _ _ _ h=>h.elim
section
variable {X:Cx} {Y:Fx} {a b:Expr} {fa fb:En->R T} {pos pos' p p' :Pos}
theorem xt {cl:Nat->Value} {k j n:Nat} {f:Addr} {fd:FuncData} {ps:List Str} {g:List T->R T} {x:Str} {es:List Expr} {ga:En->R (List T)} (hy:Y.cl=cl) (F:ZB X.prog X.w X.K X.mg X.base CX0 j f fd ps (spP cl n g)) (hr:JG k X.A) (hj:j<=k) (gl:Gl X x)
  (mg:X.mg x=some (.ref f)) (kp:PySem.W.keepIn X.K (.ref f)=true) (bd:L2.Binds X.K fd ps []) (ha:U9 X Y (a :: es) ga) (hd:(x == ("__debug__":Str))=false:=by decide)
  (hs:starEach (a :: es) X.env=(false,eval a X.env) :: starEach es X.env:=by exact Zv rfl) (hz:((backTo pos (starEach es X.env)).any fun x=>x.fst)=false:=by exact j8 rfl):Snd X Y (.Call (.Name x p) (a :: es) [] pos) (zc n g ga):=by
 subst hy
 exact V9 F (hr.mono hj) gl mg kp bd kE ha hd hs hz
theorem xu {x:Str} {i:Int} {u:Value} (gl:Gl X x) (mg:X.mg x=some u) (hu:∃ t,u=Value.int i t) (hd:(x == ("__debug__":Str))=false:=by decide):Snd X Y (.Name x pos) (cE (.int i)):= .mk fun ρ=>
 PE.imp (Yd (v:= .int i) gl mg hu hd) fun σ H Q ⟨B,I,q⟩=>jc I q (.int i)
end
def gT (scope sc0:Scope):Bool:=(scope.kind == .function) && scope.names.all (fun x=>x.2 != .cell) && scope.names.all (fun x=>x.2 != .local || scope.names.lookup x.1 == some .local) &&
 scope.names.all (fun x=>x.2 != .free || sc0.names.lookup x.1 == some .cell || sc0.names.lookup x.1 == some .free)
theorem kF {X:Cx} {scope:Scope} (sc0:Scope) (h0:X.env.scope=sc0) (h:gT scope sc0=true):CSc X scope:=by
 unfold gT at h
 simp only [Bool.and_eq_true,List.all_eq_true] at h
 obtain ⟨⟨⟨h1,h2⟩,h3⟩,h4⟩:=h
 refine ⟨eq_of_beq h1,fun x hx=>by simpa using h2 x hx,fun x hx hl=> ?_,fun x hx hf=> ?_⟩
 ·have:=h3 x hx
  rw [hl] at this
  simpa using this
 ·have:=h4 x hx
  rw [hf] at this
  show X.env.scope.names.lookup x.1=_\/X.env.scope.names.lookup x.1=_
  rw [h0]
  simpa using this
def gU (N N' :List Str) (scope sc0:Scope) (k:Nat) (js:List Nat):Bool:=(N'.length == k+js.length) && (List.range js.length).all fun i=>match js[i]? with
 | none=>true
 | some j=>match N'[k+i]?,N[j]? with
  | some x,some y=>(x == y) && (sc0.names.lookup x == some .cell || sc0.names.lookup x == some .free) && (scope.names.lookup x == some .free)
  | _,_=>false
theorem xv {X:Cx} {scope:Scope} {N' :List Str} {k:Nat} {js:List Nat} (N:List Str) (sc0:Scope) (hN:X.N=N) (h0:X.env.scope=sc0) (h:gU N N' scope sc0 k js=true):gR X scope N' k js:=by
 unfold gU at h
 simp only [Bool.and_eq_true,List.all_eq_true] at h
 obtain ⟨h1,h2⟩:=h
 refine ⟨eq_of_beq h1,fun i j e=> ?_⟩
 have hi:i < js.length:=(List.getElem?_eq_some_iff.mp e).1
 have q:=h2 i (List.mem_range.mpr hi)
 rw [e] at q
 dsimp only at q
 split at q
 ·rename_i x y e1 e2
  simp only [Bool.and_eq_true,Bool.or_eq_true,beq_iff_eq] at q
  obtain ⟨⟨rfl,q2⟩,q3⟩:=q
  refine ⟨x,e1,by rw [hN]; exact e2, ?_,q3, ?_⟩
  ·unfold Vis
   rw [h0]
   exact .inr q2
  ·show X.env.scope.names.lookup x=_\/X.env.scope.names.lookup x=_
   rw [h0]
   exact q2
 ·cases q
theorem zW {X:Cx} {Y:Fx} {tg iter elt:Expr} {ifs:List Expr} {scope:Scope} {k:Nat} {js:List Nat} {fi:En->R (List T)} {tG:TG} {g:T->En->R En} {ft:En->R Bool} {fe:En->R T} (N' :List Str) (N:List Str) (sc0:Scope) (hN:X.N=N) (h0:X.env.scope=sc0)
  (h:(gT scope sc0 && gU N N' scope sc0 k js)=true) (cm:X.calm=true) (it:YW X Y tg iter fi) (gt:QW X scope N' fun XC=>PG XC tg tG) (gk:GOk tG g) (gn:GNo g) (tt:∀ Y',Y'.cl=Y.cl->QW X scope N' fun XC=>yP XC Y' ifs ft)
  (el:∀ Y',Y'.cl=Y.cl->QW X scope N' fun XC=>Snd XC Y' elt fe) (hs:∀ x,foldedSetIterable iter X.env x=pure x:=by intro _; rfl):UO X Y tg iter elt ifs scope N' k js fi tG g ft fe:=by
 rw [Bool.and_eq_true] at h
 exact ⟨kF sc0 h0 h.1,xv N sc0 hN h0 h.2,cm,it,gt,gk,gn,tt,el,hs⟩
end PV
namespace PV
open PySem PySem.Spec PyProof.Rows L2 PySem.W
section
variable {X:Cx} {Y:Fx} {a b:Expr} {fa fb:En->R T} {pos pos' p p' :Pos}
theorem xw {cl:Nat->Value} {k j n:Nat} {f:Addr} {fd:FuncData} {ps:List Str} {g:List T->R T} {x:Str} {es:List Expr} {ga:En->R (List T)} (hy:Y.cl=cl) (hp:Jf (CX1 X.prog X.w) X Y.E) (F:ZB X.prog X.w X.K X.mg X.base (CX1 X.prog X.w) j f fd ps (spP cl n g)) (hr:JG k X.A) (hj:j<=k) (gl:Gl X x)
  (mg:X.mg x=some (.ref f)) (kp:PySem.W.keepIn X.K (.ref f)=true) (bd:L2.Binds X.K fd ps []) (ha:U9 X Y (a :: es) ga) (hd:(x == ("__debug__":Str))=false:=by decide)
  (hs:starEach (a :: es) X.env=(false,eval a X.env) :: starEach es X.env:=by exact Zv rfl) (hz:((backTo pos (starEach es X.env)).any fun x=>x.fst)=false:=by exact j8 rfl):Snd X Y (.Call (.Name x p) (a :: es) [] pos) (zc n g ga):=by
 subst hy
 exact V9 F (hr.mono hj) gl mg kp bd hp ha hd hs hz
end
def qe (c:Nat):En->RS:=fun _=> .ex c
section
variable {P:Program} {w:World} {K:PySem.W.Frag} {mg:Str->Option Value} {base:Heap} {N:List Str} {qual:Str} {scope:Scope} {f:Addr} {cd:Value} {A:Around} {outer:List Env} {s:Shared} {H:Hp} {E:XK} {Y:Fx}
theorem qf {x m:Str} {C:Addr} {bm bmN:List Value} {Bn Bb newId nid initId inN:String} {np cpos pos ap:Pos} {j c:Nat} (O:OwnCls x C bm newId mg base) (Fn:ExcBaseFacts Bn newId inN bmN) (hBn:bm.contains (.type Bn)=true) (FB:ExcBaseFacts Bb nid initId bm)
  (hY:Y.E=E) (hc:Y.cl c= .ref C) (hg:Gl (wV (CX1 P w) P w K mg base N qual scope f cd A outer s H E) x) (hd:(x == ("__debug__":Str))=false:=by decide):
  Ws (wV (CX1 P w) P w K mg base N qual scope f cd A outer s H E) Y (.Raise (some (.Call (.Name x np) [.Constant (.str m) j ap] [] cpos)) none pos) (qe c):= .mk fun ρ=>by
 subst hY
 refine PS.imp (YA O Fn hBn FB hg ((za zF zi:U9 (wV (CX1 P w) P w K mg base N qual scope f cd A outer s H Y.E) Y [.Constant (.str m) j ap] _) ρ) (Zv rfl) hd) fun D σ H1 ⟨B,I,q⟩=>⟨B,I,fun vs H2 s2 r2=> ?_⟩
 have q:XP Y B c:=q
 refine ⟨?_, ?_⟩
 ·rw [r2.length]; exact (by decide:1<=sizeLine)
 ·have:=q none H2 (I.sH.trans s2) (I.sB.trans s2)
  rw [hc] at this
  exact this
theorem Fun.okX {x qual:Str} {st:Stmt} {f:Addr} {fd:FuncData} {N ps:List Str} {k:Nat} {sp:Sp} (F:Fun K x qual st f fd) (S:zp N ps (zf st)) (len:∀ vs H Q E,sp vs H Q E->vs.length=ps.length)
  (hbody:∀ (cdv:Value) (A:Around) (outer:List Env) (s:Shared) (H:Hp) (vs:List V) (Q:VK) (E:XK),JG k (A.deeper (envOfC qual (zf st) s.heap.objs.size f cdv))->sp vs H Q E->
   ∃ t,PSs (wV (CX1 P w) P w K mg base N qual (zf st) f cdv A outer s H E) (ZT st) t/\t { nx:=fun _ H' =>Q .non H',rt:=Q } (start N vs) H):ZB P w K mg base (CX1 P w) (k+1) f fd ps sp:=by
 obtain ⟨oc,od,kV,doc,pm,an,cdv,ct,osl,rfl,lk,hcd⟩:=F.ex
 exact ka lk hcd S len fun A outer s H vs Q E hr hsp=>hbody cdv A outer s H vs Q E hr hsp
theorem Wc {cl:Nat->Value} {x qual:Str} {st:Stmt} {f:Addr} {fd:FuncData} {N ps:List Str} {k n:Nat} {fb:En->RS} {g:List T->R T} (F:Fun K x qual st f fd) (S:zp N ps (zf st)) (hn:n=ps.length)
  (hb:∀ (cdv:Value) (A:Around) (outer:List Env) (s:Shared) (H:Hp) (E:XK) (Y:Fx),Y.cl=cl->Y.E=E->JG k (A.deeper (envOfC qual (zf st) s.heap.objs.size f cdv))->
   UN (wV (CX1 P w) P w K mg base N qual (zf st) f cdv A outer s H E) Y (ZT st) fb)
  (hg:∀ ts,ts.length=n->g ts=zo (fb (en0 N.length ts))):ZB P w K mg base (CX1 P w) (k+1) f fd ps (spP cl n g):=by
 subst hn
 refine Fun.okX F S spP.len fun cdv A outer s H vs Q E hr ⟨B,ts,hl,sB,r,q⟩=> ?_
 refine ⟨_,hb cdv A outer s H E ⟨B,H,E,cl⟩ rfl rfl hr (en0 N.length ts),B,SI.start (Y:=⟨B,H,E,cl⟩) sB r, ?_⟩
 rw [hg ts hl] at q
 revert q
 cases fb (en0 N.length ts) with
 | rt t=>exact fun q v H' s r=>q v H' s r
 | rf t=>exact fun q a xs H' B' s0 n e r _ l=>q (.ref a) H' s0 (.lst (by rw [Zw n]; exact e) (r.mono l))
 | nx ρ=>exact fun q σ' H' B' s' I' =>q _ H' I'.sH .non
 | bk ρ=>exact fun q=>q.elim
 | ct ρ=>exact fun q=>q.elim
 | ex c=>exact fun q=>q
 | bad=>exact fun q=>q
end
def xx (k:Nat) (ok:Nat->Bool) (fb:En->RS):En->RS:=fun ρ=>match fb ρ with
 | .ex c=>if ok c=true then .nx ((List.replicate ρ.length Sl.un).set k (.xc c)) else .bad
 | r=>r
theorem SI.wish {Y:Fx} {B:Hp} {ρ:En} {σ:Sg} {H:Hp} (I:SI Y B ρ σ H) (E:XK):SI { Y with E:=E } B ρ σ H:=⟨I.s0,I.sH,I.sB,I.old,I.len,I.vl,I.ow,I.xc⟩
theorem SI.unwish {Y:Fx} {B:Hp} {ρ:En} {σ:Sg} {H:Hp} {E:XK} (I:SI { Y with E:=E } B ρ σ H):SI Y B ρ σ H:=⟨I.s0,I.sH,I.sB,I.old,I.len,I.vl,I.ow,I.xc⟩
theorem SI.caught {Y:Fx} {B:Hp} {σ:Sg} {H' :Hp} {ea:Addr} {c k m:Nat} (s0:zK Y.B0 Y.H0) (old:∀ b o,Y.H0 b=some o->B b=Y.B0 b) (hH:zK Y.H0 H') (hB:zK B H') (he:H' ea=none) (hl:m=σ.length) (hk:σ[k]? =some (some (V.ref ea))):
  ∃ B',zK B B' /\SI Y B' ((List.replicate m Sl.un).set k (.xc c)) σ (upd H' ea (.ext (U8 (Y.cl c) ea))):=by
 have up:zK H' (upd H' ea (.ext (U8 (Y.cl c) ea))):=zK.new he _
 have h0:Y.H0 ea=none:=hH.free he
 refine ⟨Z5 Y.B0 Y.H0 (upd H' ea (.ext (U8 (Y.cl c) ea))),fun b o e=> ?_,⟨s0,hH.trans up,fun b o e=> ?_,fun b o e=>by rw [Zs e],by rw [List.length_set,List.length_replicate,hl],fun i t e=> ?_,fun i ts e=> ?_,fun i d e=> ?_⟩⟩
 ·cases q:Y.H0 b with
  | none=>rw [Zw q]; exact up b o (hB b o e)
  | some u=>rw [Zs q,← old b u q]; exact e
 ·cases q:Y.H0 b with
  | none=>rw [Zw q] at e; exact e
  | some u=>rw [Zs q] at e; exact up b o (hH b o (s0 b o e))
 ·rcases zT e with ⟨_,z⟩ | ⟨_,z⟩
  ·cases z
  ·rw [List.getElem?_replicate] at z; split at z <;> cases z
 ·rcases zT e with ⟨_,z⟩ | ⟨_,z⟩
  ·cases z
  ·rw [List.getElem?_replicate] at z; split at z <;> cases z
 ·rcases zT e with ⟨rfl,z⟩ | ⟨_,z⟩
  ·cases z
   exact ⟨ea,hk,by rw [Zw h0,Zb]⟩
  ·rw [List.getElem?_replicate] at z; split at z <;> cases z
theorem gW {X:Cx} {Y:Fx} {fb:En->RS} {body:List Stmt} {c n y:Str} {C:Addr} {cp np yp hp apos pos:Pos} {i k:Nat} {ok:Nat->Bool}
  (hX:X.stack=X.env :: X.outer) (hf:X.env.frame=some X.env.locals) (hN:X.N.Nodup)
  (hi:X.N[i]? =some n) (hl:X.env.scope.names.lookup n=some .local) (hk:X.N[k]? =some y) (hy:X.env.scope.names.lookup y=some .local) (hik:i ≠ k)
  (hg:Gl X c) (hm:X.mg c=some (.ref C)) (hok:∀ c,ok c=true->exmOne X.K (Y.cl c) (.ref C)=some true)
  (hb:∀ (E' :XK) (pn:List (Addr×Obj)) (xe:Value->Shared->Prop),Jf (CX1 X.prog X.w) (X.try' pn xe) E' ->UN (X.try' pn xe) { Y with E:=E' } body fb)
  (hs:swapsWith (.Name n np) (some (.Name y yp)) apos.line X.env=pure false:=by rfl)
  (hdc:(c == ("__debug__":Str))=false:=by decide) (hdn:(n == ("__debug__":Str))=false:=by decide) (hcd:(n == ("__classdict__":Str))=false:=by decide):
  Ws X Y (.Try body [.ExceptHandler (some (.Name c cp)) (some n) [.Assign [.Name y yp] (.Name n np) apos] hp] [] [] pos) (xx k ok fb):= .mk fun ρ=>by
 refine PS.imp (VV (tb:=fun E' =>tSS { Y with E:=E' } fb ρ) hX hf hN hi hl hk hy hg hm (fun E' pn xe p=>hb E' pn xe p ρ) hs hdc hdn hcd) fun D σ H ⟨B,I,q⟩=> ?_
 refine ⟨fun cls _ H' =>zK Y.H0 H' /\zK B H' /\∃ c,cls=Y.cl c/\ok c=true/\PoS Y B (.nx ((List.replicate ρ.length Sl.un).set k (.xc c))) D,fun cls d H' ea σ' ⟨s1,s2,c,e1,e2,q1⟩=> ?_,B,I.wish _, ?_⟩
 ·subst e1
  refine ⟨hok c e2,fun he hl' hX' => ?_⟩
  have hkl:k < σ'.length:=by rw [hl',hX']; exact (List.getElem?_eq_some_iff.mp hk).1
  have hlen:ρ.length=((((σ'.set i (some (V.ref ea))).set k (some (V.ref ea))).set i none):Sg).length:=by
   rw [List.length_set,List.length_set,List.length_set,hl',I.len]
  obtain ⟨B',b1,b2⟩:=SI.caught (c:=c) (σ:=((σ'.set i (some (V.ref ea))).set k (some (V.ref ea))).set i none) (k:=k) I.s0 I.old s1 s2 he hlen (by
   rw [List.getElem?_set_ne hik,List.getElem?_set_self (by rw [List.length_set]; exact hkl)])
  exact q1 _ _ B' b1 b2
 ·unfold xx at q
  cases e:fb ρ with
  | nx ρ' =>rw [e] at q; exact fun σ' H' B' s' I' =>q σ' H' B' s' I'.unwish
  | rt t=>rw [e] at q; exact q
  | rf t=>rw [e] at q; exact q
  | bk ρ' =>rw [e] at q; exact fun σ' H' B' s' I' =>q σ' H' B' s' I'.unwish
  | ct ρ' =>rw [e] at q; exact fun σ' H' B' s' I' =>q σ' H' B' s' I'.unwish
  | bad=>rw [e] at q; exact q
  | ex c=>
   rw [e] at q
   dsimp only at q
   split at q
   ·rename_i hc
    exact fun d H' s1 s2=>⟨s1,s2,c,rfl,hc,q⟩
   ·exact q.elim
end PV
namespace PySem.W
open PySem PySem.Calls PyProof.Rows PySem.Spec Builtin Builtin.ObjectAttr Builtin.Getset_descriptor
section
variable {prog:Program} {w:World} {A:Around} {E:Value->Shared->Prop} {s:Shared} {K:Frag} {x C:Addr}
theorem uq {tp:Value} {R:Result->Shared->Prop} (X:K.In s.heap) (L0:Looks (model prog w) s.heap (typeOf (.ref x)) (.ref C)) (hm:mroIn K C (.type "object")=some true)
  (h:R (.ok (.ret (.ref C))) s):codeAny (model prog w) A (.call (.builtin "getset_descriptor.__get__") ⟨[.builtin "object.__class__", .ref x,tp],[]⟩) R s:=by
 obtain ⟨hh,g,dr,t,os⟩:=s
 have L1:=looks_mroIn (M:=model prog w) X hm
 refine codeAny_call_builtin KF.slot_gs.plain KF.entry_gs (KF.slot_gs.check _ _ _ _ _ _ _ _ KF.type_class (KF.args_gs _ _ _) ?_)
 unfold Builtin.«getset_descriptor.__get__» descrGet
 rw [dga_obj]
 refine wpAny_bind (wpAny_pure ?_)
 unfold descrGetter descrCheckInstance descrNameAndClass isInstance
 simp only [KF.owner_class]
 repeat lk
 refine ⟨Code.quiet_builtin _ (by decide+kernel),codeAny_builtin KF.entry_class ?_⟩
 unfold Builtin.«object.__class__» shownTypeOf
 repeat lk
 exact h
theorem xy {M:Model} {h:Heap} (X:K.In h) (ha:findIn K (.ref C) "__class__"=some (some (.builtin "object.__class__"))) (hn:specialIn K (.builtin "object.__class__") "__get__"=some (some (.builtin "getset_descriptor.__get__")))
  (htk:takesIn K (.builtin "object.__class__")=some true):Looks M h (find (.ref x) (.ref C) "__class__") (.bind (.builtin "getset_descriptor.__get__") (.builtin "object.__class__")):=by
 have L1:=looks_findIn (M:=M) X ha
 have L2:Looks M h (getOf (some (.builtin "object.__class__"))) (some (.builtin "getset_descriptor.__get__")):=looks_specialIn X hn
 have L3:=looks_takesIn (M:=M) X htk
 refine L1.andThen (L2.andThen ?_)
 exact (show Looks M h (dataDescriptor? (some (.builtin "object.__class__")) (some (.builtin "getset_descriptor.__get__"))) (some (.builtin "getset_descriptor.__get__", .builtin "object.__class__")) from L3.andThen .now).andThen (Looks.tag .now)
theorem v8 {M:Model} {nameV:Value} {Q:Unit->Shared->Prop} (L0:Looks M s.heap (typeOf (.ref x)) (.ref C)) (L1:Looks M s.heap (isSubtype (.ref C) (.type "BaseException")) true) (hq:Q () s):wpAny M A (checkBuiltinCall "BaseException.__getattribute__" ⟨[.ref x,nameV],[]⟩) Q E s:=by
 have hk:builtinKind "BaseException.__getattribute__"=some .slot:=by decide+kernel
 have hsplit:splitId "BaseException.__getattribute__"=some ("BaseException","__getattribute__"):=by decide+kernel
 have ha:=PySem.F.args_bexc_ga (.ref x) nameV
 obtain ⟨hh,g,d,t,os⟩:=s
 simp only [checkBuiltinCall,hk,hsplit]
 refine wpAny_bind ?_
 unfold isInstance
 repeat (first | lk | wp_step)
 exact hq
end
end PySem.W
namespace PySem.W
open PySem PySem.Calls PyProof.Rows PySem.Spec Builtin Builtin.ObjectAttr Builtin.Getset_descriptor
section
variable {prog:Program} {w:World} {A:Around} {E:Value->Shared->Prop} {s:Shared} {K:Frag} {x C:Addr}
structure XCls (K:Frag) (C:Addr):Prop where
 ga:findIn K (.ref C) "__getattribute__"=some (some (.builtin "BaseException.__getattribute__"))
 gt:findIn K (.ref C) "__getattr__"=some none
 ca:findIn K (.ref C) "__class__"=some (some (.builtin "object.__class__"))
 sp:specialIn K (.builtin "object.__class__") "__get__"=some (some (.builtin "getset_descriptor.__get__"))
 tk:takesIn K (.builtin "object.__class__")=some true
 ob:mroIn K C (.type "object")=some true
 be:mroIn K C (.type "BaseException")=some true
 cl:(clsIn K C).isSome=true
theorem v9 {tk:Tok} {Q:Fin->Shared->Prop} (X:K.In s.heap) (c:XCls K C) (L0:Looks (model prog w) s.heap (typeOf (.ref x)) (.ref C)) (hq:Q (.done (.ret (.ref C))) s):
  wpAny (model prog w) A (Builtin.«object.__getattribute__» ⟨[.ref x, .str "__class__" tk],[]⟩) Q E s:=by
 obtain ⟨hh,g,d,t,os⟩:=s
 have L1:=xy (M:=model prog w) (x:=x) X c.ca c.sp c.tk
 refine wpAny_bind (wpAny_pure (wpAny_bind (wpAny_pure (wpAny_bind (L0.at (wpAny_bind (L1.at ?_)))))))
 show wpAny _ _ (bindTo _ _ _ _) _ _ _
 unfold bindTo
 refine wpAny_bind (wpAny_call (uq X L0 c.ob ?_))
 exact wpAny_pure hq
end
end PySem.W
namespace PySem.W
open PySem PySem.Calls PyProof.Rows PySem.Spec Builtin Builtin.ObjectAttr Builtin.Getset_descriptor
section
variable {prog:Program} {w:World} {A:Around} {E:Value->Shared->Prop} {s:Shared} {K:Frag} {x C:Addr}
theorem va {Q:Option Value->Shared->Prop} (X:K.In s.heap) (c:XCls K C) (L0:Looks (model prog w) s.heap (typeOf (.ref x)) (.ref C)) (h:Q (some (.ref C)) { s with toks:=s.toks+1 }):wpAny (model prog w) A (getAttr? (.ref x) "__class__") Q E s:=by
 obtain ⟨hh,g,d,t,os⟩:=s
 have L1:=looks_findIn (M:=model prog w) X c.ga
 have L2:=looks_findIn (M:=model prog w) X c.gt
 have L3:=looks_mroIn (M:=model prog w) X c.be
 have fb:=PySem.F.attr_ValueError.ga.bind (.ref x)
 unfold getAttr? getAttrBy? getAttrBy
 refine wpAny_bind (wpAny_mkText (wpAny_bind (wpAny_attempt (wpAny_holding (wpAny_bind (L0.at (wpAny_bind (L1.at ?_))))))))
 dsimp only
 have hx2:(Value.builtin "BaseException.__getattribute__" == Value.builtin "object.__getattribute__")=false:=by decide+kernel
 rw [if_neg (by rw [hx2]; simp)]
 unfold getAttrByItsOwn hookBefore
 refine wpAny_bind ?_
 rw [if_pos (by rfl)]
 refine L2.at ?_
 refine wpAny_bind (wpAny_attempt (wpAny_holding ?_))
 unfold callGetattribute
 rw [if_neg (by simp)]
 unfold boundAndCalled
 rw [fb]
 refine wpAny_bind (wpAny_pure ?_)
 refine wpAny_call (codeAny_call_builtin PySem.F.attr_ValueError.ga.plain PySem.F.entry_bexc_ga (v8 (s:=⟨hh,g,d,t+1,os⟩) L0 L3 (v9 (s:=⟨hh,g,d,t+1,os⟩) X c L0 ?_)))
 exact handed_on rfl (wpAny_pure h)
theorem xz (c:XCls K C):KitX K (.ref x) (.ref C) (fun h=>∃ o,h.get? x=some o/\o.cls= .ref C) where
 ty:=fun M h _ ⟨o,h1,h2⟩=>h2 ▸ (Looks.ld h1).andThen .now
 it:=fun _ _ X _=>by
  obtain ⟨cdD,hcD⟩:=Option.isSome_iff_exists.mp c.cl
  unfold clsIn at hcD
  split at hcD
  ·rename_i c' d' cd' sl' ho
   intro A' Q' E' s' k q
   unfold isType loadHead
   exact wpAny_bind (wpAny_loadPart (k _ _ (X _ _ ho)) (wpAny_pure q))
  ·cases hcD
 ne:=fun h tp dd its n sl X htp=>by
  obtain ⟨cdD,hcD⟩:=Option.isSome_iff_exists.mp c.cl
  refine Bool.eq_false_iff.mpr fun q=> ?_
  have e:C=tp:=Value.ref.inj (beq_iff_eq.mp q)
  subst e
  unfold clsIn at hcD
  split at hcD
  ·rename_i c' d' cd' sl' ho
   have z:=(X _ _ ho).symm.trans htp
   cases z
  ·cases hcD
 ca:=fun {prog w A E Q s} X ⟨o,h1,h2⟩ k=>va X c (h2 ▸ (Looks.ld h1).andThen .now) k
end
end PySem.W
namespace PV
open PySem PySem.Spec PyProof.Rows L2 PySem.W
section
variable {X:Cx} {Y:Fx} {a b:Expr} {fa fb:En->R T} {pos pos' p p' :Pos}
def wF (i:Nat) (ok tab:Nat->Bool):En->R T:=fun ρ=>match ρ[i]? with
 | some (.xc c)=>if ok c=true then .ok (.bl (tab c)) else .bad
 | _=> .bad
theorem ur:j4 X (.builtin "isinstance") (fun xs H Q=>∃ a C v b,xs=[.ref a,v]/\H a=some (.ext (U8 (.ref C) a))/\XCls X.K C/\(∀ u,ZL v u->kitOne X.K (.ref C) u=some b)/\Q (.bl b) H):=by
 intro pins s σ H xs us Q I rv h
 obtain ⟨a,C,v,b,rfl,e,c,hk,q⟩:=h
 obtain ⟨u,w,rfl,ru,rw'⟩:=yA rv
 obtain rfl:u=Value.ref a:=ru
 obtain ⟨hx,_,_⟩:=(show ZH X.prog X.w H s.heap a (.ext (U8 (.ref C) a)) from I.hok a _ e)
 exact kia_one (xz c) I.kIn hx (hk w rw') (fun z=>nomatch z) fun tk=>⟨.bl _,H,I.tok tk,rfl,q⟩
structure XK1 (K:Frag) (cl:Nat->Value) (ok:Nat->Bool):Prop where
 at_:∀ c,ok c=true->∃ C,cl c= .ref C/\XCls K C
theorem JK {i:Nat} {ok tab:Nat->Bool} {y cn:Str} {C:Addr} {yp cp:Pos} (hK:XK1 X.K Y.cl ok) (ht:∀ c,ok c=true->kitOne X.K (Y.cl c) (.ref C)=some (tab c)) (gl:Gl X "isinstance") (mg:X.mg "isinstance"=none) (hv:PE X (.Name y yp) (Yc i)) (gl' :Gl X cn) (mg' :X.mg cn=some (.ref C))
  (hd:(cn == ("__debug__":Str))=false:=by decide):Snd X Y (.Call (.Name "isinstance" p) [.Name y yp, .Name cn cp] [] pos) (wF i ok tab):= .mk fun ρ=>
 PE.imp (jz ur gl mg PyProof.Rows.Boot.«isinstance» (zH hv (zH (Yd (v:= .ref C) gl' mg' rfl hd) Zu (st1 rfl)) (st2 rfl rfl)) (by decide) (by decide) (by rw [st2 rfl rfl,st1 rfl]) (j8 rfl)) fun σ H Q ⟨B,I,q⟩=>by
  unfold wF at q
  split at q
  ·rename_i c e
   split at q
   ·rename_i hc
    obtain ⟨a,e1,r⟩:=I.xc i c e
    obtain ⟨Cc,e2,xc⟩:=hK.at_ c hc
    have ht' :=ht c hc
    rw [e2] at r ht'
    exact ⟨_,e1,a,Cc,_,_,rfl,I.sB a _ r,xc,fun u ru=>by obtain rfl:u=Value.ref C:=ru; exact ht',jc I q (.bl _)⟩
   ·exact q.elim
  ·exact q.elim
theorem xA {i:Nat} {ok tab:Nat->Bool} {y:Str} {n:String} {yp cp:Pos} (hK:XK1 X.K Y.cl ok) (ht:∀ c,ok c=true->kitOne X.K (Y.cl c) (.type n)=some (tab c)) (gl:Gl X "isinstance") (mg:X.mg "isinstance"=none) (hv:PE X (.Name y yp) (Yc i)) (gl' :Gl X (Str.ofString n)) (mg' :X.mg (Str.ofString n)=none)
  (bt:bootBuiltins (Str.ofString n)=some (.type n)) (hn:Str.ofString n ≠ "__name__":=by decide) (hd:(Str.ofString n == ("__debug__":Str))=false:=by decide):Snd X Y (.Call (.Name "isinstance" p) [.Name y yp, .Name (Str.ofString n) cp] [] pos) (wF i ok tab):= .mk fun ρ=>
 PE.imp (jz ur gl mg PyProof.Rows.Boot.«isinstance» (zH hv (zH (Ye (v:= .ty n) gl' mg' bt rfl hn hd) Zu (st1 rfl)) (st2 rfl rfl)) (by decide) (by decide) (by rw [st2 rfl rfl,st1 rfl]) (j8 rfl)) fun σ H Q ⟨B,I,q⟩=>by
  unfold wF at q
  split at q
  ·rename_i c e
   split at q
   ·rename_i hc
    obtain ⟨a,e1,r⟩:=I.xc i c e
    obtain ⟨Cc,e2,xc⟩:=hK.at_ c hc
    have ht' :=ht c hc
    rw [e2] at r ht'
    exact ⟨_,e1,a,Cc,_,_,rfl,I.sB a _ r,xc,fun u ru=>by obtain rfl:u=Value.type n:=ru; exact ht',jc I q (.bl _)⟩
   ·exact q.elim
  ·exact q.elim
def kG (i:Nat):En->R Bool:=fun ρ=>match ρ[i]? with
 | some (.xc _)=> .ok false
 | some (.vl t)=>Qy t .non
 | _=> .bad
theorem kH:OpR X (compareOp .Is) (fun x y H Q=>y= .non/\((∃ a,x= .ref a/\Q (.bl false) H)\/∃ t b,Rep H x t/\Qy t .non= .ok b/\Q (.bl b) H)):=by
 intro pins s σ H x y v u Q I rx ry h
 obtain ⟨rfl,h⟩:=h
 rcases h with ⟨a,rfl,q⟩ | ⟨t,b,r,e,q⟩
 ·obtain rfl:u=Value.none:=ry
  obtain rfl:v=Value.ref a:=rx
  exact wpAny_is_plain rfl ⟨.bl false,H,I,rfl,q⟩
 ·exact kq pins s σ H x .non v u Q I rx ry ⟨t, .non,b,r, .non,e,q⟩
theorem kI {i:Nat} {y:Str} {yp:Pos} {j:Nat} (hv:PE X (.Name y yp) (Yc i)):uh X Y (.Compare (.Name y yp) [.Is] [.Constant .none j p'] pos) (kG i):= .mk fun ρ=>
 PT.imp (Ym kH hv V0 (by rfl)) fun σ H Q ⟨B,I,q⟩=>by
  unfold kG at q
  split at q
  ·rename_i c e
   obtain ⟨a,e1,r⟩:=I.xc i c e
   exact ⟨_,e1,rfl, .inl ⟨a,rfl,false,rfl,jc I q rfl⟩⟩
  ·rename_i t e
   obtain ⟨v,e1,r⟩:=I.vl i t e
   refine ⟨v,e1,rfl, .inr ?_⟩
   cases ek:Qy t .non with
   | bad=>rw [ek] at q; exact q.elim
   | ex c=>exact absurd ek (ko _ _ _)
   | ok b=>rw [ek] at q; exact ⟨t,b,r.mono I.sB,ek,b,rfl,jc I q rfl⟩
  ·exact q.elim
def spC (cl:Nat->Value) (gx:Nat->R T):Sp:=fun vs H Q E=>∃ B a c,vs=[V.ref a]/\zK B H/\B a=some (.ext (U8 (cl c) a))/\Po ⟨B,H,E,cl⟩ rC B H (gx c) Q
def xB (i:Nat) (gx:Nat->R T):En->R T:=fun ρ=>match ρ[i]? with
 | some (.xc c)=>gx c
 | _=> .bad
theorem xC {cl:Nat->Value} {k j i:Nat} {f:Addr} {fd:FuncData} {q:Str} {gx:Nat->R T} {x y:Str} {yp:Pos} (hy:Y.cl=cl) (F:ZB X.prog X.w X.K X.mg X.base CX0 j f fd [q] (spC cl gx)) (hr:JG k X.A) (hj:j<=k) (gl:Gl X x)
  (mg:X.mg x=some (.ref f)) (kp:PySem.W.keepIn X.K (.ref f)=true) (bd:L2.Binds X.K fd [q] []) (hv:PE X (.Name y yp) (Yc i)) (hd:(x == ("__debug__":Str))=false:=by decide):Snd X Y (.Call (.Name x p) [.Name y yp] [] pos) (xB i gx):= .mk fun ρ=>
 PE.imp (Ys F (hr.mono hj) gl mg kp bd .nil (kE (E:=Y.E)) (zH hv Zu (st1 rfl)) hd (st1 rfl) rfl) fun σ H Q ⟨B,I,q⟩=>by
  subst hy
  unfold xB at q
  split at q
  ·rename_i c e
   obtain ⟨a,e1,r⟩:=I.xc i c e
   refine ⟨_,e1,B,a,c,rfl,I.sB,r, ?_⟩
   revert q
   cases gx c with
   | bad=>exact fun q=>q
   | ex c=>exact fun q d H' s sB=>q d H' (I.sH.trans s) sB
   | ok t=>exact fun q=>q
  ·exact q.elim
end
section
variable {P:Program} {w:World} {K:PySem.W.Frag} {mg:Str->Option Value} {base:Heap}
def enC (n c:Nat):En:= .xc c :: List.replicate (n - 1) .un
theorem SI.startC {Y:Fx} {N:List Str} {a:Addr} {c:Nat} (s:zK Y.B0 Y.H0) (hN:1<=N.length) (r:Y.B0 a=some (.ext (U8 (Y.cl c) a))):SI Y Y.B0 (enC N.length c) (L2.start N [V.ref a]) Y.H0 where
 s0:=s
 sH:=zK.refl _
 sB:=s
 old:=fun _ _ _=>rfl
 len:=by unfold enC L2.start; simp
 vl:=fun i t h=>by
  unfold enC at h
  cases i with
  | zero=>cases h
  | succ i=>rw [List.getElem?_cons_succ,List.getElem?_replicate] at h; split at h <;> cases h
 ow:=fun i t h=>by
  unfold enC at h
  cases i with
  | zero=>cases h
  | succ i=>rw [List.getElem?_cons_succ,List.getElem?_replicate] at h; split at h <;> cases h
 xc:=fun i d h=>by
  unfold enC at h
  cases i with
  | zero=>
   cases h
   exact ⟨a,by unfold L2.start; rfl,r⟩
  | succ i=>rw [List.getElem?_cons_succ,List.getElem?_replicate] at h; split at h <;> cases h
theorem kJ {cl:Nat->Value} {x qual q:Str} {st:Stmt} {f:Addr} {fd:FuncData} {N:List Str} {k:Nat} {fb:En->RS} {gx:Nat->R T} (F:Fun K x qual st f fd) (S:zp N [q] (zf st)) (hN:1<=N.length)
  (hb:∀ (cdv:Value) (A:Around) (outer:List Env) (s:Shared) (H:Hp) (E:XK) (Y:Fx),Y.cl=cl->JG k (A.deeper (envOfC qual (zf st) s.heap.objs.size f cdv))->
   UN (wV CX0 P w K mg base N qual (zf st) f cdv A outer s H E).nox Y (ZT st) fb)
  (hg:∀ c,gx c=zo (fb (enC N.length c))):ZB P w K mg base CX0 (k+1) f fd [q] (spC cl gx):=by
 refine F.ok S (fun vs H Q E ⟨_,_,_,e,_⟩=>by rw [e]; rfl) fun cdv A outer s H vs Q E hr ⟨B,a,c,e,sB,r,q⟩=> ?_
 subst e
 refine ⟨_,hb cdv A outer s H E ⟨B,H,E,cl⟩ rfl hr (enC N.length c),B,SI.startC (Y:=⟨B,H,E,cl⟩) sB hN r, ?_⟩
 rw [hg c] at q
 revert q
 cases fb (enC N.length c) with
 | rt t=>exact fun q v H' s r=>q v H' s r
 | rf t=>exact fun q a xs H' B' s0 n e r _ l=>q (.ref a) H' s0 (.lst (by rw [Zw n]; exact e) (r.mono l))
 | nx ρ=>exact fun q σ' H' B' _ I=>q .non H' I.sH .non
 | ex c=>exact fun q=>q
 | bk ρ=>exact fun q=>q.elim
 | ct ρ=>exact fun q=>q.elim
 | bad=>exact fun q=>q
end
end PV
namespace PySem.ZG
open PySem PySem.Spec PySem.Builtin.SmallTypes
structure Ue (i:Addr) (fp:List Addr) (v:Nat->Option Value) (St:Nat->Heap->Prop):Prop where
 mem:i∈fp
 item:∀ {prog:Program} {w:World} {A:Around} {E:Value->Shared->Prop} {s:Shared} {Q:Value->Shared->Prop} {k:Nat} {x:Value},St k s.heap->v k=some x->(∀ h',St (k+1) h' ->Heap.SameBut i s.heap h' ->Q x { s with heap:=h' })->wpAny (model prog w) A (nextOf (.ref i)) Q E s
 stop:∀ {prog:Program} {w:World} {A:Around} {E:Value->Shared->Prop} {s:Shared} {Q:Value->Shared->Prop} {k:Nat},A.handled=none->St k s.heap->v k=none->(∀ h' e,Heap.ExtBut i s.heap h' ->(∃ o,h'.get? e=some o/\o.cls= .type "StopIteration")->E (.ref e) { s with heap:=h' })->wpAny (model prog w) A (nextOf (.ref i)) Q E s
 keep:∀ {k:Nat} {h h' :Heap},St k h->(∀ b∈fp,∀ o,h.get? b=some o->h'.get? b=some o)->St k h'
 there:∀ {k:Nat} {h:Heap},St k h->∀ b∈fp,∃ o,h.get? b=some o
theorem Ue.but {i:Addr} {fp:List Addr} {v:Nat->Option Value} {St:Nat->Heap->Prop} (N:Ue i fp v St) {k:Nat} {h h' :Heap} {b:Addr} (x:St k h) (e:Heap.ExtBut b h h') (n:b ∉ fp):St k h' :=
 N.keep x fun c hc o q=>e c o (fun z=>n (z ▸ hc)) q
theorem xD {i l:Addr} (hil:l ≠ i) (xs:Array Value):Ue i [i,l] (fun k=>xs[k]?) (fun k h=>h.IsListIter i l k/\h.IsList l xs) where
 mem:= .head _
 item:=fun st hx h=>wpAny_nextOf_list_item st.1 st.2 hx fun h' a b=>h h' ⟨a,st.2.extBut b.extBut hil⟩ b
 stop:=fun hh st hx h=>wpAny_nextOf_list_end hh st.1 st.2 hx h
 keep:=fun st k=>⟨st.1.at fun o e=>k i (.head _) o e,st.2.at fun o e=>k l (.tail _ (.head _)) o e⟩
 there:=fun st b hb=>by
  obtain ⟨⟨o,e,_⟩,o2,e2,_⟩:=st
  rcases List.mem_cons.mp hb with z | hb
  ·exact ⟨o,z ▸ e⟩
  ·exact ⟨o2,(List.mem_singleton.mp hb) ▸ e2⟩
end PySem.ZG
namespace PySem.ZG
open PySem PySem.Spec PySem.Builtin.SmallTypes
section
variable {prog:Program} {w:World} {A:Around} {E:Value->Shared->Prop} {s:Shared} {it l:Addr} {k:Nat} {xs:Array Value} {Q:Value->Shared->Prop}
theorem UP (hit:s.heap.IsTupleIter it l k) (h:wpAny (model prog w) A.in1 (Builtin.«tuple_iterator.__next__» ⟨[.ref it],[]⟩) (fun fin s' =>∃ v,fin= .done (.ret v)/\Q v s') E s):wpAny (model prog w) A (nextOf (.ref it)) Q E s:=by
 unfold nextOf
 exact wpAny_bind (wpAny_callSpecial?_slot (name:=Str.ofString "__next__") hit.typeIs PySem.F.slot_tuple_iterator_next (wpAny_call_entry PySem.F.slot_tuple_iterator_next hit.typeIs PySem.F.entry_tuple_iterator_next
  (wpAny_mono h (fun fin s' ⟨v,e,q⟩=>⟨v,e,wpAny_pure q⟩) fun _ _ z=>z) (PySem.F.args_tuple_iterator_next_1 _)))
theorem tup_item (hit:s.heap.IsTupleIter it l k) (ht:s.heap.IsTuple l xs) {x:Value} (hx:xs[k]? =some x) (h:∀ h',h'.IsTupleIter it l (k+1)->Heap.SameBut it s.heap h' ->Q x { s with heap:=h' }):wpAny (model prog w) A (nextOf (.ref it)) Q E s:=by
 refine UP hit ?_
 obtain ⟨o,ho,hc,hd⟩:=id hit
 obtain ⟨ol,hol,_,nl,hdl⟩:=ht
 refine wpAny_bind (m:=field (.ref it) 0) (wpAny_field ho hd (x:= .ref l) rfl ?_)
 rw [if_neg (show ¬((Value.ref l == Value.none)=true) by exact Bool.false_ne_true)]
 refine wpAny_bind (m:=field (.ref it) 1) (wpAny_field ho hd (x:= .int k 0) rfl (wpAny_bind (m:=seqItems? (.ref l)) (wpAny_seqItems hol hdl ?_)))
 simp only [Int.toNat_natCast,hx]
 have g:=Heap.get?_update_self (Obj.mapFields (·.setIfInBounds 1 (rawInt (k+1:Nat)))) ho (Obj.isFreed_of_fields (Obj.data_mapFields hd _))
 refine wpAny_bind (wpAny_setField ho hd (by simp) (wpAny_pure ⟨x,rfl,h _ ⟨_,g,(Obj.cls_mapFields ..).trans hc, ?_⟩ (Heap.SameBut.update ..)⟩))
 rw [Obj.data_mapFields hd]; simp [rawInt]
theorem tup_stop (hh:A.handled=none) (hit:s.heap.IsTupleIter it l k) (ht:s.heap.IsTuple l xs) (hx:xs[k]? =none)
  (h:∀ h' e,Heap.ExtBut it s.heap h' ->(∃ o,h'.get? e=some o/\o.cls= .type "StopIteration")->E (.ref e) { s with heap:=h' }):wpAny (model prog w) A (nextOf (.ref it)) Q E s:=by
 refine UP hit ?_
 obtain ⟨o,ho,hc,hd⟩:=id hit
 obtain ⟨ol,hol,_,nl,hdl⟩:=ht
 refine wpAny_bind (m:=field (.ref it) 0) (wpAny_field ho hd (x:= .ref l) rfl ?_)
 rw [if_neg (show ¬((Value.ref l == Value.none)=true) by exact Bool.false_ne_true)]
 refine wpAny_bind (m:=field (.ref it) 1) (wpAny_field ho hd (x:= .int k 0) rfl (wpAny_bind (m:=seqItems? (.ref l)) (wpAny_seqItems hol hdl ?_)))
 simp only [Int.toNat_natCast,hx]
 refine wpAny_bind (wpAny_rule (wpAny_bind (wpAny_setField ho hd (by simp) (wpAny_bind (m:=newExc (.type "StopIteration") []) ?_))))
 simp only [newExc,newTuple]
 refine wpAny_bind (wpAny_newObj_type (wpAny_bind (m:=firstArgMember _ _) (wpAny_of_eq (a:=Value.none) (by first | rfl | (simp only [firstArgMember]; rfl)) (wpAny_newObj_type ?_ (by size_fits)))) (by size_fits))
 simp only [raiseNew]
 refine wpAny_bind (wpAny_handled ?_)
 rw [show A.in1.handled=none from hh]
 exact wpAny_bind (wpAny_pure (wpAny_throw (h _ _ (((Heap.SameBut.update ..).extBut.push _).push _) ⟨_,Heap.get?_push_size _ rfl,rfl⟩)))
end
theorem nx_tup {i l:Addr} (hil:l ≠ i) (xs:Array Value):Ue i [i,l] (fun k=>xs[k]?) (fun k h=>h.IsTupleIter i l k/\h.IsTuple l xs) where
 mem:= .head _
 item:=fun st hx h=>tup_item st.1 st.2 hx fun h' a b=>h h' ⟨a,st.2.extBut b.extBut hil⟩ b
 stop:=fun hh st hx h=>tup_stop hh st.1 st.2 hx h
 keep:=fun st k=>by
  obtain ⟨⟨o,e,r⟩,o2,e2,r2⟩:=st
  exact ⟨⟨o,k i (.head _) o e,r⟩,o2,k l (.tail _ (.head _)) o2 e2,r2⟩
 there:=fun st b hb=>by
  obtain ⟨⟨o,e,_⟩,o2,e2,_⟩:=st
  rcases List.mem_cons.mp hb with z | hb
  ·exact ⟨o,z ▸ e⟩
  ·exact ⟨o2,(List.mem_singleton.mp hb) ▸ e2⟩
end PySem.ZG
namespace PySem.ZG
open PySem PySem.Spec PySem.Builtin.SmallTypes
structure Ap (z TI TO i1 i2:Addr) (fp1 fp2:List Addr):Prop where
 Iz:TI ≠ z
 Oz:TO ≠ z
 IO:TI ≠ TO
 I1:TI ≠ i1
 I2:TI ≠ i2
 z1:z ∉ fp1
 z2:z ∉ fp2
 O1:TO ∉ fp1
 O2:TO ∉ fp2
 a:i1 ∉ fp2
 b:i2 ∉ fp1
section
variable {prog:Program} {w:World} {A:Around} {E:Value->Shared->Prop} {s:Shared} {z TI TO i1 i2:Addr} {fp1 fp2:List Addr} {v1 v2:Nat->Option Value} {S1 S2:Nat->Heap->Prop} {k:Nat} {x y a b:Value}
theorem Ap.ne1 (D:Ap z TI TO i1 i2 fp1 fp2) (N1:Ue i1 fp1 v1 S1):i1 ≠ z/\i1 ≠ TO:=⟨fun e=>D.z1 (e ▸ N1.mem),fun e=>D.O1 (e ▸ N1.mem)⟩
theorem Ap.ne2 (D:Ap z TI TO i1 i2 fp1 fp2) (N2:Ue i2 fp2 v2 S2):i2 ≠ z/\i2 ≠ TO:=⟨fun e=>D.z2 (e ▸ N2.mem),fun e=>D.O2 (e ▸ N2.mem)⟩
theorem xE {Q:Value->Shared->Prop} (N1:Ue i1 fp1 v1 S1) (N2:Ue i2 fp2 v2 S2) (D:Ap z TI TO i1 i2 fp1 fp2) (hz:IsZip s.heap z TI TO .none) (hTI:IsPair s.heap TI (.ref i1) (.ref i2)) (hTO:IsPair s.heap TO a b) (p1:S1 k s.heap) (p2:S2 k s.heap) (hx:v1 k=some x) (hy:v2 k=some y)
  (hQ:∀ h',IsZip h' z TI TO (rawInt s.heap.objs.size)->IsPair h' TO x y->S1 (k+1) h' ->S2 (k+1) h' ->IsPair h' s.heap.objs.size x y->
   (∀ c o,c ≠ z->c ≠ TO->c ≠ i1->c ≠ i2->s.heap.get? c=some o->h'.get? c=some o)->Q (.ref s.heap.objs.size) { s with heap:=h' }):
  wpAny (model prog w) A (Builtin.«zip.__next__» ⟨[.ref z],[]⟩) (fun fin s' =>∃ v,fin= .done (.ret v)/\Q v s') E s:=by
 refine wpAny_bind (m:=field (.ref z) 2) (wpAny_field hz rfl (x:= .bool false) rfl (wpAny_bind (m:=field (.ref z) 3) (wpAny_field hz rfl (x:= .ref TI) rfl (wpAny_bind (wpAny_seqItems hTI rfl ?_)))))
 refine wpAny_bind (m:=ownedTupleIsFree (.ref z)) ?_
 unfold ownedTupleIsFree
 refine wpAny_bind (wpAny_field hz rfl (x:= .none) rfl (wpAny_pure ?_))
 simp only [if_true]
 refine wpAny_bind (wpAny_rule (wpAny_bind (wpAny_field hz rfl (x:= .ref TO) rfl (wpAny_bind (wpAny_setField_rec hz (by simp) fun g1 z1 e1=> ?_)))))
 replace z1:IsZip g1 z TI TO .ellipsis:=z1
 refine wpAny_bind ?_
 simp only [List.zipIdx_cons,List.zipIdx_nil,List.forIn_cons,List.forIn_nil]
 refine wpAny_bind (wpAny_bind (wpAny_onRaise (wpAny_bind (m:=nextOf (.ref i1)) (N1.item (N1.but p1 e1.extBut D.z1) hx fun g2 q1 e2=>wpAny_pure ?_))))
 have t2:IsPair g2 TO a b:=e2.extBut _ _ (D.ne1 N1).2.symm (e1.extBut _ _ D.Oz hTO)
 refine wpAny_bind (wpAny_seqItems t2 rfl (wpAny_bind (wpAny_updateSeq_pair t2 fun g3 t3 e3=> ?_)))
 replace t3:IsPair g3 TO x b:=t3
 refine wpAny_bind (wpAny_letGo (wpAny_pure ?_))
 refine wpAny_bind (wpAny_bind (wpAny_onRaise (wpAny_bind (m:=nextOf (.ref i2)) (N2.item (N2.but (N2.but (N2.but p2 e1.extBut D.z2) e2.extBut D.a) e3.extBut D.O2) hy fun g4 q2 e4=>wpAny_pure ?_))))
 have t4:IsPair g4 TO x b:=e4.extBut _ _ (D.ne2 N2).2.symm t3
 refine wpAny_bind (wpAny_seqItems t4 rfl (wpAny_bind (wpAny_updateSeq_pair t4 fun g5 t5 e5=> ?_)))
 replace t5:IsPair g5 TO x y:=t5
 refine wpAny_bind (wpAny_letGo (wpAny_pure (wpAny_pure ?_)))
 refine wpAny_bind (wpAny_seqItems t5 rfl (wpAny_bind (wpAny_newTuple ?_)))
 have sz:g5.objs.size=s.heap.objs.size:=by rw [e5.1,e4.1,e3.1,e2.1,e1.1]
 have z5:IsZip g5 z TI TO .ellipsis:=e5.extBut _ _ D.Oz.symm (e4.extBut _ _ (D.ne2 N2).1.symm (e3.extBut _ _ D.Oz.symm (e2.extBut _ _ (D.ne1 N1).1.symm z1)))
 have k5:∀ c o,c ≠ z->c ≠ TO->c ≠ i1->c ≠ i2->s.heap.get? c=some o->g5.get? c=some o:=fun c o c1 c2 c3 c4 e=>
  e5.extBut _ _ c2 (e4.extBut _ _ c4 (e3.extBut _ _ c2 (e2.extBut _ _ c3 (e1.extBut _ _ c1 e))))
 have r1:S1 (k+1) g5:=N1.but (N1.but (N1.but q1 e3.extBut D.O1) e4.extBut D.b) e5.extBut D.O1
 have r2:S2 (k+1) g5:=N2.but q2 e5.extBut D.O2
 refine wpAny_bind (m:=ownedTupleHandOut (.ref z) (.ref g5.objs.size)) ?_
 unfold ownedTupleHandOut
 have z6:IsZip (g5.push { cls:= .type "tuple",data:= .seq #[x,y] }) z TI TO .ellipsis:=Heap.get?_push_of_some _ z5
 refine wpAny_bind (wpAny_setField_rec z6 (by simp) fun g7 z7 e7=> ?_)
 replace z7:IsZip g7 z TI TO (rawInt g5.objs.size):=z7
 refine wpAny_setField_rec z7 (by simp) fun g8 z8 e8=> ?_
 replace z8:IsZip g8 z TI TO (rawInt g5.objs.size):=z8
 have up:∀ c o,c ≠ z->g5.get? c=some o->g8.get? c=some o:=fun c o c1 e=>e8.extBut _ _ c1 (e7.extBut _ _ c1 (Heap.get?_push_of_some _ e))
 have hn:g5.objs.size ≠ z:=Nat.ne_of_gt (Heap.lt_size z5)
 have t8:IsPair g8 g5.objs.size x y:=e8.extBut _ _ hn (e7.extBut _ _ hn (Heap.get?_push_size _ rfl))
 rw [sz] at z8 t8
 refine wpAny_pure ⟨_,rfl, ?_⟩
 show Q (.ref g5.objs.size) _
 rw [sz]
 exact hQ g8 z8 (up _ _ D.Oz t5) (N1.keep r1 fun c hc o e=>up c o (fun q=>D.z1 (q ▸ hc)) e) (N2.keep r2 fun c hc o e=>up c o (fun q=>D.z2 (q ▸ hc)) e) t8 fun c o c1 c2 c3 c4 e=>up c o c1 (k5 c o c1 c2 c3 c4 e)
theorem xF {Q:Fin->Shared->Prop} (hh:A.handled=none) (N1:Ue i1 fp1 v1 S1) (N2:Ue i2 fp2 v2 S2) (D:Ap z TI TO i1 i2 fp1 fp2) (hz:IsZip s.heap z TI TO .none) (hTI:IsPair s.heap TI (.ref i1) (.ref i2)) (hTO:IsPair s.heap TO a b) (p1:S1 k s.heap) (p2:S2 k s.heap) (hend:v1 k=none\/v2 k=none)
  (hE:∀ h' e,(∀ c o,c ≠ z->c ≠ TO->c ≠ i1->c ≠ i2->s.heap.get? c=some o->h'.get? c=some o)->(∃ o,h'.get? e=some o/\o.cls= .type "StopIteration")->E (.ref e) { s with heap:=h' }):
  wpAny (model prog w) A (Builtin.«zip.__next__» ⟨[.ref z],[]⟩) Q E s:=by
 refine wpAny_bind (m:=field (.ref z) 2) (wpAny_field hz rfl (x:= .bool false) rfl (wpAny_bind (m:=field (.ref z) 3) (wpAny_field hz rfl (x:= .ref TI) rfl (wpAny_bind (wpAny_seqItems hTI rfl ?_)))))
 refine wpAny_bind (m:=ownedTupleIsFree (.ref z)) ?_
 unfold ownedTupleIsFree
 refine wpAny_bind (wpAny_field hz rfl (x:= .none) rfl (wpAny_pure ?_))
 simp only [if_true]
 refine wpAny_bind (wpAny_rule (wpAny_bind (wpAny_field hz rfl (x:= .ref TO) rfl (wpAny_bind (wpAny_setField_rec hz (by simp) fun g1 z1 e1=> ?_)))))
 replace z1:IsZip g1 z TI TO .ellipsis:=z1
 refine wpAny_bind ?_
 simp only [List.zipIdx_cons,List.zipIdx_nil,List.forIn_cons,List.forIn_nil]
 have off:∀ {g:Heap} {e:Addr} {oe:Obj},IsZip g z TI TO .ellipsis->g.get? e=some oe->oe.cls= .type "StopIteration"->e ≠ z:=fun hg he hc q=>by
  subst q; rw [hg] at he; cases he; simp at hc
 cases hx:v1 k with
 | none=>
  refine wpAny_bind (wpAny_bind (wpAny_onRaise (wpAny_bind (m:=nextOf (.ref i1)) (N1.stop hh (N1.but p1 e1.extBut D.z1) hx fun g2 e e2 he=> ?_))))
  obtain ⟨oe,ho,hc⟩:=he
  have z2:IsZip g2 z TI TO .ellipsis:=e2 _ _ (D.ne1 N1).1.symm z1
  exact wpAny_setField_rec z2 (by simp) fun g3 _ e3=>hE g3 e (fun c o c1 _ c3 _ q=>e3.extBut _ _ c1 (e2 _ _ c3 (e1.extBut _ _ c1 q))) ⟨oe,e3.extBut _ _ (off z2 ho hc) ho,hc⟩
 | some x=>
  have hy:v2 k=none:=by
   rcases hend with q | q
   ·rw [hx] at q; cases q
   ·exact q
  refine wpAny_bind (wpAny_bind (wpAny_onRaise (wpAny_bind (m:=nextOf (.ref i1)) (N1.item (N1.but p1 e1.extBut D.z1) hx fun g2 q1 e2=>wpAny_pure ?_))))
  have t2:IsPair g2 TO a b:=e2.extBut _ _ (D.ne1 N1).2.symm (e1.extBut _ _ D.Oz hTO)
  refine wpAny_bind (wpAny_seqItems t2 rfl (wpAny_bind (wpAny_updateSeq_pair t2 fun g3 t3 e3=>wpAny_bind (wpAny_letGo (wpAny_pure ?_)))))
  refine wpAny_bind (wpAny_bind (wpAny_onRaise (wpAny_bind (m:=nextOf (.ref i2)) (N2.stop hh (N2.but (N2.but (N2.but p2 e1.extBut D.z2) e2.extBut D.a) e3.extBut D.O2) hy fun g4 e e4 he=> ?_))))
  obtain ⟨oe,ho,hc⟩:=he
  have z4:IsZip g4 z TI TO .ellipsis:=e4 _ _ (D.ne2 N2).1.symm (e3.extBut _ _ D.Oz.symm (e2.extBut _ _ (D.ne1 N1).1.symm z1))
  exact wpAny_setField_rec z4 (by simp) fun g5 _ e5=>hE g5 e (fun c o c1 c2 c3 c4 q=>e5.extBut _ _ c1 (e4 _ _ c4 (e3.extBut _ _ c2 (e2.extBut _ _ c3 (e1.extBut _ _ c1 q))))) ⟨oe,e5.extBut _ _ (off z4 ho hc) ho,hc⟩
theorem xG {Q:Option Value->Shared->Prop} (N1:Ue i1 fp1 v1 S1) (N2:Ue i2 fp2 v2 S2) (D:Ap z TI TO i1 i2 fp1 fp2) (hz:IsZip s.heap z TI TO .none) (hTI:IsPair s.heap TI (.ref i1) (.ref i2)) (hTO:IsPair s.heap TO a b) (p1:S1 k s.heap) (p2:S2 k s.heap) (hx:v1 k=some x) (hy:v2 k=some y)
  (hQ:∀ h',IsZip h' z TI TO (rawInt s.heap.objs.size)->IsPair h' TO x y->S1 (k+1) h' ->S2 (k+1) h' ->IsPair h' s.heap.objs.size x y->
   (∀ c o,c ≠ z->c ≠ TO->c ≠ i1->c ≠ i2->s.heap.get? c=some o->h'.get? c=some o)->Q (some (.ref s.heap.objs.size)) { s with heap:=h' }):wpAny (model prog w) A (pyNext (.ref z)) Q E s:=by
 have ty:s.TypeIs (.ref z) "zip":=⟨_,hz,rfl⟩
 unfold pyNext
 exact wpAny_bind (wpAny_attempt (wpAny_callSpecial?_slot (name:=Str.ofString "__next__") ty PySem.F.slot_zip_next (wpAny_call_entry PySem.F.slot_zip_next ty PySem.F.entry_zip_next
  (xE N1 N2 D hz hTI hTO p1 p2 hx hy fun h' a1 a2 a3 a4 a5 a6=>wpAny_pure (hQ h' a1 a2 a3 a4 a5 a6)) (PySem.F.args_zip_next_1 _))))
theorem xH {Q:Option Value->Shared->Prop} (hh:A.handled=none) (N1:Ue i1 fp1 v1 S1) (N2:Ue i2 fp2 v2 S2) (D:Ap z TI TO i1 i2 fp1 fp2) (hz:IsZip s.heap z TI TO .none) (hTI:IsPair s.heap TI (.ref i1) (.ref i2)) (hTO:IsPair s.heap TO a b) (p1:S1 k s.heap) (p2:S2 k s.heap) (hend:v1 k=none\/v2 k=none)
  (hQ:∀ h',(∀ c o,c ≠ z->c ≠ TO->c ≠ i1->c ≠ i2->s.heap.get? c=some o->h'.get? c=some o)->Q none { s with heap:=h' }):wpAny (model prog w) A (pyNext (.ref z)) Q E s:=by
 have ty:s.TypeIs (.ref z) "zip":=⟨_,hz,rfl⟩
 unfold pyNext
 refine wpAny_bind (wpAny_attempt (wpAny_callSpecial?_slot (name:=Str.ofString "__next__") ty PySem.F.slot_zip_next (wpAny_call_entry PySem.F.slot_zip_next ty PySem.F.entry_zip_next
  (xF hh N1 N2 D hz hTI hTO p1 p2 hend fun h' e kp he=> ?_) (PySem.F.args_zip_next_1 _))))
 obtain ⟨o,ho,hc⟩:=he
 exact wpAny_bind (wpAny_isInstance (T:="StopIteration") (b:=true) ⟨o,ho,hc⟩ isSubtype_stop (wpAny_pure (hQ _ kp)))
end
end PySem.ZG
namespace PySem.ZG
open PySem PySem.Spec PySem.Builtin.SmallTypes
structure xI (l:Addr) (o:Obj) (P:Heap->Prop):Prop where
 go:∀ {prog:Program} {w:World} {A:Around} {E:Value->Shared->Prop} {s:Shared} {Q:Value->Shared->Prop},P s.heap->Q (.ref s.heap.objs.size) { s with heap:=s.heap.push o }->wpAny (model prog w) A (pyIter (.ref l)) Q E s
 push:∀ {h:Heap} (o' :Obj),P h->P (h.push o')
 fresh:o.isFreed=false
abbrev oL (l:Addr):Obj:={ cls:= .type "list_iterator",data:= .fields #[.ref l, .int 0 0] }
abbrev oT (l:Addr):Obj:={ cls:= .type "tuple_iterator",data:= .fields #[.ref l, .int 0 0] }
theorem xJ (l:Addr) (xs:Array Value):xI l (oL l) (fun h=>h.IsList l xs):=⟨fun p q=>wpAny_pyIter_list p q,fun o p=>Heap.IsList.push p o,rfl⟩
theorem kK (l:Addr) (xs:Array Value):xI l (oT l) (fun h=>h.IsTuple l xs):=⟨fun p q=>wpAny_pyIter_tuple p q,fun o p=>Heap.IsTuple.push p o,rfl⟩
abbrev zh2 (h:Heap) (o1 o2:Obj):Heap:=(h.push o1).push o2
abbrev zh3 (h:Heap) (o1 o2:Obj):Heap:=(zh2 h o1 o2).push { cls:= .type "tuple",data:= .seq #[.ref h.objs.size, .ref (h.push o1).objs.size] }
abbrev zh4 (h:Heap) (o1 o2:Obj):Heap:=(zh3 h o1 o2).push { cls:= .type "tuple",data:= .seq #[.none, .none] }
abbrev zh5 (h:Heap) (o1 o2:Obj):Heap:=(zh4 h o1 o2).push { cls:= .type "zip",data:= .fields #[.none, .bool false, .bool false, .ref (zh2 h o1 o2).objs.size, .ref (zh3 h o1 o2).objs.size] }
theorem kL {l1 l2:Addr} {o1 o2:Obj} {P1 P2:Heap->Prop} (J1:xI l1 o1 P1) (J2:xI l2 o2 P2):
  Meets (Builtin.«zip.__new__» ⟨[.type "zip", .ref l1, .ref l2],[]⟩) (fun _ R s=>P1 s.heap/\P2 s.heap/\R (.ok (.ret (.ref (zh4 s.heap o1 o2).objs.size))) { s with heap:=zh5 s.heap o1 o2 }):=
 .of_wp fun prog w A R s h=>by
  obtain ⟨hp,g,d,tk,os⟩:=s
  obtain ⟨q1,q2,h⟩:=h
  have hsub:=sub_zip
  have c1:P1 (Shared.heap ⟨hp,g,d,tk,os⟩):=q1
  have c2:P2 (Shared.heap ⟨hp.push o1,g,d,tk,os⟩):=J2.push o1 q2
  wp_walk using J1.go c1,J2.go c2
  exact ⟨_,rfl,h⟩
end PySem.ZG
namespace PySem.ZG
open PySem PySem.Spec PySem.Builtin.SmallTypes
theorem xK {prog:Program} {w:World} {A:Around} {E:Value->Shared->Prop} {s:Shared} {l1 l2:Addr} {o1 o2:Obj} {P1 P2:Heap->Prop} {Q:Value->Shared->Prop} (J1:xI l1 o1 P1) (J2:xI l2 o2 P2) (q1:P1 s.heap) (q2:P2 s.heap)
  (h:∀ h' n,n=s.heap.objs.size->IsZip h' (n+4) (n+2) (n+3) .none->IsPair h' (n+2) (.ref n) (.ref (n+1))->IsPair h' (n+3) .none .none->h'.get? n=some o1->h'.get? (n+1)=some o2->
   (∀ c o,s.heap.get? c=some o->h'.get? c=some o)->Q (.ref (n+4)) { s with heap:=h' }):wpAny (model prog w) A (call (.type "zip") [.ref l1, .ref l2]) Q E s:=by
 refine callType_new PySem.F.called_zip (by decide) (PySem.F.typeCall_zip_2 _ _) (PySem.F.newCall_zip_2 _ _) (fun obj=>PySem.F.args_object_init_3 obj _ _) PySem.F.entry_zip_new (kL J1 J2) ⟨q1,q2, ?_⟩
 have n1:(s.heap.push o1).objs.size=s.heap.objs.size+1:=Heap.size_push ..
 have n2:(zh2 s.heap o1 o2).objs.size=s.heap.objs.size+2:=by rw [Heap.size_push,n1]
 have n3:(zh3 s.heap o1 o2).objs.size=s.heap.objs.size+3:=by rw [Heap.size_push,n2]
 have n4:(zh4 s.heap o1 o2).objs.size=s.heap.objs.size+4:=by rw [Heap.size_push,n3]
 have up:∀ {h:Heap} {c:Addr} {o:Obj} (o' :Obj),h.get? c=some o->(h.push o').get? c=some o:=fun o' e=>Heap.get?_push_of_some o' e
 have e5:(zh5 s.heap o1 o2).get? (zh4 s.heap o1 o2).objs.size=some _:=Heap.get?_push_size _ rfl
 have e4:(zh5 s.heap o1 o2).get? (zh3 s.heap o1 o2).objs.size=some _:=up _ (Heap.get?_push_size _ rfl)
 have e3:(zh5 s.heap o1 o2).get? (zh2 s.heap o1 o2).objs.size=some _:=up _ (up _ (Heap.get?_push_size _ rfl))
 have e2:(zh5 s.heap o1 o2).get? (s.heap.push o1).objs.size=some _:=up _ (up _ (up _ (Heap.get?_push_size _ J2.fresh)))
 have e1:(zh5 s.heap o1 o2).get? s.heap.objs.size=some _:=up _ (up _ (up _ (up _ (Heap.get?_push_size _ J1.fresh))))
 show _/\_
 rw [n2,n3,n4] at e5
 rw [n1,n2] at e3
 rw [n3] at e4
 rw [n1] at e2
 rw [n4]
 exact ⟨⟨_,e5,rfl⟩,h _ _ rfl e5 e3 e4 e1 e2 fun c o q=>up _ (up _ (up _ (up _ (up _ q))))⟩
end PySem.ZG
namespace PV
open PySem PySem.Spec PyProof.Rows L2 PySem.ZG
inductive SK where
 | l | t
def SK.it:SK->Heap->Addr->Addr->Nat->Prop
 | .l=>fun h i l k=>h.IsListIter i l k
 | .t=>fun h i l k=>h.IsTupleIter i l k
def SK.has:SK->Heap->Addr->Array Value->Prop
 | .l=>fun h l xs=>h.IsList l xs
 | .t=>fun h l xs=>h.IsTuple l xs
def SK.sq (K:PySem.W.Frag):SK->Hp->Addr->List V->Prop
 | .l=>fun H a xs=>SqL K H a xs
 | .t=>fun H a xs=>SqT K H a xs
def SK.tr:SK->List V->HO
 | .l=> .lst
 | .t=> .tup
def SK.ob:SK->Addr->Obj
 | .l=>oL
 | .t=>oT
theorem SK.nx (k:SK) {i l:Addr} (h:l ≠ i) (xs:Array Value):Ue i [i,l] (fun n=>xs[n]?) (fun n hp=>k.it hp i l n/\k.has hp l xs):=by
 cases k with
 | l=>exact xD h xs
 | t=>exact nx_tup h xs
theorem SK.of (k:SK) (l:Addr) (xs:Array Value):xI l (k.ob l) (fun h=>k.has h l xs):=by
 cases k with
 | l=>exact xJ l xs
 | t=>exact kK l xs
theorem SK.start (k:SK) {h:Heap} {i l:Addr} (e:h.get? i=some (k.ob l)):k.it h i l 0:=by
 cases k with
 | l=>exact ⟨_,e,rfl,rfl⟩
 | t=>exact ⟨_,e,rfl,rfl⟩
theorem SK.obj {k:SK} {h:Heap} {i l:Addr} {n:Nat} (x:k.it h i l n):∃ o,h.get? i=some o/\∀ v,o.data ≠ .cell v:=by
 cases k with
 | l=>obtain ⟨o,e,_,d⟩:=x; exact ⟨o,e,fun v z=>by rw [d] at z; cases z⟩
 | t=>obtain ⟨o,e,_,d⟩:=x; exact ⟨o,e,fun v z=>by rw [d] at z; cases z⟩
theorem SK.at_ {k:SK} {h h' :Heap} {i l:Addr} {n:Nat} (x:k.it h i l n) (q:∀ o,h.get? i=some o->h'.get? i=some o):k.it h' i l n:=by
 cases k with
 | l=>obtain ⟨o,e,r⟩:=x; exact ⟨o,q o e,r⟩
 | t=>obtain ⟨o,e,r⟩:=x; exact ⟨o,q o e,r⟩
theorem SK.sqOf {K:PySem.W.Frag} (k:SK) {H:Hp} {a:Addr} {xs:List V} (e:H a=some (k.tr xs)):k.sq K H a xs:=by
 cases k with
 | l=>exact SqL.of e
 | t=>exact SqT.of e
theorem Inv.seq {X:Cx} {pins:List (Addr×Obj)} {σ:Sg} {H:Hp} {s:Shared} (I:L2.Inv X pins σ H s) (k:SK) {a:Addr} {xs:List V} (h:k.sq X.K H a xs):∃ its:List Value,ZE xs its/\k.has s.heap a its.toArray/\∃ o,s.heap.get? a=some o:=by
 cases k with
 | l=>
  obtain ⟨its,r,p,_⟩:=I.list h
  obtain ⟨o,_,e,_⟩:=id p
  exact ⟨its,r,p.isList,o,e⟩
 | t=>
  obtain ⟨its,r,p,_⟩:=I.tuple h
  obtain ⟨o,e,_⟩:=id p
  exact ⟨its,r,p,o,e⟩
def Itz (K:PySem.W.Frag) (k1 k2:SK) (l1 l2:Addr):It:=
 ⟨fun i H=>∃ xs ys x y,k1.sq K H l1 xs/\k2.sq K H l2 ys/\xs[i]? =some x/\ys[i]? =some y,fun i H v H' =>∃ p x y,H p=none/\v= .ref p/\(∀ xs,k1.sq K H l1 xs->xs[i]? =some x)/\(∀ ys,k2.sq K H l2 ys->ys[i]? =some y)/\H' =upd H p (.tup [x,y]),
  fun i H=>∃ xs ys,k1.sq K H l1 xs/\k2.sq K H l2 ys/\(xs.length<=i\/ys.length<=i)⟩
theorem Inv.seq_inj {X:Cx} {pins:List (Addr×Obj)} {σ:Sg} {H:Hp} {s:Shared} (I:L2.Inv X pins σ H s) (k:SK) {a:Addr} {xs ys:List V} (h:k.sq X.K H a xs) (h' :k.sq X.K H a ys):xs=ys:=by
 cases k with
 | l=>exact I.list_inj h h'
 | t=>exact I.tuple_inj h h'
theorem nN {a b:Nat} (h:a ≠ b): @Ne Addr a b:=h
theorem nM {a b c:Nat} (h:a ≠ b) (h' :a ≠ c):¬ @Membership.mem Addr (List Addr) _ [b,c] a:=fun q=>by
 rcases List.mem_cons.mp q with z | z
 ·exact h z
 ·exact h' (List.mem_singleton.mp z)
theorem vb {P:Program} {w:World} {K:PySem.W.Frag} {elts:List Expr} {kk:Nat} {pt:Pos} (k1 k2:SK) {n l1 l2:Nat} (h1:l1 < n) (h2:l2 < n):
  Qx P w K (.Tuple elts kk pt) (Itz K k1 k2 l1 l2) [n+4,n+2,n+3,n,n+1] (n+4)
   (fun i h=>IsZip h (n+4) (n+2) (n+3) .none/\IsPair h (n+2) (.ref n) (.ref (n+1))/\(∃ a b,IsPair h (n+3) a b)/\k1.it h n l1 i/\k2.it h (n+1) l2 i):=by
 have D:Ap (n+4) (n+2) (n+3) n (n+1) [n,l1] [n+1,l2]:=by
  refine ⟨nN (by omega),nN (by omega),nN (by omega),nN (by omega),nN (by omega),nM (by omega) (by omega),nM (by omega) (by omega),nM (by omega) (by omega),nM (by omega) (by omega),nM (by omega) (by omega),nM (by omega) (by omega)⟩
 refine ⟨by simp,fun i h st b hb=> ?_,fun i h h' st k=> ?_, ?_, ?_, ?_⟩
 ·obtain ⟨hz,hI,⟨a,c,hO⟩,p1,p2⟩:=st
  simp only [List.mem_cons,List.not_mem_nil,or_false] at hb
  rcases hb with rfl | rfl | rfl | rfl | rfl
  ·exact ⟨_,hz,fun v z=>nomatch z⟩
  ·exact ⟨_,hI,fun v z=>nomatch z⟩
  ·exact ⟨_,hO,fun v z=>nomatch z⟩
  ·exact SK.obj p1
  ·exact SK.obj p2
 ·obtain ⟨hz,hI,⟨a,c,hO⟩,p1,p2⟩:=st
  exact ⟨k _ (by simp) _ hz,k _ (by simp) _ hI,⟨a,c,k _ (by simp) _ hO⟩,SK.at_ p1 fun o e=>k n (by simp) o e,SK.at_ p2 fun o e=>k (n+1) (by simp) o e⟩
 ·intro X hP hw hK hc i pins s σ H E I hf st hg
  subst hP hw hK
  obtain ⟨xs,ys,x,y,s1,s2,hx,hy⟩:=hg
  obtain ⟨hz,hI,⟨a,c,hO⟩,p1,p2⟩:=st
  obtain ⟨its1,r1,b1,_⟩:=Inv.seq I k1 s1
  obtain ⟨its2,r2,b2,_⟩:=Inv.seq I k2 s2
  obtain ⟨u,hu,ru⟩:=r1.get hx
  obtain ⟨v,hv,rv⟩:=r2.get hy
  refine xG (k1.nx (Nat.ne_of_lt h1) its1.toArray) (k2.nx (i:=n+1) (nN (by omega)) its2.toArray) D hz hI hO ⟨p1,b1⟩ ⟨p2,b2⟩ (x:=u) (y:=v) (by simpa using hu) (by simpa using hv) fun g a1 a2 a3 a4 a5 kp=>⟨_,rfl, ?_⟩
  refine wpAny_letOwnedTupleGo_zip a1 fun g2 z2 e2=> ?_
  have hlt:n+4 < s.heap.objs.size:=Heap.lt_size hz
  have ne:∀ b:Nat,b<=n+4->s.heap.objs.size ≠ b:=fun b hb=>by
   have hlt:n+4 < s.heap.objs.size:=hlt
   omega
  have kp2:∀ b o,b ∉ [n+4,n+2,n+3,n,n+1]->s.heap.get? b=some o->g2.get? b=some o:=fun b o hb e=>by
   simp only [List.mem_cons,List.not_mem_nil,or_false,not_or] at hb
   exact e2.extBut _ _ hb.1 (kp b o hb.1 hb.2.2.1 hb.2.2.2.1 hb.2.2.2.2 e)
  have g2P:IsPair g2 s.heap.objs.size u v:=e2.extBut _ _ (ne _ (Nat.le_refl _)) a5
  have g2I:IsPair g2 (n+2) (.ref n) (.ref (n+1)):=e2.extBut _ _ D.Iz (kp _ _ D.Iz D.IO D.I1 D.I2 hI)
  have g2O:IsPair g2 (n+3) u v:=e2.extBut _ _ D.Oz a2
  have q1:k1.it g2 n l1 (i+1):=SK.at_ a3.1 fun o e=>e2.extBut _ _ (nN (by omega)) e
  have q2:k2.it g2 (n+1) l2 (i+1):=SK.at_ a4.1 fun o e=>e2.extBut _ _ (nN (by omega)) e
  have hfr:H s.heap.objs.size=none:=I.hok.fresh (Nat.le_refl _)
  refine ⟨.ref s.heap.objs.size,upd H s.heap.objs.size (.tup [x,y]),Inv.laidT (s:=s) (h' :=g2) (ch:=[n+4,n+2,n+3,n,n+1]) (tk:=s.toks) I hf kp2 (fun b o hb _=> ?_) (Nat.le_refl _)
   ⟨by rw [sizeLine_eq]; show 2<=16777216; decide,[u,v], .cons ru (.cons rv .nil),⟨_,g2P,rfl,_,rfl⟩⟩,rfl,⟨_,x,y,hfr,rfl,fun zs hq=>by rw [← Inv.seq_inj I k1 s1 hq]; exact hx,fun zs hq=>by rw [← Inv.seq_inj I k2 s2 hq]; exact hy,rfl⟩,⟨z2,g2I,⟨u,v,g2O⟩,q1,q2⟩,fun b hb=> ?_⟩
  ·simp only [List.mem_cons,List.not_mem_nil,or_false] at hb
   rcases hb with rfl | rfl | rfl | rfl | rfl
   ·exact ⟨_,z2⟩
   ·exact ⟨_,g2I⟩
   ·exact ⟨_,g2O⟩
   ·obtain ⟨o',e',_⟩:=SK.obj q1; exact ⟨o',e'⟩
   ·obtain ⟨o',e',_⟩:=SK.obj q2; exact ⟨o',e'⟩
  ·have hb2:(b:Nat)<=n+4:=by
    have hb:b=n+4\/b=n+2\/b=n+3\/b=n\/b=n+1:=by simpa using hb
    rcases hb with rfl | rfl | rfl | rfl | rfl
    ·exact Nat.le_refl _
    ·exact Nat.add_le_add_left (by decide) n
    ·exact Nat.add_le_add_left (by decide) n
    ·exact Nat.le_add_right _ _
    ·exact Nat.add_le_add_left (by decide) n
   rw [zD fun z=>ne b hb2 z.symm]
   exact (hf b hb).1
 ·intro X hP hw hK hc i pins s σ H E I hf st hg
  subst hP hw hK
  obtain ⟨xs,ys,s1,s2,hend⟩:=hg
  obtain ⟨hz,hI,⟨a,c,hO⟩,p1,p2⟩:=st
  obtain ⟨its1,r1,b1,_⟩:=Inv.seq I k1 s1
  obtain ⟨its2,r2,b2,_⟩:=Inv.seq I k2 s2
  have l1' :=r1.length
  have l2' :=r2.length
  refine xH (I.ok.hd hc) (k1.nx (Nat.ne_of_lt h1) its1.toArray) (k2.nx (i:=n+1) (nN (by omega)) its2.toArray) D hz hI hO ⟨p1,b1⟩ ⟨p2,b2⟩ (k:=i) ?_ fun g kp=>⟨rfl, ?_⟩
  ·rcases hend with q | q
   ·exact .inl (Array.getElem?_eq_none (by rw [List.size_toArray,← l1']; exact q))
   ·exact .inr (Array.getElem?_eq_none (by rw [List.size_toArray,← l2']; exact q))
  ·have kp2:∀ b o,b ∉ [n+4,n+3,n,n+1]->s.heap.get? b=some o->g.get? b=some o:=fun b o hb e=>by
    simp only [List.mem_cons,List.not_mem_nil,or_false,not_or] at hb
    exact kp b o hb.1 hb.2.1 hb.2.2.1 hb.2.2.2 e
   have nch:∀ b u,H b=some u->b ∉ [n+4,n+3,n,n+1]:=fun b u e hb=>by
    have hb' :b∈[n+4,n+2,n+3,n,n+1]:=by
     simp only [List.mem_cons,List.not_mem_nil,or_false] at hb ⊢
     rcases hb with q | q | q | q
     ·exact .inl q
     ·exact .inr (.inr (.inl q))
     ·exact .inr (.inr (.inr (.inl q)))
     ·exact .inr (.inr (.inr (.inr q)))
    rw [(hf b hb').1] at e; cases e
   refine I.call' (s' :={ s with heap:=g }) (ch:=[n+4,n+3,n,n+1]) rfl ⟨fun b o e _ _ hc=>kp2 b o hc e,fun b o e _ _ hc=>⟨o.slots,kp2 b o hc e⟩,fun b o e q _=>q,fun b o e hc=>⟨o,kp2 b o hc e⟩,fun b ys e=>e,fun b o u e=>e,fun b ps e=>⟨#[],by rw [e]; simp⟩⟩ (fun b u e=> ?_) I.bare fun b hb=> ?_
   ·refine (I.hok b u e).stay (fun c v hc q=>kp2 c v ?_ q) (fun _ q=>q) fun _ _ q=>q
    rcases hc with rfl | hc
    ·exact nch c u e
    ·exact nch c _ hc
   ·have hb' :b∈[n+4,n+2,n+3,n,n+1]:=by
     simp only [List.mem_cons,List.not_mem_nil,or_false] at hb ⊢
     rcases hb with q | q | q | q
     ·exact .inl q
     ·exact .inr (.inr (.inl q))
     ·exact .inr (.inr (.inr (.inl q)))
     ·exact .inr (.inr (.inr (.inr q)))
    obtain ⟨f0,f1,f2,f3,f4,f5⟩:=hf b hb'
    exact ⟨f3,f1,f4,f5⟩
 ·intro A i s Q E st h
  exact wpAny_pyIter_zip st.1 h
def vc (xs ys:List T):List T:=(xs.zip ys).map fun p=>T.tup [p.1,p.2]
theorem vd {xs ys:List T} {i:Nat} {t:T} (h:(vc xs ys)[i]? =some t):∃ x y,xs[i]? =some x/\ys[i]? =some y/\t= .tup [x,y]:=by
 unfold vc at h
 rw [List.getElem?_map] at h
 cases e:(xs.zip ys)[i]? with
 | none=>rw [e] at h; cases h
 | some p=>
  rw [e] at h
  cases h
  have:=List.getElem?_zip_eq_some.mp e
  exact ⟨p.1,p.2,this.1,this.2,rfl⟩
theorem Uf (xs ys:List T):(vc xs ys).length=min xs.length ys.length:=by unfold vc; simp
theorem kM {K:PySem.W.Frag} {B1 H1:Hp} {k1 k2:SK} {a b:Addr} {xs ys:List V} {ts us:List T} (ha:B1 a=some (k1.tr xs)) (hb:B1 b=some (k2.tr ys)) (ra:zY B1 xs ts) (rb:zY B1 ys us):rI B1 H1 (Itz K k1 k2 a b) (vc ts us):=fun B2 H2 s1 s2=>by
 have a2:=k1.sqOf (K:=K) (s2 _ _ (s1 _ _ ha))
 have b2:=k2.sqOf (K:=K) (s2 _ _ (s1 _ _ hb))
 rw [Uf]
 refine ⟨fun i hi=> ?_,fun i t x H3 e y=> ?_,fun i hi=>⟨xs,ys,a2,b2, ?_⟩⟩
 ·obtain ⟨v,e1,_⟩:=ra.get (List.getElem?_eq_getElem (show i < ts.length by omega))
  obtain ⟨u,e2,_⟩:=rb.get (List.getElem?_eq_getElem (show i < us.length by omega))
  exact ⟨xs,ys,v,u,a2,b2,e1,e2⟩
 ·obtain ⟨p,v,u,hp,rfl,y1,y2,rfl⟩:=y
  obtain ⟨t1,t2,et,eu,rfl⟩:=vd e
  obtain ⟨v',e1,r1⟩:=ra.get et
  obtain ⟨u',e2,r2⟩:=rb.get eu
  have q1:=y1 xs a2
  have q2:=y2 ys b2
  rw [e1] at q1; cases q1
  rw [e2] at q2; cases q2
  have up:=Z5.ge s2 (zK.new hp (.tup [v,u]))
  exact ⟨zK.new hp _, .tup (Ji hp _) (.cons ((r1.mono s1).mono up) (.cons ((r2.mono s1).mono up) .nil))⟩
 ·rw [ra.length,rb.length]; omega
section
variable {X:Cx} {Y:Fx} {a b:Expr} {fa fb:En->R T} {pos p pt:Pos} {elts:List Expr} {kk:Nat}
theorem kN {ta:TA} (hg:Gl X "zip") (hm:X.mg "zip"=none) (ha:PA X [a,b] ta) (hs:starEach [a,b] X.env=[(false,eval a X.env),(false,eval b X.env)]) (hs2:starEach [b] X.env=[(false,eval b X.env)]):
  PI X (.Tuple elts kk pt) (.Call (.Name "zip" p) [a,b] [] pos) (fun σ H R=>ta σ H fun vs H1=>∃ k1 k2 l1 l2 xs ys,vs=[.ref l1, .ref l2]/\H1 l1=some (SK.tr k1 xs)/\H1 l2=some (SK.tr k2 ys)/\R (Itz X.K k1 k2 l1 l2) H1):=by
 intro pins s σ H R I h
 refine Call_ (JU I hg hm PyProof.Rows.Boot.«zip» (PyProof.Rows.callWith_type1 (thn (ha pos pins s σ H _ I h) fun us s1 ⟨vs,H1,I1,r1,q1⟩=> ?_) (by rw [hs,hs2]) (by rw [hs2]; rfl)))
 obtain ⟨k1,k2,l1,l2,xs,ys,e,h1,h2,q⟩:=q1
 subst e
 obtain ⟨u,v,rfl,ru,rv⟩:=yA r1
 obtain rfl:u=Value.ref l1:=ru
 obtain rfl:v=Value.ref l2:=rv
 obtain ⟨its1,_,b1,o1,e1⟩:=Inv.seq I1 k1 (k1.sqOf h1)
 obtain ⟨its2,_,b2,o2,e2⟩:=Inv.seq I1 k2 (k2.sqOf h2)
 refine xK (k1.of l1 its1.toArray) (k2.of l2 its2.toArray) b1 b2 fun g n hn z1 z2 z3 z4 z5 kp=>wpAny_pyIter_zip z1 ?_
 subst hn
 have f:∀ b∈[s1.heap.objs.size+4,s1.heap.objs.size+2,s1.heap.objs.size+3,s1.heap.objs.size,s1.heap.objs.size+1],uY X pins H1 b:=fun b hb=>by
  have hb' :s1.heap.objs.size<=b:=by
   simp only [List.mem_cons,List.not_mem_nil,or_false] at hb
   rcases hb with rfl | rfl | rfl | rfl | rfl
   ·exact Nat.le_add_right _ _
   ·exact Nat.le_add_right _ _
   ·exact Nat.le_add_right _ _
   ·exact Nat.le_refl _
   ·exact Nat.le_add_right _ _
  exact I1.fpOk hb' (I1.hok.fresh hb')
 exact ⟨s1.heap.objs.size+4,_,_,_,H1,rfl,I1.kept (t' :=s1.toks) kp,vb k1 k2 (Heap.lt_size e1) (Heap.lt_size e2),⟨z1,z2,⟨_,_,z3⟩,SK.start k1 z4,SK.start k2 z5⟩,f,q⟩
def wc:T->R (List T)
 | .lst xs=> .ok xs
 | .tup xs=> .ok xs
 | _=> .bad
def ve (fa fb:En->R T):En->R (List T):=fun ρ=>(fa ρ).bind fun t=>(fb ρ).bind fun u=>(wc t).bind fun xs=>(wc u).bind fun ys=> .ok (vc xs ys)
theorem qg {B:Hp} {v:V} {t:T} {xs:List T} (r:Rep B v t) (e:wc t= .ok xs):∃ (k:SK) (a:Addr) (vs:List V),v= .ref a/\B a=some (k.tr vs)/\zY B vs xs:=by
 cases r with
 | lst h r=>cases e; exact ⟨.l,_,_,rfl,h,r⟩
 | tup h r=>cases e; exact ⟨.t,_,_,rfl,h,r⟩
 | _=>cases e
theorem UQ (t:T) (c:Nat):wc t ≠ .ex c:=by cases t <;> exact fun z=>nomatch z
theorem xL (hg:Gl X "zip") (hm:X.mg "zip"=none) (ha:Snd X Y a fa) (hb:Snd X Y b fb) (hs:starEach [a,b] X.env=[(false,eval a X.env),(false,eval b X.env)]:=by exact st2 rfl rfl) (hs2:starEach [b] X.env=[(false,eval b X.env)]:=by exact st1 rfl):
  YW X Y (.Tuple elts kk pt) (.Call (.Name "zip" p) [a,b] [] pos) (ve fa fb):= .mk fun ρ=>
 PI.imp (kN hg hm (zH (ha ρ) (zH (hb ρ) Zu hs2) (by rw [hs,hs2])) hs hs2) fun σ H R ⟨B,I,q⟩=>step I q fun t v H1 _ s1 r1 I1 q1=>step I1 q1 fun u v' H2 _ s2 r2 I2 q2=>by
  cases e1:wc t with
  | bad=>rw [e1] at q2; exact q2.elim
  | ex c=>exact absurd e1 (UQ _ _)
  | ok xs=>
   rw [e1] at q2
   cases e2:wc u with
   | bad=>rw [e2] at q2; exact q2.elim
   | ex c=>exact absurd e2 (UQ _ _)
   | ok ys=>
    rw [e2] at q2
    obtain ⟨k1,a1,vs1,rfl,h1,w1⟩:=qg (r1.mono (Z5.ge I1.sB s2)) e1
    obtain ⟨k2,a2,vs2,rfl,h2,w2⟩:=qg r2 e2
    exact ⟨k1,k2,a1,a2,vs1,vs2,rfl,I2.sB _ _ h1,I2.sB _ _ h2,jc I2 (show Po Y rI _ H2 (.ok (vc xs ys)) R from q2) (kM h1 h2 w1 w2)⟩
end
end PV
namespace PV
open PySem PySem.Spec PyProof.Rows L2
section
variable {X:Cx} {Y:Fx} {a b:Expr} {fa fb:En->R T} {pos p p' pos' :Pos}
def u0:T->R T
 | .bl b=> .ok (.int (b2 b))
 | .int i=> .ok (.int i)
 | _=> .bad
theorem gX (v:V) (t:T) (B H:Hp) (Q:VK) (r:Rep B v t) (sB:zK B H) (q:Po Y rC B H (u0 t) Q):
  (∃ i,[v]=[V.int i]/\Q (.int i) H)\/∃ k,[v]=[V.bl k]/\Q (.int (if k then 1 else 0)) H:=by
 cases r with
 | int i=>exact .inl ⟨i,rfl,po0 sB q rfl (.int i)⟩
 | bl k=>exact .inr ⟨k,rfl,po0 sB q rfl (by cases k <;> exact .int _)⟩
 | _=>exact q.elim
theorem UR (gl:Gl X "int") (mg:X.mg "int"=none) (ha:Snd X Y a fa) (hs:St1 X a:=by exact st1 rfl):Snd X Y (.Call (.Name "int" p) [a] [] pos) (ap1 u0 fa):=
 V6 Yp gX gl mg (PyProof.Rows.Boot.«int») ha hs
theorem qh:j4 X (.type "range") (fun xs H Q=>∃ i j,xs=[.int i, .int j]/\∀ r,H r=none->Q (.ref r) (upd H r (.rng i j))):=by
 intro pins s σ H xs us Q I r h
 obtain ⟨i,j,rfl,q⟩:=h
 obtain ⟨u,v,rfl,ru,rv⟩:=yA r
 obtain ⟨t,rfl⟩:=ru
 obtain ⟨t',rfl⟩:=rv
 exact call_range_2 ⟨.ref s.heap.objs.size,_,I.laid (t' :=s.toks+1) (fun b o e=>Heap.get?_push_of_some _ e) (Nat.le_refl _) (show ZH X.prog X.w _ _ _ (.rng i j) from ⟨_,_,_,Heap.get?_push_size _ rfl⟩),rfl,q _ (I.hok.fresh (Nat.le_refl _))⟩
def Qz (lo:Int) (n:Nat):List V:=(List.range n).map fun (i:Nat)=>V.int (lo+(i:Int))
theorem Wx (hh:X.A.handled=none):j4 X (.type "list") (fun xs H Q=>∃ r lo hi,xs=[.ref r]/\H r=some (.rng lo hi)/\(-1000000 < lo/\lo < 1000000/\ -1000000 < hi/\hi < 1000000)/\∀ l,H l=none->Q (.ref l) (upd H l (.lst (Qz lo (hi - lo).toNat)))):=by
 intro pins s σ H xs us Q I rv h
 obtain ⟨r,lo,hi,rfl,e,⟨c1,c2,c3,c4⟩,q⟩:=h
 obtain ⟨u,rfl,ru⟩:=jI rv
 obtain rfl:u=Value.ref r:=ru
 obtain ⟨t,v,v',eo⟩:=(show ZH X.prog X.w H s.heap r (.rng lo hi) from I.hok r _ e)
 have hn:Builtin.Range.rangeSize lo hi 1=((hi - lo).toNat:Int):=by rw [rangeSize_one]; split <;> omega
 refine call_list_range (n:=(hi - lo).toNat) hh eo (small_one (by omega) (by omega) (by omega) (by omega)) hn (by omega) fun h' tk acc c kp eo' hacc=> ?_
 have hv:ZE (Qz lo (hi - lo).toNat) acc.toList:=by
  have key:∀ (n:Nat) (lo:Int) (vs:List Value),vs.length=n->(∀ (j:Nat) (v:Value),vs[j]? =some v->∃ t,v=Value.int (lo+(j:Int)) t)->ZE (Qz lo n) vs:=by
   intro n
   induction n with
   | zero=>
    intro lo vs hl _
    rw [List.eq_nil_of_length_eq_zero hl]
    exact .nil
   | succ n ih=>
    intro lo vs hl hv
    cases vs with
    | nil=>cases hl
    | cons v vs=>
     have e:Qz lo (n+1)=V.int (lo+0) :: Qz (lo+1) n:=by
      unfold Qz
      rw [List.range_succ_eq_map,List.map_cons,List.map_map]
      refine congrArg _ (List.map_congr_left fun j _=> ?_)
      show V.int (lo+((j+1:Nat):Int))=V.int (lo+1+(j:Int))
      congr 1; omega
     rw [e]
     refine .cons (hv 0 v rfl) (ih (lo+1) vs (by simpa using hl) fun j x hx=> ?_)
     obtain ⟨t,z⟩:=hv (j+1) x (by simpa using hx)
     exact ⟨t,by rw [z]; congr 1; omega⟩
  refine key _ lo acc.toList (by simpa using hacc.1) fun j v hj=> ?_
  obtain ⟨t,z⟩:=hacc.2 j v (by simpa using hj)
  exact ⟨t,by rw [z]; congr 1; omega⟩
 have hz:(Qz lo (hi - lo).toNat).length<=sizeLine:=by
  rw [sizeLine_eq]; unfold Qz; rw [List.length_map,List.length_range]; omega
 exact ⟨.ref s.heap.objs.size,_,I.laid (t' :=tk) kp (Nat.le_refl _) (show ZH X.prog X.w _ h' _ (.lst _) from ⟨hz,acc.toList,c,hv,by simpa using eo'⟩),rfl,q _ (I.hok.fresh (Nat.le_refl _))⟩
def KC (fi:En->R (List T)):En->R T:=fun ρ=>(fi ρ).bind fun ts=> .ok (.lst ts)
theorem qi {B:Hp} (lo:Int) (n:Nat):zY B (Qz lo n) (rng lo n):=by
 unfold Qz rng
 induction List.range n with
 | nil=>exact .nil
 | cons i is ih=>exact .cons (.int _) ih
theorem xM (hh:X.A.handled=none) (gl:Gl X "list") (mg:X.mg "list"=none) (gl' :Gl X "range") (mg' :X.mg "range"=none) (ha:Snd X Y a fa) (hb:Snd X Y b fb)
  (hs:starEach [a,b] X.env=[(false,eval a X.env),(false,eval b X.env)]:=by exact st2 rfl rfl) (hs2:St1 X b:=by exact st1 rfl):Snd X Y (.Call (.Name "list" p) [.Call (.Name "range" p') [a,b] [] pos'] [] pos) (KC (wb fa fb)):= .mk fun ρ=>
 PE.imp (Jq (Wx hh) gl mg PyProof.Rows.Boot.«list» (zH (Jq qh gl' mg' boot_range (zH (ha ρ) (zH (hb ρ) Zu hs2) (by rw [hs,hs2])) (by decide) (by decide) (by rw [hs,hs2]) (by rw [hs2]; rfl)) Zu (st1 rfl)) (by decide) (by decide) (st1 rfl) rfl) fun σ H Q ⟨B,I,q⟩=>by
  have q:Po Y rC B H ((fa ρ).bind fun t=>(fb ρ).bind fun t' =>(match t,t' with | .int i, .int j=>if -1000000 < i/\i < 1000000/\ -1000000 < j/\j < 1000000 then R.ok (rng i (j - i).toNat) else .bad | _,_=> .bad).bind fun ts=> .ok (.lst ts)) Q:=by
   revert q
   unfold KC wb
   cases fa ρ with
   | ok t=>cases fb ρ <;> exact fun q=>q
   | ex c=>exact fun q=>q
   | bad=>exact fun q=>q
  refine step I q fun t v H1 _ s1 r1 I1 q1=>step I1 q1 fun t' v' H2 _ s2 r2 I2 q2=> ?_
  cases r1 with
  | int i=>
   cases r2 with
   | int j=>
    by_cases c: -1000000 < i/\i < 1000000/\ -1000000 < j/\j < 1000000
    ·dsimp only at q2
     rw [if_pos c] at q2
     refine ⟨i,j,rfl,fun r hr=>⟨r,i,j,rfl,Zb,c,fun l hl=> ?_⟩⟩
     have hlr:l ≠ r:=fun z=>by rw [z,Zb] at hl; cases hl
     have hl2:H2 l=none:=by rw [zD hlr] at hl; exact hl
     refine q2 _ _ (zK.new hr _ |>.trans (zK.new hl _)) (.lst ?_ (qi _ _))
     rw [Zw hl2,Zb]
    ·dsimp only at q2
     rw [if_neg c] at q2
     exact q2.elim
   | _=>exact q2.elim
  | _=>cases r2 <;> exact q2.elim
def mvS (i j:Nat):En->RS:=fun ρ=>match ρ[j]? with
 | some (.ow ts)=> .nx ((ρ.set j (.vl (.lst ts))).set i (.vl (.lst ts)))
 | _=> .bad
theorem SI.give {Y:Fx} {B:Hp} {ρ:En} {σ:Sg} {H:Hp} (I:SI Y B ρ σ H) {j:Nat} {ts:List T} (hj:ρ[j]? =some (.ow ts)):∃ (a:Addr) (B' :Hp),σ[j]? =some (some (V.ref a))/\zK B B' /\Rep B' (.ref a) (.lst ts)/\SI Y B' (ρ.set j (.vl (.lst ts))) σ H:=by
 obtain ⟨a,xs,e,b0,h0,hh,rr,d⟩:=I.ow j ts hj
 have s1:zK B (upd B a (.lst xs)):=zK.new b0 _
 have rp:Rep (upd B a (.lst xs)) (.ref a) (.lst ts):= .lst Zb (rr.mono s1)
 refine ⟨a,_,e,s1,rp,⟨I.s0,I.sH,fun b o q=> ?_,fun b o q=> ?_,by rw [List.length_set]; exact I.len,fun k t q=> ?_,fun k us q=> ?_,fun k c q=> ?_⟩⟩
 ·by_cases hb:b=a
  ·subst hb; rw [Zb] at q; cases q; exact hh
  ·rw [zD hb] at q; exact I.sB b o q
 ·rw [zD fun z=>by rw [z,h0] at q; cases q]; exact I.old b o q
 ·rcases zT q with ⟨rfl,z⟩ | ⟨_,z⟩
  ·cases z; exact ⟨_,e,rp⟩
  ·obtain ⟨v,e1,r⟩:=I.vl k t z; exact ⟨v,e1,r.mono s1⟩
 ·rcases zT q with ⟨rfl,z⟩ | ⟨hk,z⟩
  ·cases z
  ·obtain ⟨a',xs',e',b0',h0',hh',rr',d'⟩:=I.ow k us z
   have hne:a' ≠ a:=fun w=>by subst w; exact d k us hk z e'
   refine ⟨a',xs',e',by rw [zD hne]; exact b0',h0',hh',rr'.mono s1,fun m ws hm hw=> ?_⟩
   rcases zT hw with ⟨rfl,w⟩ | ⟨_,w⟩
   ·cases w
   ·exact d' m ws hm w
 ·rcases zT q with ⟨rfl,z⟩ | ⟨_,z⟩
  ·cases z
  ·obtain ⟨a',e',r⟩:=I.xc k c z; exact ⟨a',e',s1 _ _ r⟩
theorem s_mv {i j:Nat} {x y:Str} {yp:Pos} (hv:PE X (.Name y yp) (Yc j)) (hN:X.N.Nodup) (hi:X.N[i]? =some x) (hx:L2.Loc X.env.scope x) (hs:swapsWith (.Name y yp) (some (.Name x p')) pos.line X.env=pure false:=by rfl)
  (hf:X.fn x=true\/X.env.scope.names.lookup x=some .local:=by first | exact .inl rfl | exact .inr rfl | assumption):Ws X Y (.Assign [.Name x p'] (.Name y yp) pos) (mvS i j):= .mk fun ρ=>
 PS.imp (UG hN hi hx hv hs hf) fun D σ H ⟨B,I,q⟩=>by
  unfold mvS at q
  split at q
  ·rename_i ts e
   obtain ⟨a,B',e1,s1,r,J⟩:=I.give e
   exact ⟨_,e1,q _ _ B' s1 (J.setV i r)⟩
  ·exact q.elim
end
def eqs (y:T):List T->Option (List Bool)
 | []=>some []
 | t :: ts=>match eqF 30 t y with
  | none=>none
  | some b=>match eqs y ts with
   | none=>none
   | some bs=>some (b :: bs)
def gY (y:T) (ts:List T):R T:=match eqs y ts with
 | some bs=> .ok (.int (bs.count true))
 | none=> .bad
def QA (y:T) (ts:List T):R T:=match eqs y ts with
 | some bs=>if true∈bs then .ok (.int (bs.idxOf true)) else .bad
 | none=> .bad
def Y9 (g:T->List T->R T) (fa fb:En->R T):En->R T:=fun ρ=>(fa ρ).bind fun t=>match t with
 | .lst ts=>(fb ρ).bind fun u=>g u ts
 | _=> .bad
theorem qj {H:Hp} {y:T} {e:Value->Bool} (he:∀ (v:V) (t:T) (u:Value) (b:Bool),ZL v u->Rep H v t->eqF 30 t y=some b->e u=b):∀ {xs:List V} {ts:List T} {its:List Value} {bs:List Bool},
  ZE xs its->zY H xs ts->eqs y ts=some bs->its.map e=bs/\∀ u∈its,∃ v t k,ZL v u/\Rep H v t/\eqF 30 t y=some k
 | _,_,_,_, .nil, .nil,h=>by
  cases h
  exact ⟨rfl,fun u hu=>by simp at hu⟩
 | _,_,_,_, .cons rv vs, .cons r rs,h=>by
  rename_i v u vals us t ts
  unfold eqs at h
  cases q:eqF 30 t y with
  | none=>rw [q] at h; cases h
  | some k=>
   rw [q] at h
   cases q' :eqs y ts with
   | none=>rw [q'] at h; cases h
   | some k' =>
    rw [q'] at h
    cases h
    obtain ⟨h1,h2⟩:=qj he vs rs q'
    refine ⟨by rw [List.map_cons,h1,he v t u k rv r q],fun w hw=> ?_⟩
    rcases List.mem_cons.mp hw with z | hw
    ·exact ⟨v,t,k,z ▸ rv,r,q⟩
    ·exact h2 w hw
section
variable {X:Cx} {Y:Fx} {a b:Expr} {fa fb:En->R T} {pos p p' pos' :Pos}
theorem qk {e:Value->Bool}:∀ its:List Value,List.countP e its=(its.map e).count true
 | []=>rfl
 | u :: us=>by
  rw [List.countP_cons,List.map_cons,List.count_cons,qk us]
  cases e u <;> rfl
theorem vf (hu:X.A.units+64 < cLine):MtR X "list.count" (fun x xs H Q=>∃ l ys ts v t bs,x= .ref l/\xs=[v]/\H l=some (.lst ys)/\zY H ys ts/\Rep H v t/\eqs t ts=some bs/\Q (.int (bs.count true)) H):=by
 intro pins s σ H x xs v0 us Q I rx rv h
 obtain ⟨l,ys,ts,v,t,bs,rfl,rfl,hl,r,rt,e,q⟩:=h
 obtain rfl:v0=Value.ref l:=rx
 obtain ⟨u,rfl,ru⟩:=jI rv
 obtain ⟨hz,its,n,ri,eo⟩:=(show ZH X.prog X.w H s.heap l (.lst ys) from I.hok l _ hl)
 obtain ⟨f,hf⟩:=Ua (H:=H) fun z=>eqF 30 z t
 obtain ⟨h2,h3⟩:=qj hf ri r e
 refine call_meets PySem.F.slot_list_count ⟨_,eo,rfl⟩ PySem.F.entry_list_count (PySem.F.args_list_count_2 _ _) (SeqAt.list_countAt l its.toArray n none #[] u f) ⟨eo,fun w hw=> ?_, ?_⟩
 ·obtain ⟨v',t',k,rv',rr,ee⟩:=h3 w (by simpa using hw)
  rw [hf v' t' w k rv' rr ee]
  exact (YE I 30 X.A.in1 (by rw [Js]; omega) t' t k v' v w u ee rr rt rv' ru).1
 ·rw [show its.toArray.toList=its from rfl,qk,h2]
  exact ⟨.int _,H,I.tok _,⟨_,rfl⟩,q⟩
theorem vg (hu:X.A.units+64 < cLine):MtR X "list.index" (fun x xs H Q=>∃ l ys ts v t bs,x= .ref l/\xs=[v]/\H l=some (.lst ys)/\zY H ys ts/\Rep H v t/\eqs t ts=some bs/\true∈bs/\Q (.int (bs.idxOf true)) H):=by
 intro pins s σ H x xs v0 us Q I rx rv h
 obtain ⟨l,ys,ts,v,t,bs,rfl,rfl,hl,r,rt,e,hm,q⟩:=h
 obtain rfl:v0=Value.ref l:=rx
 obtain ⟨u,rfl,ru⟩:=jI rv
 obtain ⟨hz,its,n,ri,eo⟩:=(show ZH X.prog X.w H s.heap l (.lst ys) from I.hok l _ hl)
 obtain ⟨f,hf⟩:=Ua (H:=H) fun z=>eqF 30 z t
 obtain ⟨h2,h3⟩:=qj hf ri r e
 have hj:bs.idxOf true < bs.length:=List.idxOf_lt_length_iff.mpr hm
 have hlen:bs.length=its.length:=by rw [← h2,List.length_map]
 have hri:=ri.length
 rw [sizeLine_eq] at hz
 have hat:∀ m (hm:m < its.length),f its[m]=bs[m]'(by rw [hlen]; exact hm):=fun m hm=>by
  have:(its.map f)[m]'(by rw [List.length_map]; exact hm)=bs[m]'(by rw [hlen]; exact hm):=by simp only [h2]
  rw [← this,List.getElem_map]
 refine call_meets PySem.F.slot_list_index ⟨_,eo,rfl⟩ PySem.F.entry_list_index (PySem.F.args_list_index_2 _ _) (SeqAt.list_indexAt l its.toArray n none #[] u f (bs.idxOf true) (by rw [List.size_toArray,← hlen]; exact hj) (by omega) ?_ ?_) ⟨eo,fun w hw=> ?_, ?_⟩
 ·rw [List.getElem_toArray,hat]
  exact List.getElem_idxOf hj
 ·intro m hm hlt
  rw [List.getElem_toArray,hat m (by simpa using hm)]
  have:=List.not_of_lt_findIdx (p:=(· == true)) (xs:=bs) (i:=m) hlt
  simpa using this
 ·obtain ⟨v',t',k,rv',rr,ee⟩:=h3 w (by simpa using hw)
  rw [hf v' t' w k rv' rr ee]
  exact (YE I 30 X.A.in1 (by rw [Js]; omega) t' t k v' v w u ee rr rt rv' ru).1
 ·exact ⟨.int _,H,I.tok _,⟨_,rfl⟩,q⟩
theorem xN {pa:Pos} (hu:X.A.units+64 < cLine) (ha:Jb X Y a fa) (hb:Jb X Y b fb) (hb1:attributeBase a "count" X.env (eval a X.env)=eval a X.env:=by rfl) (hs:St1 X b:=by exact st1 rfl) (hz:(pa.endLine == p.line)=true:=by rfl):
  Snd X Y (.Call (.Attribute a "count" pa) [b] [] p) (Y9 gY fa fb):= .mk fun ρ=>by
 have e1:(((((backTo p (starEach [b] X.env)).all fun x=> !x.fst) && (backToKw p (keywordEach [] X.env)).all fun x=>x.fst.isSome) && decide (([b].length+([]:List Keyword).length+if ([]:List Keyword).isEmpty=true then 0 else 1) < 30))=true):=by rw [hs]; rfl
 refine PE.imp (Yw PySem.F.plainAttrs_list PySem.F.slot_list_count PySem.F.type_list_count (vf hu) (ha ρ) (zH (hb ρ) Zu hs) hb1 e1 hz hs rfl) fun σ H Q ⟨B,I,q⟩=>step I q fun t v H1 _ s1 r1 I1 q1=> ?_
 cases t with
 | lst ts=>
  cases r1 with
  | @lst l xs _ h r=>
   refine ⟨.inl ⟨rfl,_,SqL.of h⟩,step I1 q1 fun u v' H2 _ s2 r2 I2 q2=> ?_⟩
   unfold gY at q2
   split at q2
   ·rename_i bs e
    exact ⟨l,xs,ts,v',u,bs,rfl,rfl,s2 _ _ h,r.mono s2,r2,e,jc I2 q2 (.int _)⟩
   ·exact q2.elim
 | _=>exact q1.elim
theorem Wy {pa:Pos} (hu:X.A.units+64 < cLine) (ha:Jb X Y a fa) (hb:Jb X Y b fb) (hb1:attributeBase a "index" X.env (eval a X.env)=eval a X.env:=by rfl) (hs:St1 X b:=by exact st1 rfl) (hz:(pa.endLine == p.line)=true:=by rfl):
  Snd X Y (.Call (.Attribute a "index" pa) [b] [] p) (Y9 QA fa fb):= .mk fun ρ=>by
 have e1:(((((backTo p (starEach [b] X.env)).all fun x=> !x.fst) && (backToKw p (keywordEach [] X.env)).all fun x=>x.fst.isSome) && decide (([b].length+([]:List Keyword).length+if ([]:List Keyword).isEmpty=true then 0 else 1) < 30))=true):=by rw [hs]; rfl
 refine PE.imp (Yw PySem.F.plainAttrs_list PySem.F.slot_list_index PySem.F.type_list_index (vg hu) (ha ρ) (zH (hb ρ) Zu hs) hb1 e1 hz hs rfl) fun σ H Q ⟨B,I,q⟩=>step I q fun t v H1 _ s1 r1 I1 q1=> ?_
 cases t with
 | lst ts=>
  cases r1 with
  | @lst l xs _ h r=>
   refine ⟨.inl ⟨rfl,_,SqL.of h⟩,step I1 q1 fun u v' H2 _ s2 r2 I2 q2=> ?_⟩
   unfold QA at q2
   split at q2
   ·rename_i bs e
    split at q2
    ·rename_i hm
     exact ⟨l,xs,ts,v',u,bs,rfl,rfl,s2 _ _ h,r.mono s2,r2,e,hm,jc I2 q2 (.int _)⟩
    ·exact q2.elim
   ·exact q2.elim
 | _=>exact q1.elim
end
def j0:List T->Option (List Int)
 | []=>some []
 | .int i :: r=>match j0 r with | some l=>some (i :: l) | none=>none
 | _ :: _=>none
def gZ:T->R T
 | .lst ts=>match j0 ts with | some l=> .ok (.int l.sum) | none=> .bad
 | _=> .bad
def nex (g:List T->R T):List T->R T:=fun ts=>quiet (g ts)
theorem noex {P:Program} {w:World} {K:PySem.W.Frag} {mg:Str->Option Value} {base:Heap} {cl:Nat->Value} {k n:Nat} {f:Addr} {fd:FuncData} {ps:List Str} {g:List T->R T} (F:ZB P w K mg base (CX1 P w) k f fd ps (spP cl n g)):ZB P w K mg base CX0 k f fd ps (spP cl n (nex g)):=by
 have key:∀ vs H Q E,spP cl n (nex g) vs H Q E->spP cl n g vs H Q (fun _ _ _=>False):=fun vs H Q E ⟨B,ts,hl,sB,r,q⟩=>⟨B,ts,hl,sB,r,by
  unfold nex at q
  revert q
  cases g ts with
  | ok t=>exact fun q=>q
  | ex c=>exact fun q=>q.elim
  | bad=>exact fun q=>q.elim⟩
 refine ⟨fun vs H Q E h=>F.len vs H Q _ (key vs H Q E h),fun A outer s H args us vs Q E hr he hb hv h=> ?_⟩
 refine codeAny_mono (F.run A outer s H args us vs Q _ hr he hb hv (key vs H Q E h)) fun r s' z=> ?_
 cases r with
 | ok fl=>cases fl <;> exact z
 | error e=>
  obtain ⟨_,_,_,_,_,_,_,z⟩:=(show CX1 P w outer H s (fun _ _ _=>False) e s' from z)
  exact z.elim
theorem Wz:∀ {H:Hp} {xs:List V} {ts:List T} {its:List Value} {is:List Int},zY H xs ts->ZE xs its->j0 ts=some is->∃ ps:List (Int×Tok),its=ps.map (fun p=>Value.int p.1 p.2)/\ps.map (·.1)=is
 | _,_,_,_,is, .nil, .nil,h=>by
  have h' :some []=some is:=h
  cases h'
  exact ⟨[],rfl,rfl⟩
 | H,_,_,_,is, .cons (v:=x) (t:=t) r rs, .cons (b:=u) rv vs,h=>by
  cases r with
  | int i=>
   unfold j0 at h
   split at h
   ·rename_i l e
    cases h
    obtain ⟨ps,h1,h2⟩:=Wz rs vs e
    obtain ⟨tk,rfl⟩:=rv
    exact ⟨(i,tk) :: ps,by rw [h1]; rfl,by rw [List.map_cons,h2]⟩
   ·cases h
  | _=>cases h
section
variable {X:Cx} {Y:Fx} {a b:Expr} {fa fb:En->R T} {pos p p' pos' :Pos}
theorem ql (hh:X.A.handled=none):j4 X (.builtin "sum") (fun vs H Q=>∃ l xs ts is,vs=[.ref l]/\H l=some (.lst xs)/\zY H xs ts/\j0 ts=some is/\Q (.int is.sum) H):=by
 intro pins s σ H vs us Q I rv h
 obtain ⟨l,xs,ts,is,rfl,hl,r,hk,q⟩:=h
 obtain ⟨u,rfl,ru⟩:=jI rv
 obtain rfl:u=Value.ref l:=ru
 obtain ⟨its,rv,p,_⟩:=Z8 I (.inl hl) r
 obtain ⟨ps,h1,h2⟩:=Wz r rv hk
 have e:its.toArray=intItems ps.toArray:=by rw [h1]; simp [intItems]
 rw [e] at p
 refine sum_intListG hh p fun h' tk t' kp=> ?_
 have e2:preSum (numAt ps.toArray) ps.toArray.size=is.sum:=by
  rw [preSum_eq,List.take_of_length_le (by simp),← h2]
 rw [e2]
 exact ⟨.int is.sum,H,I.kept (t' :=tk) kp,⟨t',rfl⟩,q⟩
theorem G1 (hh:X.A.handled=none) (gl:Gl X "sum") (mg:X.mg "sum"=none) (ha:Jb X Y a fa) (hs:St1 X a:=by exact st1 rfl):Snd X Y (.Call (.Name "sum" p) [a] [] pos) (ap1 gZ fa):=
 W9 (ql hh) (fun v t B H Q r sB q=>by
  cases r with
  | @lst l xs ts h r=>
   have q:Po Y rC B H (match j0 ts with | some k=> .ok (.int k.sum) | none=> .bad) Q:=q
   split at q
   ·rename_i k e
    exact ⟨l,xs,ts,k,rfl,h,r,e,po0 sB q rfl (.int _)⟩
   ·exact q.elim
  | _=>exact q.elim) gl mg boot_sum ha hs
end
def del (B:Hp) (a:Addr):Hp:=fun b=>if b=a then none else B b
theorem kO {B:Hp} {a:Addr}:del B a a=none:=if_pos rfl
theorem qm {B:Hp} {a b:Addr} (h:b ≠ a):del B a b=B b:=if_neg h
theorem SI.got {Y:Fx} {B:Hp} {ρ:En} {σ:Sg} {H H' :Hp} {a:Addr} {xs:List V} {us:List T} {B' :Hp} (I:SI Y B ρ σ H) (i:Nat) (s:zK H H') (n:H a=none) (e:H' a=some (.lst xs)) (r:zY B' xs us) (b0:B' a=none) (l:zK B' (Z5 B H H')):
  zK B (del (Z5 B H H') a)/\SI Y (del (Z5 B H H') a) (ρ.set i (.ow us)) (σ.set i (some (.ref a))) H' :=by
 have h0:Y.H0 a=none:=I.sH.free n
 have up:zK B (del (Z5 B H H') a):=fun b o h=>by
  have hb:b ≠ a:=fun z=>by rw [z] at h; have:=I.sB a o h; rw [n] at this; cases this
  rw [qm hb]; exact Z5.ge I.sB s b o h
 have bl:zK B' (del (Z5 B H H') a):=fun b o h=>by
  have hb:b ≠ a:=fun z=>by rw [z,b0] at h; cases h
  rw [qm hb]; exact l b o h
 have op:∀ k ws,ρ[k]? =some (Sl.ow ws)->σ[k]? ≠ some (some (V.ref a)):=fun k ws h1 h2=>by
  obtain ⟨a',xs',e',_,_,hh,_⟩:=I.ow k ws h1
  rw [e'] at h2; cases h2
  rw [n] at hh; cases hh
 refine ⟨up,I.s0,I.sH.trans s,fun b o h=> ?_,fun b o h=> ?_,by rw [List.length_set,List.length_set]; exact I.len,fun j u h=> ?_,fun j ws h=> ?_,fun j c h=> ?_⟩
 ·by_cases hb:b=a
  ·subst hb; rw [kO] at h; cases h
  ·rw [qm hb] at h; exact Z5.le I.sB s b o h
 ·have hb:b ≠ a:=fun z=>by rw [z,h0] at h; cases h
  rw [qm hb,Zs (I.sH b o h)]; exact I.old b o h
 ·rcases zT h with ⟨rfl,z⟩ | ⟨hj,h'⟩
  ·cases z
  ·obtain ⟨w,e1,rr⟩:=I.vl j u h'
   exact ⟨w,by rw [List.getElem?_set_ne (Ne.symm hj)]; exact e1,rr.mono up⟩
 ·rcases zT h with ⟨rfl,z⟩ | ⟨hj,h'⟩
  ·cases z
   refine ⟨a,xs,List.getElem?_set_self (by rw [← I.len]; exact um h),kO,h0,e,r.mono bl,fun k vs hk hw=> ?_⟩
   rcases zT hw with ⟨rfl,_⟩ | ⟨hk',hw'⟩
   ·exact absurd rfl hk
   ·rw [List.getElem?_set_ne (Ne.symm hk')]; exact op k vs hw'
  ·obtain ⟨a',xs',e',c0,g0,gg,ss,d'⟩:=I.ow j ws h'
   have hne:a' ≠ a:=fun z=>by rw [z,n] at gg; cases gg
   refine ⟨a',xs',by rw [List.getElem?_set_ne (Ne.symm hj)]; exact e',by rw [qm hne,Zs gg]; exact c0,g0,s _ _ gg,ss.mono up,fun k vs hk hw=> ?_⟩
   rcases zT hw with ⟨rfl,_⟩ | ⟨hk',hw'⟩
   ·rw [List.getElem?_set_self (by rw [← I.len]; exact um hw)]
    intro z; injection z with z; injection z with z; injection z with z; exact hne z.symm
   ·rw [List.getElem?_set_ne (Ne.symm hk')]; exact d' k vs hk hw'
 ·rcases zT h with ⟨rfl,z⟩ | ⟨hj,h'⟩
  ·cases z
  ·obtain ⟨w,e1,rr⟩:=I.xc j c h'
   exact ⟨w,by rw [List.getElem?_set_ne (Ne.symm hj)]; exact e1,up w _ rr⟩
section
variable {X:Cx} {Y:Fx} {a b:Expr} {fa fb:En->R T} {pos p p' pos' :Pos}
end
section
variable {X:Cx} {Y:Fx} {tg iter elt:Expr} {ifs:List Expr} {scope:Scope} {pos pos' :Pos} {N' :List Str} {k:Nat} {js:List Nat} {fi:En->R (List T)} {tG:TG} {g:T->En->R En} {ft:En->R Bool} {fe:En->R T}
end
section
variable {P:Program} {w:World} {K:PySem.W.Frag} {mg:Str->Option Value} {base:Heap}
end
end PV
namespace PySem.RV
open PySem PySem.Spec PyProof.Rows PySem.Builtin.SmallTypes
section
variable {prog:Program} {w:World} {A:Around} {E:Value->Shared->Prop} {s:Shared} {it l:Addr} {xs:Array Value}
end
end PySem.RV
namespace PySem.RV
open PySem PySem.Spec PyProof.Rows
section
variable {prog:Program} {w:World} {A:Around} {E:Value->Shared->Prop} {s:Shared} {I:Addr} {fp wr:List Addr} {G:Array GenState->Array GenState->Prop} {n:Nat} {P:Nat->Value->Prop} {St:Nat->Shared->Prop}
end
end PySem.RV
namespace PV
open PySem PySem.Spec PyProof.Rows L2
section
variable {X:Cx} {Y:Fx} {a b tg:Expr} {fa fb:En->R T} {pos p p' pos' :Pos}
end
section
variable {X:Cx} {Y:Fx} {a b:Expr} {fa fb:En->R T} {pos p p' pos' pt:Pos} {elts:List Expr} {kk:Nat}
end
section
variable {X:Cx} {Y:Fx} {a b:Expr} {fa fb:En->R T} {pos p p' pos' pt:Pos} {elts:List Expr} {kk:Nat}
end
end PV
namespace PySem.RV
open PySem PySem.Spec PyProof.Rows PySem.Builtin.SmallTypes
theorem draws_tup {prog:Program} {w:World} {A:Around} (hh:A.handled=none) (it l:Addr) (hne:l ≠ it) (items:Array Value):Draws prog w A it [it,l] items.size (fun i v=>items[i]? =some v) (fun i h=>h.IsTupleIter it l i/\h.IsTuple l items) where
 live:=fun i h st=>(ZG.nx_tup hne items).there st it (.head _)
 frame:=fun i h h' st hk=>(ZG.nx_tup hne items).keep st hk
 item:=fun i s Q E hi st hQ=>ZG.tup_item st.1 st.2 (x:=items[i]) (by simp [hi]) fun h' a b=>hQ _ h' s.toks (by simp [hi]) ⟨a,st.2.extBut b.extBut hne⟩ b
 done:=fun s Q E st hE=>ZG.tup_stop hh st.1 st.2 (by simp) hE
abbrev eOb (i:Addr):Obj:={ cls:= .type "enumerate",data:= .fields #[.none, .bool false, .ref i,rawInt 0, .none, .none] }
theorem qo (l:Addr) (items:Array Value) (n:Nat) (dct:Option Addr) (sl:Array (Option Value)):
  Meets (Builtin.«enumerate.__new__» ⟨[.type "enumerate", .ref l],[]⟩) (fun _ R s=>s.heap.get? l=some { cls:= .type "tuple",dict:=dct,data:= .seq items n,slots:=sl }/\
   R (.ok (.ret (.ref (s.heap.push (ZG.oT l)).objs.size))) { s with heap:=(s.heap.push (ZG.oT l)).push (eOb s.heap.objs.size) }):=
 .of_wp fun prog w A R s h=>by
  obtain ⟨hp,g,d,tk,os⟩:=s
  obtain ⟨hl,h⟩:=h
  have hsub:=sub_enumerate
  have hL:Heap.IsTuple (Shared.heap ⟨hp,g,d,tk,os⟩) l items:=⟨_,hl,rfl,n,rfl⟩
  wp_walk using PySem.AutoSeq1.wpAny_loadPart' hl
  refine wpAny_stack_any fun st=>wpAny_pure ?_
  split
  ·rename_i c _ _ _ _ _
   cases (c == Value.type "enumerate") <;> (wp_walk using PySem.AutoSeq1.wpAny_loadPart' hl,wpAny_pyIter_tuple hL; exact ⟨_,rfl,h⟩)
  ·wp_walk using PySem.AutoSeq1.wpAny_loadPart' hl,wpAny_pyIter_tuple hL
   exact ⟨_,rfl,h⟩
theorem enum_callT {prog:Program} {w:World} {A:Around} {E:Value->Shared->Prop} {s:Shared} {l:Addr} {items:Array Value} {Q:Value->Shared->Prop} (hL:s.heap.IsTuple l items)
  (h:∀ h',IsEnum h' (s.heap.objs.size+1) s.heap.objs.size 0 .none->h'.IsTupleIter s.heap.objs.size l 0->(∀ b o,s.heap.get? b=some o->h'.get? b=some o)->Q (.ref (s.heap.objs.size+1)) { s with heap:=h' }):
  wpAny (model prog w) A (call (.type "enumerate") [.ref l]) Q E s:=by
 obtain ⟨⟨c,dct,dt,sl⟩,hl,hc,n,hd⟩:=hL
 obtain rfl:c= .type "tuple":=hc
 obtain rfl:dt= .seq items n:=hd
 refine callType_new F.called_enumerate (by decide) (F.typeCall_enumerate_1 _) (F.newCall_enumerate_1 _) (fun obj=>F.args_object_init_2 obj _) F.entry_enumerate_new (qo l items n dct sl) ⟨hl, ?_⟩
 have hz:(s.heap.push (ZG.oT l)).objs.size=s.heap.objs.size+1:=Heap.size_push ..
 have e1:((s.heap.push (ZG.oT l)).push (eOb s.heap.objs.size)).get? (s.heap.push (ZG.oT l)).objs.size=some _:=Heap.get?_push_size _ rfl
 rw [hz] at e1
 refine (show _/\_ from ?_)
 rw [hz]
 exact ⟨⟨_,e1,rfl⟩,h _ e1 ⟨_,Heap.get?_push_of_some _ (Heap.get?_push_size _ rfl),rfl,rfl⟩ fun b o x=>Heap.get?_push_of_some _ (Heap.get?_push_of_some _ x)⟩
end PySem.RV
namespace PV
open PySem PySem.Spec PyProof.Rows L2
def G2 (K:PySem.W.Frag) (l:Addr) (n:Nat):It:=
 ⟨fun i H=>∃ xs x,SqT K H l xs/\xs.length=n/\xs[i]? =some x,fun i H v H' =>∃ p x,H p=none/\v= .ref p/\(∀ xs,SqT K H l xs->xs[i]? =some x)/\H' =upd H p (.tup [.int i,x]),fun i H=>∃ xs,SqT K H l xs/\xs.length=n/\n<=i⟩
theorem yQ {P:Program} {w:World} {K:PySem.W.Frag} {elts:List Expr} {kk:Nat} {pt:Pos} (e it l:Addr) (n:Nat) (hei:e ≠ it) (hle:l ≠ e) (hli:l ≠ it):
  Qx P w K (.Tuple elts kk pt) (G2 K l n) [e,it] e (fun i h=>i<=n/\(∃ old,IsEnum h e it i old)/\h.IsTupleIter it l i) where
 mem:=by simp
 obj:=fun i h st b hb=>by
  obtain ⟨_,⟨old,he⟩,o,e1,c,d⟩:=st
  rcases List.mem_cons.mp hb with rfl | hb
  ·exact ⟨_,he,fun v z=>nomatch z⟩
  ·have z:b=it:=by simpa using hb
   subst z
   exact ⟨o,e1,fun v z=>by rw [d] at z; cases z⟩
 keep:=fun i h h' st k=>by
  obtain ⟨hn,⟨old,he⟩,o,e1,r⟩:=st
  exact ⟨hn,⟨old,k e (by simp) _ he⟩,o,k it (by simp) o e1,r⟩
 item:=by
  intro X hP hw hK hc i pins s σ H E I hf st hg
  subst hP hw hK
  obtain ⟨xs,x,hq,hxn,hx⟩:=hg
  obtain ⟨its,rv,p,hz⟩:=I.tuple hq
  obtain ⟨u,hu,ru⟩:=rv.get hx
  obtain ⟨hin,⟨old,he⟩,hit⟩:=st
  have hi:i < its.toArray.size:=by
   have:=(List.getElem?_eq_some_iff.mp hu).1
   simpa using this
  have D:=RV.draws_tup (prog:=X.prog) (w:=X.w) (A:=X.A.in1) (I.ok.hd hc) it l hli its.toArray
  have hef:e ∉ [it,l]:=fun z=>by
   rcases List.mem_cons.mp z with z | z
   ·exact hei z
   ·exact hle (List.mem_singleton.mp z).symm
  have WE:=WalksT.enumerateD D e hei hef (.head _)
  refine WE.item i s _ _ hi ⟨⟨old,he⟩,hit,p⟩ fun T vals h' tk hP hT hTup hM hk=> ?_
  obtain ⟨t,y,hy,rfl⟩:=hP
  have hyu:y=u:=by
   have:its[i]? =some y:=by simpa using hy
   rw [hu] at this; exact (Option.some.inj this).symm
  subst hyu
  refine ⟨.ref T,rfl, ?_⟩
  refine WE.go elts kk pt i T _ _ _ hM fun h2 hst2 hk2=> ?_
  have hTn:H T=none:=I.hok.fresh hT
  have hTne:∀ b∈[e,it],b ≠ T:=fun b hb z=>by
   obtain ⟨_,_,h3,h4⟩:=hM
   rcases List.mem_cons.mp hb with rfl | hb
   ·exact h3 z.symm
   ·have:b=it:=by simpa using hb
    subst this; exact h4 z.symm
  have vt:IsTup h2 T #[.int i t,y]:=by
   obtain ⟨o,eo,r⟩:=hTup
   exact ⟨o,hk2 T o (fun hb=>hTne T hb rfl) eo,r⟩
  refine ⟨.ref T,upd H T (.tup [.int i,x]),Inv.laidT (s:=s) (h' :=h2) (ch:=[e,it]) (tk:=tk) I hf (fun b o hb e=>hk2 b o hb (hk b o hb e)) (fun b o hb _=> ?_) hT ⟨by rw [sizeLine_eq]; show 2<=16777216; decide,[.int i t,y], .cons ⟨t,rfl⟩ (.cons ru .nil),vt⟩,rfl,⟨T,x,hTn,rfl,fun ys hy=>by rw [I.tuple_inj hy hq]; exact hx,rfl⟩,⟨by have:=(List.getElem?_eq_some_iff.mp hx).1; omega,hst2.1,hst2.2.1⟩,fun b hb=> ?_⟩
  ·obtain ⟨⟨old2,he2⟩,⟨o2,eo2,_⟩,_⟩:=hst2
   rcases List.mem_cons.mp hb with rfl | hb
   ·exact ⟨_,he2⟩
   ·have:b=it:=by simpa using hb
    subst this; exact ⟨o2,eo2⟩
  ·rw [zD (hTne b hb)]; exact (hf b hb).1
 done:=by
  intro X hP hw hK hc i pins s σ H E I hf st hg
  subst hP hw hK
  obtain ⟨xs,hq,hxn,hx⟩:=hg
  obtain ⟨its,rv,p,hz⟩:=I.tuple hq
  obtain ⟨hin,⟨old,he⟩,hit⟩:=st
  have hl:=rv.length
  have D:=RV.draws_tup (prog:=X.prog) (w:=X.w) (A:=X.A.in1) (I.ok.hd hc) it l hli its.toArray
  have hn:its.toArray.size=i:=by simp; omega
  refine wpAny_pyNext_enum_endD D he (by rw [hn]; exact ⟨hit,p⟩) fun h' hk=>⟨rfl, ?_⟩
  obtain ⟨f0,f1,f2,f3,f4,f5⟩:=hf it (by simp)
  exact I.turned (t' :=s.toks) (fun b o hb e=>hk b o hb e) f0 f1 f3 f4 f5
 self:=fun _ _ _ _ _ st h=>let ⟨_,⟨_,he⟩,_⟩:=st; wpAny_pyIter_enum he h
theorem vh {K:PySem.W.Frag} {B1 H1:Hp} {a:Addr} {xs:List V} {ts:List T} (h:B1 a=some (.tup xs)) (r:zY B1 xs ts):rI B1 H1 (G2 K a xs.length) (Jj ts):=fun B2 H2 s1 s2=>by
 have h2:=s2 _ _ (s1 _ _ h)
 rw [JV]
 refine ⟨fun i hi=> ?_,fun i t x H3 e y=> ?_,fun i hi=>⟨xs,SqT.of h2,rfl,by rw [r.length]; exact hi⟩⟩
 ·obtain ⟨v,e,_⟩:=r.get (List.getElem?_eq_getElem hi)
  exact ⟨xs,v,SqT.of h2,rfl,e⟩
 ·obtain ⟨p,v,hp,rfl,y,rfl⟩:=y
  obtain ⟨t',et,rfl⟩:=uo e
  obtain ⟨v',e1,r1⟩:=r.get et
  have:=y xs (SqT.of h2)
  rw [e1] at this; cases this
  refine ⟨zK.new hp _, .tup (Ji hp _) (.cons (.int _) (.cons ?_ .nil))⟩
  exact (r1.mono s1).mono (Z5.ge s2 (zK.new hp _))
def US (fa:En->R T):En->R (List T):=fun ρ=>(fa ρ).bind fun t=>match t with
 | .tup xs=> .ok (Jj xs)
 | _=> .bad
section
variable {X:Cx} {Y:Fx} {a:Expr} {fa:En->R T} {pos p pt:Pos} {elts:List Expr} {kk:Nat}
theorem vi {ta:TA} (hg:Gl X "enumerate") (hm:X.mg "enumerate"=none) (ha:PA X [a] ta) (hs:St1 X a:=by exact st1 rfl):
  PI X (.Tuple elts kk pt) (.Call (.Name "enumerate" p) [a] [] pos) (fun σ H R=>ta σ H fun vs H1=>∃ l xs,vs=[.ref l]/\H1 l=some (.tup xs)/\R (G2 X.K l xs.length) H1):=by
 intro pins s σ H R I h
 refine Call_ (JU I hg hm PyProof.Rows.Boot.«enumerate» (PyProof.Rows.callWith_type1 (thn (ha pos pins s σ H _ I h) fun us s1 ⟨vs,H1,I1,r1,q1⟩=> ?_) hs rfl))
 obtain ⟨l,xs,e,hl,q⟩:=q1
 subst e
 obtain ⟨u,rfl,ru⟩:=jI r1
 obtain rfl:u=Value.ref l:=ru
 obtain ⟨its,rv,pl,hz⟩:=I1.tuple (SqT.of hl)
 have hlt:l < s1.heap.objs.size:=I1.hok.lt hl
 refine RV.enum_callT (show s1.heap.IsTuple l its.toArray from pl) fun h' he hit hk=>wpAny_pyIter_enum he ?_
 have f:∀ b∈[s1.heap.objs.size+1,s1.heap.objs.size],uY X pins H1 b:=fun b hb=>by
  rcases List.mem_cons.mp hb with rfl | hb
  ·exact I1.fpOk (Nat.le_succ _) (I1.hok.fresh (Nat.le_succ _))
  ·have z:b=s1.heap.objs.size:=by simpa using hb
   subst z
   exact I1.fpOk (Nat.le_refl _) (I1.hok.fresh (Nat.le_refl _))
 exact ⟨s1.heap.objs.size+1,[s1.heap.objs.size+1,s1.heap.objs.size],_,_,H1,rfl,I1.kept (t' :=s1.toks) hk,yQ _ _ l xs.length (Nat.succ_ne_self _) (Nat.ne_of_lt (Nat.lt_succ_of_lt hlt)) (Nat.ne_of_lt hlt),⟨Nat.zero_le _,⟨_,he⟩,hit⟩,f,q⟩
theorem xO (hg:Gl X "enumerate") (hm:X.mg "enumerate"=none) (ha:Snd X Y a fa) (hs:St1 X a:=by exact st1 rfl):YW X Y (.Tuple elts kk pt) (.Call (.Name "enumerate" p) [a] [] pos) (US fa):= .mk fun ρ=>
 PI.imp (vi hg hm (zH (ha ρ) Zu hs) hs) fun σ H R ⟨B,I,q⟩=>step I q fun t v H1 _ s1 r1 I1 q1=>by
  cases r1 with
  | @tup l xs ts h r=>exact ⟨l,xs,rfl,I1.sB _ _ h,jc I1 (show Po Y rI _ H1 (.ok (Jj ts)) R from q1) (vh h r)⟩
  | _=>exact q1.elim
end
end PV
namespace PySem.RW37
open PySem PySem.Spec PyProof.Rows L2
section
variable {X:Cx} {pos:Pos}
end
end PySem.RW37
namespace PV
open PySem PySem.Spec PyProof.Rows L2 PySem.RW37
section
variable {X:Cx} {Y:Fx} {pos:Pos} {a b c:Expr}
end
end PV
namespace PV
open PySem PySem.Spec PyProof.Rows L2
def kP (t t' :T):R T:=match t,t' with
 | .int i, .int j=> .ok (.int (if j > i then j else i))
 | _,_=> .bad
def vj:T->R T
 | .int i=> .ok (.int (if i < 0 then -i else i))
 | _=> .bad
def jA (f:Int->Int->Bool):Int->List Int->Int
 | i,[]=>i
 | i,j :: r=>jA f (if f j i then j else i) r
def yR:T->R T
 | .lst ts=>match j0 ts with | some (i :: l)=> .ok (.int (jA (fun a b=>decide (b < a)) i l)) | _=> .bad
 | _=> .bad
def vk:T->R T
 | .lst ts=>match j0 ts with | some (i :: l)=> .ok (.int (jA (fun a b=>decide (a < b)) i l)) | _=> .bad
 | _=> .bad
theorem we:∀ (l:List Int) (i:Int),jA (fun a b=>decide (b < a)) i l∈i :: l/\∀ x∈i :: l,x<=jA (fun a b=>decide (b < a)) i l
 | [],i=>⟨List.mem_cons_self,fun x h=>by simp at h; subst h; exact Int.le_refl _⟩
 | j :: r,i=>by
  unfold jA
  by_cases hj:i < j
  ·simp only [hj,decide_true,if_true]
   obtain ⟨h1,h2⟩:=we r j
   refine ⟨List.mem_cons_of_mem _ h1,fun x hx=> ?_⟩
   rcases List.mem_cons.mp hx with rfl | hx
   ·exact Int.le_trans (Int.le_of_lt hj) (h2 j List.mem_cons_self)
   ·exact h2 x hx
  ·simp only [hj,decide_false,Bool.false_eq_true,if_false]
   obtain ⟨h1,h2⟩:=we r i
   refine ⟨?_,fun x hx=> ?_⟩
   ·rcases List.mem_cons.mp h1 with h | h
    ·rw [h]; exact List.mem_cons_self
    ·exact List.mem_cons_of_mem _ (List.mem_cons_of_mem _ h)
   ·rcases List.mem_cons.mp hx with rfl | hx
    ·exact h2 x List.mem_cons_self
    ·rcases List.mem_cons.mp hx with rfl | hx
     ·exact Int.le_trans (Int.not_lt.mp hj) (h2 i List.mem_cons_self)
     ·exact h2 x (List.mem_cons_of_mem _ hx)
theorem wf:∀ (l:List Int) (i:Int),jA (fun a b=>decide (a < b)) i l∈i :: l/\∀ x∈i :: l,jA (fun a b=>decide (a < b)) i l<=x
 | [],i=>⟨List.mem_cons_self,fun x h=>by simp at h; subst h; exact Int.le_refl _⟩
 | j :: r,i=>by
  unfold jA
  by_cases hj:j < i
  ·simp only [hj,decide_true,if_true]
   obtain ⟨h1,h2⟩:=wf r j
   refine ⟨List.mem_cons_of_mem _ h1,fun x hx=> ?_⟩
   rcases List.mem_cons.mp hx with rfl | hx
   ·exact Int.le_trans (h2 j List.mem_cons_self) (Int.le_of_lt hj)
   ·exact h2 x hx
  ·simp only [hj,decide_false,Bool.false_eq_true,if_false]
   obtain ⟨h1,h2⟩:=wf r i
   refine ⟨?_,fun x hx=> ?_⟩
   ·rcases List.mem_cons.mp h1 with h | h
    ·rw [h]; exact List.mem_cons_self
    ·exact List.mem_cons_of_mem _ (List.mem_cons_of_mem _ h)
   ·rcases List.mem_cons.mp hx with rfl | hx
    ·exact h2 x List.mem_cons_self
    ·rcases List.mem_cons.mp hx with rfl | hx
     ·exact Int.le_trans (h2 i List.mem_cons_self) (Int.not_lt.mp hj)
     ·exact h2 x (List.mem_cons_of_mem _ hx)
theorem Jz (ps:List (Int×Tok)) (i:Nat) (h:i < ps.length):numAt ps.toArray i=(ps.map (·.1))[i]'(by simpa using h):=by
 unfold numAt
 simp [h]
section
variable {X:Cx} {Y:Fx} {a b:Expr} {fa fb:En->R T} {pos p p' pos' pt:Pos} {elts:List Expr} {kk:Nat}
theorem kQ (hc:X.calm=true) (gl:Gl X "max") (mg:X.mg "max"=none) (ha:Snd X Y a fa) (hb:Snd X Y b fb)
  (hs:starEach [a,b] X.env=[(false,eval a X.env),(false,eval b X.env)]:=by exact st2 rfl rfl) (hs2:starEach [b] X.env=[(false,eval b X.env)]:=by exact st1 rfl):
  Snd X Y (.Call (.Name "max" p) [a,b] [] pos) (ze kP fa fb):= .mk fun ρ=>
 PE.imp (jz (Yn hc) gl mg PyProof.Rows.Boot.«max» (zH (ha ρ) (zH (hb ρ) Zu hs2) (by rw [hs,hs2])) (by decide) (by decide) (by rw [hs,hs2]) (by rw [hs2]; rfl)) fun σ H Q ⟨B,I,q⟩=>
  step I q fun t v H1 _ s1 r1 I1 q1=>step I1 q1 fun t' v' H2 _ s2 r2 I2 q2=>by
   cases r1 with
   | int i=>
    cases r2 with
    | int j=>exact ⟨i,j,rfl,po0 I2.sB q2 rfl (.int _)⟩
    | _=>exact q2.elim
   | _=>cases r2 <;> exact q2.elim
theorem qp (gl:Gl X "abs") (mg:X.mg "abs"=none) (ha:Jb X Y a fa) (hs:St1 X a:=by exact st1 rfl):Snd X Y (.Call (.Name "abs" p) [a] [] pos) (ap1 vj fa):=
 W9 QM (fun v t B H Q r sB q=>by
  cases r with
  | int i=>exact ⟨i,rfl,po0 sB q rfl (.int _)⟩
  | _=>exact q.elim) gl mg PyProof.Rows.Boot.«abs» ha hs
theorem qq (hh:X.A.handled=none):j4 X (.builtin "max") (fun vs H Q=>∃ l xs ts i is,vs=[.ref l]/\H l=some (.lst xs)/\zY H xs ts/\j0 ts=some (i :: is)/\Q (.int (jA (fun a b=>decide (b < a)) i is)) H):=by
 intro pins s σ H vs us Q I rv h
 obtain ⟨l,xs,ts,i,is,rfl,hl,r,hk,q⟩:=h
 obtain ⟨u,rfl,ru⟩:=jI rv
 obtain rfl:u=Value.ref l:=ru
 obtain ⟨its,rv,p,_⟩:=Z8 I (.inl hl) r
 obtain ⟨ps,h1,h2⟩:=Wz r rv hk
 have e:its.toArray=intItems ps.toArray:=by rw [h1]; simp [intItems]
 rw [e] at p
 have hlen:ps.length=is.length+1:=by have:=congrArg List.length h2; simpa using this
 refine max_intList hh p (by simp [hlen]) fun v h' tk hv kp=> ?_
 obtain ⟨t,rfl⟩:=intItems_at hv
 obtain ⟨b1,b2⟩:=argBest_gt (numAt ps.toArray) (ps.toArray.size - 1)
 have hsz:ps.toArray.size=ps.length:=by simp
 rw [hsz] at b1 b2 ⊢
 obtain ⟨m1,m2⟩:=we is i
 have e2:numAt ps.toArray (argBest (fun i j=>decide (numAt ps.toArray i > numAt ps.toArray j)) (ps.length - 1))=jA (fun a b=>decide (b < a)) i is:=by
  refine Int.le_antisymm (m2 _ ?_) ?_
  ·rw [Jz ps _ (by omega),← h2]
   exact List.getElem_mem _
  ·rw [← h2] at m1
   obtain ⟨j,hj,ej⟩:=List.mem_iff_getElem.mp m1
   rw [← ej]
   have hj' :j < ps.length:=by simpa using hj
   rw [← Jz ps j hj']
   exact b2 j (by omega)
 rw [e2]
 exact ⟨.int _,H,I.kept (t' :=tk) kp,⟨t,rfl⟩,q⟩
theorem qr (hh:X.A.handled=none):j4 X (.builtin "min") (fun vs H Q=>∃ l xs ts i is,vs=[.ref l]/\H l=some (.lst xs)/\zY H xs ts/\j0 ts=some (i :: is)/\Q (.int (jA (fun a b=>decide (a < b)) i is)) H):=by
 intro pins s σ H vs us Q I rv h
 obtain ⟨l,xs,ts,i,is,rfl,hl,r,hk,q⟩:=h
 obtain ⟨u,rfl,ru⟩:=jI rv
 obtain rfl:u=Value.ref l:=ru
 obtain ⟨its,rv,p,_⟩:=Z8 I (.inl hl) r
 obtain ⟨ps,h1,h2⟩:=Wz r rv hk
 have e:its.toArray=intItems ps.toArray:=by rw [h1]; simp [intItems]
 rw [e] at p
 have hlen:ps.length=is.length+1:=by have:=congrArg List.length h2; simpa using this
 refine min_intList hh p (by simp [hlen]) fun v h' tk hv kp=> ?_
 obtain ⟨t,rfl⟩:=intItems_at hv
 obtain ⟨b1,b2⟩:=argBest_lt (numAt ps.toArray) (ps.toArray.size - 1)
 have hsz:ps.toArray.size=ps.length:=by simp
 rw [hsz] at b1 b2 ⊢
 obtain ⟨m1,m2⟩:=wf is i
 have e2:numAt ps.toArray (argBest (fun i j=>decide (numAt ps.toArray i < numAt ps.toArray j)) (ps.length - 1))=jA (fun a b=>decide (a < b)) i is:=by
  refine Int.le_antisymm ?_ (m2 _ ?_)
  ·rw [← h2] at m1
   obtain ⟨j,hj,ej⟩:=List.mem_iff_getElem.mp m1
   rw [← ej]
   have hj' :j < ps.length:=by simpa using hj
   rw [← Jz ps j hj']
   exact b2 j (by omega)
  ·rw [Jz ps _ (by omega),← h2]
   exact List.getElem_mem _
 rw [e2]
 exact ⟨.int _,H,I.kept (t' :=tk) kp,⟨t,rfl⟩,q⟩
theorem kR (hh:X.A.handled=none) (gl:Gl X "max") (mg:X.mg "max"=none) (ha:Jb X Y a fa) (hs:St1 X a:=by exact st1 rfl):Snd X Y (.Call (.Name "max" p) [a] [] pos) (ap1 yR fa):=
 W9 (qq hh) (fun v t B H Q r sB q=>by
  cases r with
  | @lst l xs ts h r=>
   have q:Po Y rC B H (match j0 ts with | some (i :: l)=> .ok (.int (jA (fun a b=>decide (b < a)) i l)) | _=> .bad) Q:=q
   split at q
   ·rename_i i k e
    exact ⟨l,xs,ts,i,k,rfl,h,r,e,po0 sB q rfl (.int _)⟩
   ·exact q.elim
  | _=>exact q.elim) gl mg PyProof.Rows.Boot.«max» ha hs
theorem Vf (hh:X.A.handled=none) (gl:Gl X "min") (mg:X.mg "min"=none) (ha:Jb X Y a fa) (hs:St1 X a:=by exact st1 rfl):Snd X Y (.Call (.Name "min" p) [a] [] pos) (ap1 vk fa):=
 W9 (qr hh) (fun v t B H Q r sB q=>by
  cases r with
  | @lst l xs ts h r=>
   have q:Po Y rC B H (match j0 ts with | some (i :: l)=> .ok (.int (jA (fun a b=>decide (a < b)) i l)) | _=> .bad) Q:=q
   split at q
   ·rename_i i k e
    exact ⟨l,xs,ts,i,k,rfl,h,r,e,po0 sB q rfl (.int _)⟩
   ·exact q.elim
  | _=>exact q.elim) gl mg PyProof.Rows.Boot.«min» ha hs
end
def vm (i:Nat) (fi:En->R (List T)) (g:T->En->R En) (ft:En->R Bool) (fe:En->R T) (k:Nat) (js:List Nat):En->RS:=fun ρ=>(fi ρ).s fun ts=>(zG g ft fe k js ρ ts).s fun vs=> .nx (ρ.set i (.ow vs))
section
variable {X:Cx} {Y:Fx} {tg iter elt:Expr} {ifs:List Expr} {scope:Scope} {pos pos' :Pos} {N' :List Str} {k:Nat} {js:List Nat} {fi:En->R (List T)} {tG:TG} {g:T->En->R En} {ft:En->R Bool} {fe:En->R T}
theorem xP {i:Nat} {x:Str} {pc p' :Pos} (C:UO X Y tg iter elt ifs scope N' k js fi tG g ft fe) (hN:X.N.Nodup) (hi:X.N[i]? =some x) (hx:L2.Loc X.env.scope x)
  (hsw:swapsWith (.ListComp elt [⟨tg,iter,ifs,0⟩] scope pc) (some (.Name x p')) pos.line X.env=pure true) (hf:X.fn x=true\/X.env.scope.names.lookup x=some .local:=by first | exact .inl rfl | exact .inr rfl | assumption):
  Ws X Y (.Assign [.Name x p'] (.ListComp elt [⟨tg,iter,ifs,0⟩] scope pc) pos) (vm i fi g ft fe k js):= .mk fun ρ=>by
 intro pins s σ H D I ⟨B,J,q⟩
 rw [exec_Assign_Name_used _ _ _ _ hsw]
 refine wpAny_bind (wpAny_standAt (wpAny_bind ?_))
 show wpAny _ X.A (do let _ ← comprehension (.ListComp elt [⟨tg,iter,ifs,0⟩] scope pc) scope X.env _ (newList []) false (eval iter X.env) (some (assign (.Name x p') X.env))) _ _ s
 refine wpAny_bind (thn (Wu (use:=some (assign (.Name x p') X.env)) (Q:=fun _ s' =>SP X pins D .next s') (F:=fun D' H' =>D.nx (σ.set i (some (.ref D'))) H') (te:=fun σ H Q=>∃ Y' ρ',Y'.cl=Y.cl/\tS Y' rC fe ρ' σ H Q) (tt:=fun σ H Q=>∃ Y' ρ',Y'.cl=Y.cl/\tS Y' rE ft ρ' σ H Q) C.sc C.cp C.cm (C.it ρ) C.gt
  (fun cl Cx' s3 H3 fp pins pins' s σ H Q I ⟨Y',ρ',ey,q⟩=>C.tt Y' ey cl Cx' s3 H3 fp pins ρ' pins' s σ H Q I q) (fun cl Cx' s3 H3 fp pins pins' s σ H Q I ⟨Y',ρ',ey,q⟩=>C.el Y' ey cl Cx' s3 H3 fp pins ρ' pins' s σ H Q I q) I ?_ ?_ C.hs) fun _ s' hq=>wpAny_pure (wpAny_pure hq))
 ·have q' :PoS Y B (((fi ρ).s fun ts=>(zG g ft fe k js ρ ts).s fun vs=> .nx (ρ.set i (.ow vs)))) D:=q
  refine wy J q' fun ts it' H1 _ s1 r1 J1 q1=> ?_
  intro D' hD
  unfold zG at q1
  split at q1
  ·rename_i hl
   cases ev:zZ g ft fe ts (wY k js ρ) with
   | bad=>rw [ev] at q1; exact q1.elim
   | ex c=>rw [ev] at q1; exact q1.elim
   | ok vs=>
    rw [ev] at q1
    refine wC C.gk C.gn J1 r1 hl ev hD fun H' xs B' s' e' r' l' b' sb' => ?_
    obtain ⟨u1,u2⟩:=J1.got i s' hD e' r' b' l'
    exact q1 _ _ _ u1 u2
  ·exact q1.elim
 ·intro D' Cc H' s' I' q' hC h0 hL hcell hpin hns
  obtain ⟨m,hm⟩:=hns
  show wpAny _ X.A (assign (.Name x p') X.env (.ref D')) _ _ s'
  refine wpAny_assign_Name (wu (v:= .ref D') I' hN hi hx rfl (fun s'' I'' ⟨a,hsb,ha⟩=> ?_) hf)
  have hne:Cc ≠ a:=by
   rcases ha with rfl | ha
   ·exact hL
   ·exact (hcell x a ha).symm
  refine ⟨m,hm.sameBut hsb hne,fun h' hsb' =>⟨_,H', ?_,q'⟩⟩
  exact I''.turned (t' :=s''.toks) (fun b o hb e=>hsb'.extBut b o hb e) hC hL (.inr h0) hcell hpin
end
end PV
namespace G
open PySem PySem.Spec PyProof.Rows L2 PV
def okX (c:Nat):Bool:=decide (c < 6)
def JL (c:Nat):Bool:=c == 0
def Jk (c:Nat):Bool:=c == 1
def JM (c:Nat):Bool:=c == 2
def Jl (c:Nat):Bool:=c == 3
def wG (c:Nat):Bool:=c == 4
def JN (c:Nat):Bool:=c == 5
def jr (_:Nat):Bool:=true
def b_1a:En->RS:=
  zz (ifS (zx ltC (vB 1) (ap1 Z0 (vB 0))) (zN (ze ixT (vE 0) (vE 1))) (nxS))
  (zz (ifS (zx eqC (vB 0) (ZD (zg))) (zN (cE (.int 0))) (nxS))
  (zN (ze zt (ze Zi (ze ixT (vE 0) (ze wd (vE 1) (ap1 Z0 (vB 0)))) (cE (.int 31))) (vE 1))))
def kS:List T->R T:=fun ts=>zo (b_1a  (en0 2 ts))
def b_4 (c_1a:List T->R T):En->RS:=
  zz (zJ 3 (ze wd (ze Zi (ze zt (zc 2 c_1a (z9 (vE 0) (z9 (vE 1) (zg)))) (ze Zi (cE (.int 6151)) (ze zt (vE 1) (cE (.int 1))))) (cE (.int 40692))) (cE (.int 2147483399))))
  (zN (ze wd (ze wd (ze zt (ze Zi (vE 3) (vE 3)) (ze yG (vE 3) (cE (.int 31)))) (cE (.int 2147483629))) (vE 2)))
def f_4:List T->R T:=fun ts=>zo (b_4 (kS) (en0 4 ts))
def b_y (c_4:List T->R T):En->RS:=
  zz (zJ 2 (cE (.str "abcdefghijklmnopqrstuvwxyz")))
  (zz (ifS (zx gtC (zc 3 c_4 (z9 (vE 0) (z9 (vE 1) (z9 (cE (.int 6)) (zg))))) (cE (.int 0))) (zN (ze ixT (ZD (z9 (cE (.str "a")) (z9 (cE (.str "b")) (z9 (cE (.str "ab")) (z9 (cE (.str "cab")) (zg)))))) (zc 3 c_4 (z9 (vE 0) (z9 (ze zt (vE 1) (cE (.int 1))) (z9 (cE (.int 4)) (zg))))))) (nxS))
  (zN (ap1 (kB "") (zQ (Zd (ze zt (cE (.int 1)) (zc 3 c_4 (z9 (vE 0) (z9 (ze zt (vE 1) (cE (.int 1))) (z9 (cE (.int 3)) (zg))))))) (zw 0) (Zc) (ze ixT (vE 3) (zc 3 c_4 (z9 (vE 1) (z9 (ze zt (ze zt (vE 2) (cE (.int 2))) (vE 0)) (z9 (cE (.int 26)) (zg)))))) 1 [0,1,2]))))
def f_y:List T->R T:=fun ts=>zo (b_y (f_4) (en0 3 ts))
def b_s (c_4:List T->R T) (c_y:List T->R T):En->RS:=
  zz (ifS (zx gtC (zc 3 c_4 (z9 (vE 0) (z9 (vE 1) (z9 (cE (.int 3)) (zg))))) (cE (.int 0))) (zz (zJ 2 (ze jK (zc 3 c_4 (z9 (vE 0) (z9 (ze zt (vE 1) (cE (.int 1))) (z9 (cE (.int 7)) (zg))))) (cE (.int 3))))
  (zz (ifS (zx eqC (zc 3 c_4 (z9 (vE 0) (z9 (ze zt (vE 1) (cE (.int 3))) (z9 (cE (.int 8)) (zg))))) (cE (.int 0))) (zJ 2 (ze ixT (ZD (z9 (YG (cE (.int 20))) (z9 (cE (.int 17)) (z9 (cE (.int 20)) (zg))))) (zc 3 c_4 (z9 (vE 0) (z9 (ze zt (vE 1) (cE (.int 4))) (z9 (cE (.int 3)) (zg))))))) (nxS))
  (zN (ZC (z9 (cE (.str "whole")) (z9 (vE 2) (z9 (ze yN (cE (.int 20)) (ze zt (vE 2) (zc 3 c_4 (z9 (vE 0) (z9 (ze zt (vE 1) (cE (.int 2))) (z9 (cE (.int 4)) (zg))))))) (zg)))))))) (nxS))
  (zz (U1 3 (zg))
  (zz (ju (Zd (ze zt (cE (.int 1)) (zc 3 c_4 (z9 (vE 0) (z9 (ze zt (vE 1) (cE (.int 1))) (z9 (cE (.int 4)) (zg))))))) (zw 4) (zz (zJ 5 (zc 2 c_y (z9 (vE 0) (z9 (ze zt (ze zt (vE 1) (cE (.int 5))) (ze Zi (cE (.int 5)) (vE 4))) (zg)))))
  (ifS (zx ul (vB 5) (vB 3)) (V8 3 (vE 5)) (nxS))))
  (zN (ZC (z9 (cE (.str "pick")) (z9 (ap1 Kz (zQ (xp (vE 3)) (Zt 0 1) (Zc) (ZC (z9 (vE 1) (z9 (ze zt (cE (.int 1)) (zc 3 c_4 (z9 (vE 2) (z9 (ze zt (ze zt (vE 3) (cE (.int 30))) (vE 0)) (z9 (cE (.int 20)) (zg)))))) (zg)))) 2 [0,1])) (zg)))))))
def f_s:List T->R T:=fun ts=>zo (b_s (f_4) (f_y) (en0 6 ts))
def b_g (c_4:List T->R T) (c_s:List T->R T) (c_g:List T->R T):En->RS:=
  zz (zJ 3 (zc 3 c_4 (z9 (vE 0) (z9 (vE 1) (z9 (cE (.int 5)) (zg))))))
  (zz (ifS (orT (zx eqC (vB 2) (cE (.int 1))) (zx ltC (vB 3) (cE (.int 2)))) (zN (zc 2 c_s (z9 (vE 0) (z9 (ze zt (vE 1) (cE (.int 1))) (zg))))) (nxS))
  (zz (ifS (zx ltC (vB 3) (cE (.int 4))) (zz (zJ 4 (zQ (Zd (ze zt (cE (.int 1)) (zc 3 c_4 (z9 (vE 0) (z9 (ze zt (vE 1) (cE (.int 1))) (z9 (cE (.int 3)) (zg))))))) (zw 0) (Zc) (zc 3 c_g (z9 (vE 1) (z9 (ze zt (ze zt (ze Zi (cE (.int 3)) (vE 2)) (cE (.int 40))) (ze Zi (cE (.int 50)) (vE 0))) (z9 (ze jK (vE 3) (cE (.int 1))) (zg))))) 1 [0,1,2]))
  (zN (ZC (z9 (cE (.str "row")) (z9 (ap1 Kz (vE 4)) (zg)))))) (nxS))
  (zz (zJ 5 (zc 3 c_4 (z9 (vE 0) (z9 (ze zt (vE 1) (cE (.int 1))) (z9 (cE (.int 3)) (zg))))))
  (zN (ZC (z9 (cE (.str "many")) (z9 (zc 3 c_g (z9 (vE 0) (z9 (ze zt (ze Zi (cE (.int 3)) (vE 1)) (cE (.int 40))) (z9 (ze jK (vE 2) (cE (.int 1))) (zg))))) (z9 (vE 5) (z9 (ze yN (cE (.int 3)) (ze zt (vE 5) (zc 3 c_4 (z9 (vE 0) (z9 (ze zt (vE 1) (cE (.int 2))) (z9 (cE (.int 3)) (zg))))))) (zg))))))))))
def S_g:Nat->Nat->List T->R T
 | 0,_=>fun _=> .bad
 | n+1,_=>fun ts=>zo (b_g (f_4) (f_s) (S_g n 0) (en0 6 ts))
abbrev f_g (n:Nat):List T->R T:=S_g n 0
def b_f:En->RS:=
  zz (zJ 1 (ZD (z9 (ZC (zg)) (zg))))
  (zz (ju (ZW (vE 0)) (zw 2) (zz (U1 3 (zg))
  (zz (ju (ZW (vE 1)) (zw 4) (yO 3 (zQ (ZW (vE 2)) (zw 0) (Zc) (ze zt (vE 1) (ZC (z9 (vE 0) (zg)))) 1 [4])))
  (mvS 1 3))))
  (zN (vE 1)))
def f_f:List T->R T:=fun ts=>zo (b_f  (en0 5 ts))
def b_5 (c_5:List T->R T) (c_f:List T->R T):En->RS:=
  zz (ifS (zx eqC (ze ixT (vE 0) (cE (.int 0))) (cE (.str "whole"))) (zN (KC (wb (ze ixT (vE 0) (cE (.int 1))) (ze zt (ze ixT (vE 0) (cE (.int 2))) (cE (.int 1)))))) (nxS))
  (zz (ifS (zx eqC (ze ixT (vE 0) (cE (.int 0))) (cE (.str "pick"))) (zN (zQ (ZW (ze ixT (vE 0) (cE (.int 1)))) (Zt 0 1) (Zc) (vE 0) 2 [])) (nxS))
  (zz (ifS (zx eqC (ze ixT (vE 0) (cE (.int 0))) (cE (.str "row"))) (zN (zc 1 c_f (z9 (zQ (ZW (ze ixT (vE 0) (cE (.int 1)))) (zw 0) (Zc) (zc 1 c_5 (z9 (vE 0) (zg))) 1 []) (zg)))) (nxS))
  (zz (U1 1 (zg))
  (zz (ju (wb (ze ixT (vE 0) (cE (.int 2))) (ze zt (ze ixT (vE 0) (cE (.int 3))) (cE (.int 1)))) (zw 2) (yO 1 (zc 1 c_f (z9 (ze Zi (ZD (z9 (zc 1 c_5 (z9 (ze ixT (vE 0) (cE (.int 1))) (zg))) (zg))) (vE 2)) (zg)))))
  (zN (vE 1))))))
def S_5:Nat->Nat->List T->R T
 | 0,_=>fun _=> .bad
 | n+1,_=>fun ts=>zo (b_5 (S_5 n 0) (f_f) (en0 3 ts))
abbrev f_5 (n:Nat):List T->R T:=S_5 n 0
def b_9 (c_5:List T->R T) (c_9:List T->R T):En->RS:=
  zz (ifS (zx inC (ze ixT (vE 0) (cE (.int 0))) (ZC (z9 (cE (.str "whole")) (z9 (cE (.str "pick")) (zg))))) (zN (ap1 Z0 (zc 1 c_5 (z9 (vE 0) (zg))))) (nxS))
  (zz (zJ 1 (ifE (zx eqC (ze ixT (vE 0) (cE (.int 0))) (cE (.str "row"))) (zQ (ZW (ze ixT (vE 0) (cE (.int 1)))) (zw 0) (Zc) (zc 1 c_9 (z9 (vE 0) (zg))) 1 []) (ZD (zg))))
  (zz (zJ 2 (cE (.int 1)))
  (zz (ju (ZW (vE 1)) (zw 3) (zJ 2 (ze Zi (vE 2) (vE 3))))
  (zz (ifS (zx eqC (ze ixT (vE 0) (cE (.int 0))) (cE (.str "many"))) (zz (zJ 4 (zc 1 c_9 (z9 (ze ixT (vE 0) (cE (.int 1))) (zg))))
  (zz (zJ 2 (ze zt (ap1 u0 (w9 eqC (ze ixT (vE 0) (cE (.int 2))) (cE (.int 0)))) (ze Zi (vE 4) (ap1 u0 (chE leC leC (ze ixT (vE 0) (cE (.int 2))) (cE (.int 1)) (ze ixT (vE 0) (cE (.int 3))))))))
  (zz (zJ 2 (ze zt (vE 2) (ze Zi (ze Zi (vE 4) (vE 4)) (ap1 u0 (chE leC leC (ze ixT (vE 0) (cE (.int 2))) (cE (.int 2)) (ze ixT (vE 0) (cE (.int 3))))))))
  (zJ 2 (ze zt (vE 2) (ze Zi (ze Zi (ze Zi (vE 4) (vE 4)) (vE 4)) (ap1 u0 (w9 eqC (ze ixT (vE 0) (cE (.int 3))) (cE (.int 3)))))))))) (nxS))
  (zN (vE 2))))))
def S_9:Nat->Nat->List T->R T
 | 0,_=>fun _=> .bad
 | n+1,_=>fun ts=>zo (b_9 (f_5 8) (S_9 n 0) (en0 5 ts))
abbrev f_9 (n:Nat):List T->R T:=S_9 n 0
def b_w (c_g:List T->R T) (c_9:List T->R T):En->RS:=
  zz (zJ 3 (zc 3 c_g (z9 (vE 0) (z9 (vE 1) (z9 (cE (.int 3)) (zg))))))
  (zz (ju (Zd (cE (.int 3))) (zw 4) (zz (ifS (zx leC (zc 1 c_9 (z9 (vE 3) (zg))) (vB 2)) (zN (vE 3)) (nxS))
  (zJ 3 (zc 3 c_g (z9 (vE 0) (z9 (ze zt (ze zt (vE 1) (cE (.int 500))) (ze Zi (cE (.int 700)) (vE 4))) (z9 (cE (.int 2)) (zg))))))))
  (zN (ifE (zx leC (zc 1 c_9 (z9 (vE 3) (zg))) (vB 2)) (vE 3) (ZC (z9 (cE (.str "whole")) (z9 (YG (cE (.int 1))) (z9 (cE (.int 2)) (zg))))))))
def f_w:List T->R T:=fun ts=>zo (b_w (f_g 8) (f_9 8) (en0 5 ts))
def b_n (c_n:List T->R T):En->RS:=
  zz (U1 1 (z9 (ZC (zg)) (zg)))
  (zz (ifS (jb (ap1 (Jc "tuple") (vB 0))) (ju (Zd (ap1 Z0 (vB 0))) (zw 2) (yO 1 (zQ (ZW (zc 1 c_n (z9 (ze ixT (vE 0) (vE 2)) (zg)))) (zw 0) (Zc) (ze zt (ZC (z9 (vE 1) (zg))) (vE 0)) 1 [2]))) (nxS))
  (zN (vE 1)))
def S_n:Nat->Nat->List T->R T
 | 0,_=>fun _=> .bad
 | n+1,_=>fun ts=>zo (b_n (S_n n 0) (en0 3 ts))
abbrev f_n (n:Nat):List T->R T:=S_n n 0
def KD:En->RS:=
  zz (ju (ZW (vE 1)) (zw 2) (zJ 0 (ze ixT (vE 0) (vE 2))))
  (zN (vE 0))
def Xy:List T->R T:=fun ts=>zo (KD  (en0 3 ts))
def b_a (c_a:List T->R T):En->RS:=
  zz (ifS (zx eqC (vB 1) (ZC (zg))) (zN (vE 2)) (nxS))
  (zz (zJ 3 (ze ixT (vE 1) (cE (.int 0))))
  (zN (ze zt (ze zt (slE (vE 0) (noO) (zU (vE 3))) (ZC (z9 (zc 3 c_a (z9 (ze ixT (vE 0) (vE 3)) (z9 (slE (vE 1) (zU (cE (.int 1))) (noO)) (z9 (vE 2) (zg))))) (zg)))) (slE (vE 0) (zU (ze zt (vE 3) (cE (.int 1)))) (noO)))))
def S_a:Nat->Nat->List T->R T
 | 0,_=>fun _=> .bad
 | n+1,_=>fun ts=>zo (b_a (S_a n 0) (en0 4 ts))
abbrev f_a (n:Nat):List T->R T:=S_a n 0
def b_r (c_4:List T->R T) (c_n:List T->R T) (c_11:List T->R T) (c_a:List T->R T):En->RS:=
  zz (zJ 3 (zc 1 c_n (z9 (vE 2) (zg))))
  (zz (zJ 4 (ze ixT (vE 3) (zc 3 c_4 (z9 (vE 0) (z9 (vE 1) (z9 (ap1 Z0 (vB 3)) (zg)))))))
  (zz (zJ 5 (zc 2 c_11 (z9 (vE 2) (z9 (vE 4) (zg)))))
  (zz (zJ 6 (ZD (z9 (cE (.int 0)) (z9 (cE (.int 1)) (z9 (YG (cE (.int 21))) (z9 (cE (.int 21)) (z9 (cE (.int 3)) (z9 (cE (.int 4)) (z9 (cE (.bl true)) (z9 (cE .non) (z9 (cE (.str "a")) (z9 (cE (.str "abcd")) (z9 (cE (.str "A")) (z9 (cE (.str "")) (z9 (cE (.str "many")) (z9 (cE (.str "row")) (z9 (ZC (zg)) (z9 (ZC (z9 (vE 5) (zg))) (z9 (ZD (z9 (vE 5) (zg))) (z9 (ZC (z9 (cE (.str "whole")) (z9 (cE (.int 1)) (z9 (cE (.int 0)) (zg))))) (zg)))))))))))))))))))))
  (zz (zJ 7 (zc 3 c_4 (z9 (vE 0) (z9 (ze zt (vE 1) (cE (.int 1))) (z9 (ze zt (ap1 Z0 (vB 6)) (cE (.int 5))) (zg))))))
  (zz (ifS (zx ltC (vB 7) (ap1 Z0 (vB 6))) (zN (zc 3 c_a (z9 (vE 2) (z9 (vE 4) (z9 (ze ixT (vE 6) (vE 7)) (zg)))))) (nxS))
  (zz (ifS (wa (jb (ap1 (Jc "tuple") (vB 5))) (zx neC (vB 5) (ZC (zg)))) (zz (zJ 8 (zc 3 c_4 (z9 (vE 0) (z9 (ze zt (vE 1) (cE (.int 2))) (z9 (ap1 Z0 (vB 5)) (zg))))))
  (zN (zc 3 c_a (z9 (vE 2) (z9 (vE 4) (z9 (ze ixT (ZD (z9 (ze zt (slE (vE 5) (noO) (zU (vE 8))) (slE (vE 5) (zU (ze zt (vE 8) (cE (.int 1)))) (noO))) (z9 (ze zt (ze zt (slE (vE 5) (noO) (zU (vE 8))) (slE (vE 5) (zU (vE 8)) (zU (ze zt (vE 8) (cE (.int 1)))))) (slE (vE 5) (zU (vE 8)) (noO))) (zg)))) (ze wd (vE 7) (cE (.int 2)))) (zg))))))) (nxS))
  (zz (ifS (jb (ap1 (Jc "int") (vB 5))) (zN (zc 3 c_a (z9 (vE 2) (z9 (vE 4) (z9 (ze jK (ze zt (vE 5) (cE (.int 1))) (ze Zi (cE (.int 2)) (ze wd (vE 7) (cE (.int 2))))) (zg)))))) (nxS))
  (zN (zc 3 c_a (z9 (vE 2) (z9 (vE 4) (z9 (ZC (z9 (cE (.str "row")) (z9 (ZC (z9 (vE 5) (z9 (vE 5) (zg)))) (zg)))) (zg)))))))))))))
def f_r:List T->R T:=fun ts=>zo (b_r (f_4) (f_n 40) (Xy) (f_a 40) (en0 9 ts))
def b_x:En->RS:=
  zN (ap1 vk (zQ (wb (ze ixT (vE 0) (cE (.int 1))) (ze zt (ze ixT (vE 0) (cE (.int 2))) (cE (.int 1)))) (zw 0) (Zc) (ap1 vj (vB 0)) 1 []))
def f_x:List T->R T:=fun ts=>zo (b_x  (en0 1 ts))
def b_6 (c_6:List T->R T) (c_x:List T->R T):En->RS:=
  zz (ifS (zx eqC (ze ixT (vE 0) (cE (.int 0))) (cE (.str "whole"))) (zN (ap1 vk (zQ (wb (ze ixT (vE 0) (cE (.int 1))) (ze zt (ze ixT (vE 0) (cE (.int 2))) (cE (.int 1)))) (zw 0) (zx eqC (ap1 vj (vB 0)) (zc 1 c_x (z9 (vE 1) (zg)))) (ap1 vj (ze jK (vE 2) (vE 0))) 1 [0,1]))) (nxS))
  (zz (ifS (zx eqC (ze ixT (vE 0) (cE (.int 0))) (cE (.str "pick"))) (zN (Y9 QA (zQ (ZW (ze ixT (vE 0) (cE (.int 1)))) (Zt 0 1) (Zc) (vE 0) 2 []) (vB 1))) (nxS))
  (zz (zJ 2 (ifE (zx eqC (ze ixT (vE 0) (cE (.int 0))) (cE (.str "row"))) (ze ixT (vE 0) (cE (.int 1))) (ze Zi (ZD (z9 (ze ixT (vE 0) (cE (.int 1))) (zg))) (ap1 Z0 (vB 1)))))
  (zz (zJ 3 (ifE (zx eqC (ze ixT (vE 0) (cE (.int 0))) (cE (.str "row"))) (cE (.int 0)) (ze jK (ap1 Z0 (vB 1)) (ze ixT (vE 0) (cE (.int 2))))))
  (zz (ju (ve (vE 2) (vE 1)) (Zt 4 5) (zJ 3 (ze zt (vE 3) (zc 2 c_6 (z9 (vE 4) (z9 (vE 5) (zg)))))))
  (zN (vE 3))))))
def S_6:Nat->Nat->List T->R T
 | 0,_=>fun _=> .bad
 | n+1,_=>fun ts=>zo (b_6 (S_6 n 0) (f_x) (en0 6 ts))
abbrev f_6 (n:Nat):List T->R T:=S_6 n 0
def b_c (c_5:List T->R T) (c_6:List T->R T) (c_c:List T->R T):En->RS:=
  zz (ifS (zx inC (ze ixT (vE 0) (cE (.int 0))) (ZC (z9 (cE (.str "whole")) (z9 (cE (.str "pick")) (zg))))) (zz (zJ 2 (zQ (ZW (zc 1 c_5 (z9 (vE 0) (zg)))) (zw 0) (zx eqC (zc 2 c_6 (z9 (vE 1) (z9 (vE 0) (zg)))) (ze jK (zc 2 c_6 (z9 (vE 1) (z9 (vE 2) (zg)))) (cE (.int 1)))) (vE 0) 1 [0,1]))
  (zz (ifS (zx eqC (ze ixT (vE 0) (cE (.int 0))) (cE (.str "whole"))) (zJ 2 (zQ (ZW (vE 2)) (zw 0) (zx eqC (ap1 vj (ze jK (vE 0) (vE 1))) (cE (.int 1))) (vE 0) 1 [1])) (nxS))
  (zN (vE 2)))) (nxS))
  (zz (U1 3 (zg))
  (zz (ifS (wa (zx eqC (ze ixT (vE 0) (cE (.int 0))) (cE (.str "many"))) (zx gtC (ap1 Z0 (vB 1)) (ze ixT (vE 0) (cE (.int 2))))) (vm 3 (Zd (ap1 Z0 (vB 1))) (zw 0) (Zc) (ze zt (slE (vE 1) (noO) (zU (vE 0))) (slE (vE 1) (zU (ze zt (vE 0) (cE (.int 1)))) (noO))) 1 [1]) (nxS))
  (zz (ju (Zd (ap1 Z0 (vB 1))) (zw 4) (zz (zJ 5 (ifE (zx eqC (ze ixT (vE 0) (cE (.int 0))) (cE (.str "row"))) (ze ixT (ze ixT (vE 0) (cE (.int 1))) (vE 4)) (ze ixT (vE 0) (cE (.int 1)))))
  (yO 3 (zQ (ZW (zc 2 c_c (z9 (vE 5) (z9 (ze ixT (vE 1) (vE 4)) (zg))))) (zw 0) (Zc) (ze zt (ze zt (slE (vE 1) (noO) (zU (vE 2))) (ZC (z9 (vE 0) (zg)))) (slE (vE 1) (zU (ze zt (vE 2) (cE (.int 1)))) (noO))) 1 [1,4]))))
  (zN (vE 3)))))
def S_c:Nat->Nat->List T->R T
 | 0,_=>fun _=> .bad
 | n+1,_=>fun ts=>zo (b_c (f_5 8) (f_6 8) (S_c n 0) (en0 6 ts))
abbrev f_c (n:Nat):List T->R T:=S_c n 0
def b_p:En->RS:=
  zN (Jo (ap1 (Jc "int") (vB 0)) (Jo (gM (ap1 (Jc "bool") (vB 0))) (chE leC leC (vB 1) (vB 0) (vB 2))))
def f_p:List T->R T:=fun ts=>zo (b_p  (en0 3 ts))
def b_t:En->RS:=
  zN (Jo (ap1 (Jc "str") (vB 0)) (Jo (chE leC leC (cE (.int 1)) (ap1 Z0 (vB 0)) (cE (.int 3))) (w9 eqC (zQ (ZW (vE 0)) (zw 0) (Jv (chT leC leC (cE (.str "a")) (vB 0) (cE (.str "z")))) (vE 0) 1 []) (ZD (zg)))))
def f_t:List T->R T:=fun ts=>zo (b_t  (en0 1 ts))
def b_b (c_p:List T->R T) (c_t:List T->R T) (c_b:List T->R T):En->RS:=
  zz (ifS (orT (Jv (jb (ap1 (Jc "tuple") (vB 0)))) (orT (zx ltC (ap1 Z0 (vB 0)) (cE (.int 2))) (orT (Jv (jb (ap1 (Jc "str") (ze ixT (vE 0) (cE (.int 0)))))) (zx ltC (vB 1) (cE (.int 1)))))) (zN (cE (.bl false))) (nxS))
  (zz (KA 2 3 (z9 (ze ixT (vE 0) (cE (.int 0))) (z9 (slE (vE 0) (zU (cE (.int 1))) (noO)) (zg))))
  (zz (ifS (zx eqC (vB 2) (cE (.str "whole"))) (zN (Jo (w9 eqC (ap1 Z0 (vB 3)) (cE (.int 2))) (Jo (zc 3 c_p (z9 (ze ixT (vE 3) (cE (.int 0))) (z9 (YG (cE (.int 20))) (z9 (cE (.int 20)) (zg))))) (zc 3 c_p (z9 (ze ixT (vE 3) (cE (.int 1))) (z9 (ze ixT (vE 3) (cE (.int 0))) (z9 (cE (.int 20)) (zg)))))))) (nxS))
  (zz (ifS (zx eqC (vB 2) (cE (.str "pick"))) (zz (ifS (orT (zx neC (ap1 Z0 (vB 3)) (cE (.int 1))) (orT (Jv (jb (ap1 (Jc "tuple") (ze ixT (vE 3) (cE (.int 0)))))) (Jv (chT leC leC (cE (.int 1)) (ap1 Z0 (ze ixT (vE 3) (cE (.int 0)))) (cE (.int 4)))))) (zN (cE (.bl false))) (nxS))
  (zz (zJ 4 (zQ (ZW (ze ixT (vE 3) (cE (.int 0)))) (zw 0) (wa (jb (ap1 (Jc "tuple") (vB 0))) (zx eqC (ap1 Z0 (vB 0)) (cE (.int 2)))) (vE 0) 1 []))
  (zz (zJ 5 (zQ (ZW (vE 4)) (zw 0) (wa (jb (zc 1 c_t (z9 (ze ixT (vE 0) (cE (.int 0))) (zg)))) (jb (zc 3 c_p (z9 (ze ixT (vE 0) (cE (.int 1))) (z9 (cE (.int 1)) (z9 (cE (.int 20)) (zg))))))) (ze ixT (vE 0) (cE (.int 0))) 1 []))
  (zN (Jo (w9 eqC (ap1 Z0 (vB 5)) (ap1 Z0 (ze ixT (vE 3) (cE (.int 0))))) (w9 eqC (zQ (Zd (ap1 Z0 (vB 5))) (zw 0) (zx inC (ze ixT (vE 1) (vE 0)) (slE (vE 1) (noO) (zU (vE 0)))) (vE 0) 1 [5]) (ZD (zg)))))))) (nxS))
  (zz (ifS (zx eqC (vB 2) (cE (.str "row"))) (zz (ifS (orT (zx neC (ap1 Z0 (vB 3)) (cE (.int 1))) (orT (Jv (jb (ap1 (Jc "tuple") (ze ixT (vE 3) (cE (.int 0)))))) (Jv (chT leC leC (cE (.int 1)) (ap1 Z0 (ze ixT (vE 3) (cE (.int 0)))) (cE (.int 3)))))) (zN (cE (.bl false))) (nxS))
  (zN (w9 eqC (zQ (ZW (ze ixT (vE 3) (cE (.int 0)))) (zw 0) (Jv (jb (zc 2 c_b (z9 (vE 0) (z9 (ze jK (vE 1) (cE (.int 1))) (zg)))))) (vE 0) 1 [1]) (ZD (zg))))) (nxS))
  (zz (ifS (orT (zx neC (vB 2) (cE (.str "many"))) (orT (zx neC (ap1 Z0 (vB 3)) (cE (.int 3))) (orT (Jv (jb (zc 3 c_p (z9 (ze ixT (vE 3) (cE (.int 1))) (z9 (cE (.int 0)) (z9 (cE (.int 3)) (zg))))))) (Jv (jb (zc 3 c_p (z9 (ze ixT (vE 3) (cE (.int 2))) (z9 (ze ixT (vE 3) (cE (.int 1))) (z9 (cE (.int 3)) (zg)))))))))) (zN (cE (.bl false))) (nxS))
  (zN (zc 2 c_b (z9 (ze ixT (vE 3) (cE (.int 0))) (z9 (ze jK (vE 1) (cE (.int 1))) (zg))))))))))
def S_b:Nat->Nat->List T->R T
 | 0,_=>fun _=> .bad
 | n+1,_=>fun ts=>zo (b_b (f_p) (f_t) (S_b n 0) (en0 6 ts))
abbrev f_b (n:Nat):List T->R T:=S_b n 0
def b_m:En->RS:=
  zN (Jo (ap1 (Jc "int") (vB 0)) (gM (ap1 (Jc "bool") (vB 0))))
def f_m:List T->R T:=fun ts=>zo (b_m  (en0 1 ts))
def b_18 (c_m:List T->R T):En->RS:=
  zN (Jo (zc 1 c_m (z9 (vE 0) (zg))) (Jo (zc 1 c_m (z9 (vE 1) (zg))) (ch3E leC leC leC (vB 2) (vB 0) (vB 1) (vB 3))))
def KG:List T->R T:=fun ts=>zo (b_18 (f_m) (en0 4 ts))
def b_d:En->RS:=
  zN (Jo (ap1 (Jc "tuple") (vB 0)) (chE leC leC (vB 1) (ap1 Z0 (vB 0)) (vB 2)))
def f_d:List T->R T:=fun ts=>zo (b_d  (en0 3 ts))
def b_7:En->RS:=
  zz (ifS (orT (Jv (jb (ap1 (Jc "str") (vB 0)))) (Jv (chT leC leC (cE (.int 1)) (ap1 Z0 (vB 0)) (cE (.int 3))))) (zN (cE (.bl false))) (nxS))
  (zN (ap1 V7 (zQ (ZW (vE 0)) (zw 0) (Zc) (chE leC leC (cE (.str "a")) (vB 0) (cE (.str "z"))) 1 [])))
def f_7:List T->R T:=fun ts=>zo (b_7  (en0 1 ts))
def KH (c_m:List T->R T) (c_d:List T->R T) (c_7:List T->R T):En->RS:=
  zN (Jo (zc 3 c_d (z9 (vE 0) (z9 (cE (.int 2)) (z9 (cE (.int 2)) (zg))))) (Jo (zc 1 c_7 (z9 (ze ixT (vE 0) (cE (.int 0))) (zg))) (Jo (zc 1 c_m (z9 (ze ixT (vE 0) (cE (.int 1))) (zg))) (chE leC leC (cE (.int 1)) (ze ixT (vE 0) (cE (.int 1))) (cE (.int 20))))))
def xQ:List T->R T:=fun ts=>zo (KH (f_m) (f_d) (f_7) (en0 1 ts))
def b_v (c_d:List T->R T) (c_14:List T->R T):En->RS:=
  zz (ifS (orT (Jv (jb (zc 3 c_d (z9 (vE 0) (z9 (cE (.int 1)) (z9 (cE (.int 4)) (zg))))))) (Jv (jb (ap1 V7 (zQ (ZW (vE 0)) (zw 0) (Zc) (zc 1 c_14 (z9 (vE 0) (zg))) 1 []))))) (zN (cE (.bl false))) (nxS))
  (zz (zJ 1 (zQ (ZW (vE 0)) (zw 0) (Zc) (ze ixT (vE 0) (cE (.int 0))) 1 []))
  (zN (w9 eqC (ap1 v7 (vB 1)) (ap1 Z0 (vB 1)))))
def f_v:List T->R T:=fun ts=>zo (b_v (f_d) (xQ) (en0 2 ts))
def b_e (c_18:List T->R T) (c_e:List T->R T) (c_v:List T->R T) (c_19:List T->R T):En->RS:=
  zz (ifS (orT (zx eqC (vB 1) (cE (.int 0))) (orT (Jv (jb (ap1 (Jc "tuple") (vB 0)))) (zx eqC (ap1 Z0 (vB 0)) (cE (.int 0))))) (zN (cE (.bl false))) (nxS))
  (zz (ifS (zx eqC (ze ixT (vE 0) (cE (.int 0))) (cE (.str "whole"))) (zN (Jo (w9 eqC (ap1 Z0 (vB 0)) (cE (.int 3))) (zc 4 c_18 (z9 (ze ixT (vE 0) (cE (.int 1))) (z9 (ze ixT (vE 0) (cE (.int 2))) (z9 (YG (cE (.int 20))) (z9 (cE (.int 20)) (zg)))))))) (nxS))
  (zz (ifS (zx eqC (ze ixT (vE 0) (cE (.int 0))) (cE (.str "pick"))) (zN (Jo (w9 eqC (ap1 Z0 (vB 0)) (cE (.int 2))) (zc 1 c_v (z9 (ze ixT (vE 0) (cE (.int 1))) (zg))))) (nxS))
  (zz (ifS (zx eqC (ze ixT (vE 0) (cE (.int 0))) (cE (.str "row"))) (zN (Jo (w9 eqC (ap1 Z0 (vB 0)) (cE (.int 2))) (zc 2 c_19 (z9 (ze ixT (vE 0) (cE (.int 1))) (z9 (ze jK (vE 1) (cE (.int 1))) (zg)))))) (nxS))
  (zz (ifS (zx eqC (ze ixT (vE 0) (cE (.int 0))) (cE (.str "many"))) (zN (Jo (w9 eqC (ap1 Z0 (vB 0)) (cE (.int 4))) (Jo (zc 4 c_18 (z9 (ze ixT (vE 0) (cE (.int 2))) (z9 (ze ixT (vE 0) (cE (.int 3))) (z9 (cE (.int 0)) (z9 (cE (.int 3)) (zg)))))) (zc 2 c_e (z9 (ze ixT (vE 0) (cE (.int 1))) (z9 (ze jK (vE 1) (cE (.int 1))) (zg))))))) (nxS))
  (zN (cE (.bl false)))))))
def KI (c_d:List T->R T) (c_e:List T->R T):En->RS:=
  zN (Jo (zc 3 c_d (z9 (vE 0) (z9 (cE (.int 1)) (z9 (cE (.int 3)) (zg))))) (ap1 V7 (zQ (ZW (vE 0)) (zw 0) (Zc) (zc 2 c_e (z9 (vE 0) (z9 (vE 1) (zg)))) 1 [1])))
def S_e:Nat->Nat->List T->R T
 | 0,_=>fun _=> .bad
 | n+1,0=>fun ts=>zo (b_e (KG) (S_e n 0) (f_v) (S_e n 1) (en0 2 ts))
 | n+1,_=>fun ts=>zo (KI (f_d) (S_e n 0) (en0 2 ts))
abbrev f_e (n:Nat):List T->R T:=S_e n 0
abbrev f_19 (n:Nat):List T->R T:=S_e n 1
def b_2 (c_e:List T->R T):En->RS:=
  zN (zc 2 c_e (z9 (vE 0) (z9 (cE (.int 3)) (zg))))
def f_2:List T->R T:=fun ts=>zo (b_2 (f_e 20) (en0 1 ts))
def KJ (c_2:List T->R T):En->RS:=
  ifS (Jv (jb (zc 1 c_2 (z9 (vE 0) (zg))))) (qe 0) (nxS)
def Vg:List T->R T:=fun ts=>zo (KJ (f_2) (en0 1 ts))
def b_k:En->RS:=
  zN (zQ (ZW (ze ixT (vE 0) (cE (.int 1)))) (zw 0) (Zc) (ze ixT (vE 0) (cE (.int 0))) 1 [])
def f_k:List T->R T:=fun ts=>zo (b_k  (en0 1 ts))
def b_h (c_m:List T->R T) (c_d:List T->R T) (c_k:List T->R T) (c_13:List T->R T):En->RS:=
  zz (ifS (zx eqC (ze ixT (vE 0) (cE (.int 0))) (cE (.str "whole"))) (zN (Jo (zc 1 c_m (z9 (vE 1) (zg))) (chE leC leC (ze ixT (vE 0) (cE (.int 1))) (vB 1) (ze ixT (vE 0) (cE (.int 2)))))) (nxS))
  (zz (ifS (zx eqC (ze ixT (vE 0) (cE (.int 0))) (cE (.str "pick"))) (zN (w9 inC (vB 1) (zc 1 c_k (z9 (vE 0) (zg))))) (nxS))
  (zz (ifS (zx eqC (ze ixT (vE 0) (cE (.int 0))) (cE (.str "row"))) (zN (Jo (zc 3 c_d (z9 (vE 1) (z9 (ap1 Z0 (ze ixT (vE 0) (cE (.int 1)))) (z9 (ap1 Z0 (ze ixT (vE 0) (cE (.int 1)))) (zg))))) (zc 2 c_13 (z9 (ze ixT (vE 0) (cE (.int 1))) (z9 (vE 1) (zg)))))) (nxS))
  (zN (Jo (zc 3 c_d (z9 (vE 1) (z9 (ze ixT (vE 0) (cE (.int 2))) (z9 (ze ixT (vE 0) (cE (.int 3))) (zg))))) (zc 2 c_13 (z9 (ze Zi (ZD (z9 (ze ixT (vE 0) (cE (.int 1))) (zg))) (ap1 Z0 (vB 1))) (z9 (vE 1) (zg))))))))
def kT (c_h:List T->R T):En->RS:=
  zN (ap1 V7 (zQ (ve (vE 0) (vE 1)) (Zt 0 1) (Zc) (zc 2 c_h (z9 (vE 0) (z9 (vE 1) (zg)))) 2 []))
def S_h:Nat->Nat->List T->R T
 | 0,_=>fun _=> .bad
 | n+1,0=>fun ts=>zo (b_h (f_m) (f_d) (f_k) (S_h n 1) (en0 2 ts))
 | n+1,_=>fun ts=>zo (kT (S_h n 0) (en0 2 ts))
abbrev f_h (n:Nat):List T->R T:=S_h n 0
abbrev f_13 (n:Nat):List T->R T:=S_h n 1
def b_u (c_10:List T->R T) (c_h:List T->R T):En->RS:=
  zz (wX (zc 1 c_10 (z9 (vE 0) (zg))))
  (zN (zc 2 c_h (z9 (vE 0) (z9 (vE 1) (zg)))))
def f_u:List T->R T:=fun ts=>zo (b_u (Vg) (f_h 20) (en0 2 ts))
def b_o (c_u:List T->R T):En->RS:=
  ifS (Jv (jb (zc 2 c_u (z9 (vE 0) (z9 (vE 1) (zg)))))) (qe 1) (nxS)
def f_o:List T->R T:=fun ts=>zo (b_o (f_u) (en0 2 ts))
def b_q:En->RS:=
  zN (ze yN (ze kP (cE (.int 0)) (ze ixT (vE 0) (cE (.int 1)))) (ze ixT (vE 0) (cE (.int 2))))
def f_q:List T->R T:=fun ts=>zo (b_q  (en0 1 ts))
def b_j (c_k:List T->R T) (c_q:List T->R T) (c_12:List T->R T):En->RS:=
  zz (ifS (zx eqC (ze ixT (vE 0) (cE (.int 0))) (cE (.str "whole"))) (zN (ap1 vj (ze jK (vE 1) (zc 1 c_q (z9 (vE 0) (zg)))))) (nxS))
  (zz (ifS (zx eqC (ze ixT (vE 0) (cE (.int 0))) (cE (.str "pick"))) (zN (Y9 QA (zc 1 c_k (z9 (vE 0) (zg))) (vB 1))) (nxS))
  (zz (ifS (zx eqC (ze ixT (vE 0) (cE (.int 0))) (cE (.str "row"))) (zN (zc 2 c_12 (z9 (ze ixT (vE 0) (cE (.int 1))) (z9 (vE 1) (zg))))) (nxS))
  (zN (ze jK (ze zt (zc 2 c_12 (z9 (ze Zi (ZD (z9 (ze ixT (vE 0) (cE (.int 1))) (zg))) (ap1 Z0 (vB 1))) (z9 (vE 1) (zg)))) (ap1 Z0 (vB 1))) (ze ixT (vE 0) (cE (.int 2)))))))
def kU (c_j:List T->R T):En->RS:=
  zN (ap1 gZ (zQ (ve (vE 0) (vE 1)) (Zt 0 1) (Zc) (zc 2 c_j (z9 (vE 0) (z9 (vE 1) (zg)))) 2 []))
def S_j:Nat->Nat->List T->R T
 | 0,_=>fun _=> .bad
 | n+1,0=>fun ts=>zo (b_j (f_k) (f_q) (S_j n 1) (en0 2 ts))
 | n+1,_=>fun ts=>zo (kU (S_j n 0) (en0 2 ts))
abbrev f_j (n:Nat):List T->R T:=S_j n 0
abbrev f_12 (n:Nat):List T->R T:=S_j n 1
def b_1 (c_o:List T->R T) (c_j:List T->R T):En->RS:=
  zz (wX (zc 2 c_o (z9 (vE 0) (z9 (vE 1) (zg)))))
  (zN (zc 2 c_j (z9 (vE 0) (z9 (vE 1) (zg)))))
def f_1:List T->R T:=fun ts=>zo (b_1 (f_o) (f_j 20) (en0 2 ts))
def KK (c_q:List T->R T):En->RS:=
  zz (zJ 2 (zc 1 c_q (z9 (vE 0) (zg))))
  (zz (ifS (zx eqC (vB 1) (vB 2)) (zN (ZD (zg))) (nxS))
  (zN (ifE (zx gtC (vB 1) (vB 2)) (ZD (z9 (ze jK (vE 1) (cE (.int 1))) (zg))) (ZD (z9 (ze zt (vE 1) (cE (.int 1))) (zg))))))
def kW:List T->R T:=fun ts=>zo (KK (f_q) (en0 3 ts))
def KL (c_k:List T->R T):En->RS:=
  zz (zJ 2 (zc 1 c_k (z9 (vE 0) (zg))))
  (zz (zJ 3 (Y9 QA (vB 2) (vB 1)))
  (zN (ifE (zx gtC (vB 3) (cE (.int 0))) (ZD (z9 (ze ixT (vE 2) (ze jK (vE 3) (cE (.int 1)))) (zg))) (ZD (zg)))))
def kX:List T->R T:=fun ts=>zo (KL (f_k) (en0 4 ts))
def KM:En->RS:=
  zz (ifS (zx eqC (ap1 Z0 (vB 1)) (ze ixT (vE 0) (cE (.int 2)))) (zN (ZD (zg))) (nxS))
  (zN (zQ (Zd (ap1 Z0 (vB 1))) (zw 0) (Zc) (ze zt (slE (vE 1) (noO) (zU (vE 0))) (slE (vE 1) (zU (ze zt (vE 0) (cE (.int 1)))) (noO))) 1 [1]))
def kY:List T->R T:=fun ts=>zo (KM  (en0 2 ts))
def b_i (c_17:List T->R T) (c_15:List T->R T) (c_16:List T->R T) (c_z:List T->R T):En->RS:=
  zz (ifS (zx eqC (ze ixT (vE 0) (cE (.int 0))) (cE (.str "whole"))) (zN (zc 2 c_17 (z9 (vE 0) (z9 (vE 1) (zg))))) (nxS))
  (zz (ifS (zx eqC (ze ixT (vE 0) (cE (.int 0))) (cE (.str "pick"))) (zN (zc 2 c_15 (z9 (vE 0) (z9 (vE 1) (zg))))) (nxS))
  (zz (ifS (zx eqC (ze ixT (vE 0) (cE (.int 0))) (cE (.str "row"))) (zN (zc 2 c_z (z9 (ze ixT (vE 0) (cE (.int 1))) (z9 (vE 1) (zg))))) (nxS))
  (zN (ze zt (zc 2 c_16 (z9 (vE 0) (z9 (vE 1) (zg)))) (zc 2 c_z (z9 (ze Zi (ZD (z9 (ze ixT (vE 0) (cE (.int 1))) (zg))) (ap1 Z0 (vB 1))) (z9 (vE 1) (zg))))))))
def b_z (c_i:List T->R T):En->RS:=
  zz (U1 2 (zg))
  (zz (ju (US (vE 1)) (Zt 3 4) (ju (ZW (zc 2 c_i (z9 (ze ixT (vE 0) (vE 3)) (z9 (vE 4) (zg))))) (zw 5) (V8 2 (ze zt (ze zt (slE (vE 1) (noO) (zU (vE 3))) (ZC (z9 (vE 5) (zg)))) (slE (vE 1) (zU (ze zt (vE 3) (cE (.int 1)))) (noO))))))
  (zN (vE 2)))
def S_i:Nat->Nat->List T->R T
 | 0,_=>fun _=> .bad
 | n+1,0=>fun ts=>zo (b_i (kW) (kX) (kY) (S_i n 1) (en0 2 ts))
 | n+1,_=>fun ts=>zo (b_z (S_i n 0) (en0 6 ts))
abbrev f_i (n:Nat):List T->R T:=S_i n 0
abbrev f_z (n:Nat):List T->R T:=S_i n 1
def b_3 (c_o:List T->R T) (c_i:List T->R T):En->RS:=
  zz (wX (zc 2 c_o (z9 (vE 0) (z9 (vE 1) (zg)))))
  (zN (zc 2 c_i (z9 (vE 0) (z9 (vE 1) (zg)))))
def f_3:List T->R T:=fun ts=>zo (b_3 (f_o) (f_i 20) (en0 2 ts))
def b_8:En->RS:=
  zz (U1 1 (z9 (wF 0 okX wG) (z9 (wF 0 okX JL) (z9 (wF 0 okX JM) (z9 (wF 0 okX JN) (zg))))))
  (zz (yO 1 (ZD (z9 (wF 0 okX Jk) (z9 (wF 0 okX Jl) (zg)))))
  (zz (ifS (orT (zx neC (Y9 gY (vB 1) (cE (.bl true))) (cE (.int 1))) (Jv (jb (wF 0 okX jr)))) (zN (cE (.str "wrong"))) (nxS))
  (zN (ze ixT (ZD (z9 (cE (.str "ended")) (z9 (cE (.str "no kind")) (z9 (cE (.str "no rule")) (z9 (cE (.str "no text")) (z9 (cE (.str "no worth")) (z9 (cE (.str "too many")) (zg)))))))) (Y9 QA (vB 1) (cE (.bl true)))))))
def f_8:Nat->R T:=fun c=>zo (b_8  (enC 2 c))
def b_l (c_8:Nat->R T) (c_1:List T->R T) (c_3:List T->R T):En->RS:=
  zz (zJ 3 (cE .non))
  (zz (zJ 4 (cE .non))
  (zz (xx 3 okX (zJ 4 (ifE (zx eqC (vB 0) (cE (.int 0))) (zc 2 c_3 (z9 (vE 1) (z9 (vE 2) (zg)))) (zc 2 c_1 (z9 (vE 1) (z9 (vE 2) (zg)))))))
  (zz (ifS (kG 3) (zN (vE 4)) (nxS))
  (zN (xB 3 c_8)))))
def f_l:List T->R T:=fun ts=>zo (b_l (f_8) (f_1) (f_3) (en0 6 ts))
def b_0 (c_4:List T->R T) (c_5:List T->R T) (c_w:List T->R T) (c_b:List T->R T) (c_r:List T->R T) (c_l:List T->R T) (c_1:List T->R T) (c_3:List T->R T) (c_6:List T->R T) (c_c:List T->R T):En->RS:=
  zz (zJ 1 (zc 3 c_w (z9 (vE 0) (z9 (cE (.int 0)) (z9 (cE (.int 60)) (zg))))))
  (zz (zJ 2 (zc 1 c_5 (z9 (vE 1) (zg))))
  (zz (zJ 3 (zQ (ZW (vE 2)) (zw 0) (zx eqC (zc 2 c_6 (z9 (vE 1) (z9 (vE 0) (zg)))) (cE (.int 0))) (vE 0) 1 [1]))
  (zz (ju (Zd (cE (.int 6))) (zw 4) (zz (zJ 5 (ze ixT (vE 2) (zc 3 c_4 (z9 (vE 0) (z9 (ze zt (cE (.int 4000)) (vE 4)) (z9 (ap1 Z0 (vB 2)) (zg)))))))
  (zz (zJ 6 (zc 2 c_c (z9 (vE 1) (z9 (vE 5) (zg)))))
  (zz (ifS (orT (zx neC (zc 3 c_l (z9 (cE (.int 0)) (z9 (vE 1) (z9 (vE 5) (zg))))) (vB 6)) (zx neC (zc 3 c_l (z9 (cE (.int 1)) (z9 (vE 1) (z9 (vE 5) (zg))))) (zc 2 c_6 (z9 (vE 1) (z9 (vE 5) (zg)))))) (zN (cE (.bl false))) (nxS))
  (zz (ifS (zx neC (zQ (ZW (vE 6)) (zw 0) (orT (zx ul (vB 0) (vB 2)) (zx geC (zc 2 (nex c_1) (z9 (vE 1) (z9 (vE 0) (zg)))) (zc 2 (nex c_1) (z9 (vE 1) (z9 (vE 3) (zg)))))) (vE 0) 1 [1,2,5]) (ZD (zg))) (zN (cE (.bl false))) (nxS))
  (zz (zJ 7 (zQ (ZW (vE 6)) (zw 0) (Zc) (zc 2 (nex c_1) (z9 (vE 1) (z9 (vE 0) (zg)))) 1 [1]))
  (zz (ifS (wa (zx neC (vB 6) (ZD (zg))) (zx neC (ap1 yR (vB 7)) (ze jK (zc 2 c_1 (z9 (vE 1) (z9 (vE 5) (zg)))) (cE (.int 1))))) (zN (cE (.bl false))) (nxS))
  (zz (zJ 8 (cE (.int 0)))
  (zz (jm (zx neC (vB 6) (ZD (zg))) (zz (zJ 5 (ze ixT (vE 6) (zc 3 c_4 (z9 (vE 0) (z9 (ze zt (cE (.int 4100)) (vE 8)) (z9 (ap1 Z0 (vB 6)) (zg)))))))
  (zz (zJ 8 (ze zt (vE 8) (cE (.int 1))))
  (zJ 6 (zc 2 c_3 (z9 (vE 1) (z9 (vE 5) (zg))))))) 1000000)
  (ifS (zx neC (ZD (z9 (vE 5) (zg))) (vB 3)) (zN (cE (.bl false))) (nxS)))))))))))
  (zz (zJ 9 (zc 3 c_r (z9 (vE 0) (z9 (cE (.int 4300)) (z9 (ze ixT (vE 2) (cE (.int 0))) (zg))))))
  (zz (ifS (wa (zx ul (vB 9) (vB 2)) (zx neC (zQ (Zd (cE (.int 2))) (zw 0) (Zc) (zc 3 c_l (z9 (vE 0) (z9 (vE 1) (z9 (vE 2) (zg))))) 1 [1,9]) (ze Zi (ZD (z9 (cE (.str "no worth")) (zg))) (cE (.int 2))))) (zN (cE (.bl false))) (nxS))
  (zz (zJ 10 (zc 3 c_r (z9 (vE 0) (z9 (cE (.int 4400)) (z9 (vE 1) (zg))))))
  (zN (orE (zc 2 c_b (z9 (vE 10) (z9 (cE (.int 3)) (zg)))) (w9 eqC (zQ (Zd (cE (.int 2))) (zw 0) (Zc) (zc 3 c_l (z9 (vE 0) (z9 (vE 1) (z9 (cE .non) (zg))))) 1 [10]) (ze Zi (ZD (z9 (cE (.str "no kind")) (zg))) (cE (.int 2))))))))))))
def f_0:List T->R T:=fun ts=>zo (b_0 (f_4) (f_5 8) (f_w) (f_b 12) (f_r) (f_l) (f_1) (f_3) (f_6 8) (f_c 8) (en0 11 ts))
end G
namespace G
open PySem L2 PV
abbrev scr (ns:List Int):T:= .fz (ns.map T.int)
theorem xR (ns:List Int) (k:Int) (h0:0<=k):∃ c,kS [scr ns, .int k]= .ok (.int c):=by
 have e1:kS [scr ns, .int k]=zo (if decide (k < ((ns.map T.int).length:Int))=true then (atT (ns.map T.int) k).s (fun t=> .rt t) else
   match (eqC (scr ns) (.lst [])).s (fun b=>if b=true then RS.rt (.int 0) else .nx [.vl (scr ns), .vl (.int k)]) with
   | .nx ρ' =>zN (ze zt (ze Zi (ze ixT (vE 0) (ze wd (vE 1) (ap1 Z0 (vB 0)))) (cE (.int 31))) (vE 1)) ρ'
   | r=>r):=by
  show zo (match (if decide (k < ((ns.map T.int).length:Int))=true then (atT (ns.map T.int) k).s (fun t=>RS.rt t) else .nx [.vl (scr ns), .vl (.int k)]) with
   | .nx ρ' =>_
   | r=>r)=_
  cases decide (k < ((ns.map T.int).length:Int)) with
  | true=>
   rw [if_pos rfl,if_pos rfl]
   unfold atT
   cases atI (ns.map T.int) k <;> rfl
  | false=>rfl
 rw [e1,List.length_map]
 by_cases hk:k < (ns.length:Int)
 ·obtain ⟨v,hv⟩:∃ v,ns[k.toNat]? =some v:=⟨ns[k.toNat]'(by omega),List.getElem?_eq_getElem (by omega)⟩
  have ea:atI (ns.map T.int) k=some (.int v):=by
   have:k=((k.toNat:Nat):Int):=by omega
   rw [this]
   exact jp (by rw [List.getElem?_map,hv]; rfl)
  rw [decide_eq_true hk,if_pos rfl]
  exact ⟨v,by unfold atT; rw [ea]; rfl⟩
 ·rw [decide_eq_false hk,if_neg Bool.false_ne_true]
  cases ns with
  | nil=>exact ⟨0,rfl⟩
  | cons x xs=>
   have hm0:=Int.emod_nonneg k (show (((x :: xs).length:Nat):Int) ≠ 0 by simp only [List.length_cons]; omega)
   have hm1:=Int.emod_lt_of_pos k (show (0:Int) < (((x :: xs).length:Nat):Int) by simp only [List.length_cons]; omega)
   obtain ⟨v,hv⟩:∃ v,(x :: xs)[(k % (((x :: xs).length:Nat):Int)).toNat]? =some v:=⟨_,List.getElem?_eq_getElem (by omega)⟩
   have ea:atI ((x :: xs).map T.int) (k % (((x :: xs).length:Nat):Int))=some (.int v):=by
    have e:k % (((x :: xs).length:Nat):Int)=(((k % (((x :: xs).length:Nat):Int)).toNat:Nat):Int):=by omega
    rw [e]
    exact jp (by rw [List.getElem?_map,hv]; rfl)
   have cm:WY v 31:= .inr ⟨by decide,by decide⟩
   have hp:(0:Int) < (((x :: xs).map T.int).length:Int):=by simp only [List.length_map,List.length_cons]; omega
   refine ⟨v*31+k, ?_⟩
   show zo (((((if 0 < (((x :: xs).map T.int).length:Int) then R.ok (T.int (k % (((x :: xs).map T.int).length:Int))) else .bad).bind fun y=>ixT (scr (x :: xs)) y).bind fun a=>Zi a (.int 31)).bind fun a=>zt a (.int k)).s fun t=> .rt t)=_
   rw [if_pos hp]
   show zo ((((atT ((x :: xs).map T.int) (k % (((x :: xs).map T.int).length:Int))).bind fun a=>Zi a (.int 31)).bind fun a=>zt a (.int k)).s fun t=> .rt t)=_
   rw [List.length_map]
   unfold atT
   rw [ea]
   show zo ((((if WY v 31 then R.ok (T.int (v*31)) else .bad)).bind fun a=>zt a (.int k)).s fun t=> .rt t)=_
   rw [if_pos cm]
   rfl
theorem Ze (ns:List Int) (k m:Int) (h0:0<=k) (hm:0 < m):∃ p,f_4 [scr ns, .int k, .int m]= .ok (.int p)/\0<=p/\p < m:=by
 obtain ⟨c,hc⟩:=xR ns k h0
 have cm1:WY 6151 (k+1):= .inl ⟨by decide,by decide⟩
 have cm2:WY (c+6151*(k+1)) 40692:= .inr ⟨by decide,by decide⟩
 generalize hd:(c+6151*(k+1))*40692 % 2147483399=d
 have hd0:0<=d:=by rw [← hd]; exact Int.emod_nonneg _ (by decide)
 have hd1:d < 2147483399:=by rw [← hd]; exact Int.emod_lt_of_pos _ (by decide)
 have cm3:WY d d:= .inl ⟨by omega,by omega⟩
 refine ⟨(d*d+d / 31) % 2147483629 % m, ?_,Int.emod_nonneg _ (by omega),Int.emod_lt_of_pos _ hm⟩
 have e1:f_4 [scr ns, .int k, .int m]=zo (match ((((((kS [scr ns, .int k]).bind fun x=>(Zi (.int 6151) (.int (k+1))).bind fun y=>zt x y).bind fun x=>Zi x (.int 40692)).bind fun x=>wd x (.int 2147483399))).s fun t=>RS.nx [.vl (scr ns), .vl (.int k), .vl (.int m), .vl t]) with
   | .nx ρ' =>zN (ze wd (ze wd (ze zt (ze Zi (vE 3) (vE 3)) (ze yG (vE 3) (cE (.int 31)))) (cE (.int 2147483629))) (vE 2)) ρ'
   | r=>r):=rfl
 rw [e1,hc]
 show zo (match (((((if WY 6151 (k+1) then R.ok (T.int (6151*(k+1))) else .bad).bind fun y=>zt (.int c) y).bind fun x=>Zi x (.int 40692)).bind fun x=>wd x (.int 2147483399)).s fun t=>RS.nx [.vl (scr ns), .vl (.int k), .vl (.int m), .vl t]) with
   | .nx ρ' =>_
   | r=>r)=_
 rw [if_pos cm1]
 show zo (match ((((if WY (c+6151*(k+1)) 40692 then R.ok (T.int ((c+6151*(k+1))*40692)) else .bad)).bind fun x=>wd x (.int 2147483399)).s fun t=>RS.nx [.vl (scr ns), .vl (.int k), .vl (.int m), .vl t]) with
   | .nx ρ' =>_
   | r=>r)=_
 rw [if_pos cm2]
 show zo (zN (ze wd (ze wd (ze zt (ze Zi (vE 3) (vE 3)) (ze yG (vE 3) (cE (.int 31)))) (cE (.int 2147483629))) (vE 2)) [.vl (scr ns), .vl (.int k), .vl (.int m), .vl (.int ((c+6151*(k+1))*40692 % 2147483399))])=_
 rw [hd]
 show zo (((((if WY d d then R.ok (T.int (d*d)) else .bad).bind fun x=>zt x (.int (d / 31))).bind fun x=>wd x (.int 2147483629)).bind fun x=>wd x (.int m)).s fun t=>RS.rt t)=_
 rw [if_pos cm3]
 show zo ((if 0 < m then R.ok (T.int ((d*d+d / 31) % 2147483629 % m)) else .bad).s fun t=>RS.rt t)=_
 rw [if_pos hm]
 rfl
theorem qt {ft:En->R Bool} {fe:En->R T}:∀ (ts:List T) (ρ:En) (x:Sl),zZ (zw 0) ft fe ts (ρ.set 0 x)=zZ (zw 0) ft fe ts ρ
 | [],_,_=>rfl
 | t :: ts,ρ,x=>by
  unfold zZ zw
  rw [List.set_set]
theorem Zk {ft:En->R Bool} {fe:En->R T} {p:T->Bool} {h:T->T}:∀ (ts:List T) (ρ:En),(∀ t∈ts,ft (ρ.set 0 (.vl t))= .ok (p t)/\(p t=true->fe (ρ.set 0 (.vl t))= .ok (h t)))->zZ (zw 0) ft fe ts ρ= .ok ((ts.filter p).map h)
 | [],_,_=>rfl
 | t :: ts,ρ,H=>by
  obtain ⟨h1,h2⟩:=H t List.mem_cons_self
  have ih:=Zk ts ρ fun u hu=>H u (List.mem_cons_of_mem _ hu)
  have e:zZ (zw 0) ft fe (t :: ts) ρ=(ft (ρ.set 0 (.vl t))).bind fun k=>if k=true then (fe (ρ.set 0 (.vl t))).bind fun v=>(zZ (zw 0) ft fe ts (ρ.set 0 (.vl t))).bind fun vs=> .ok (v :: vs) else zZ (zw 0) ft fe ts (ρ.set 0 (.vl t)):=rfl
  rw [e,h1,qt,ih]
  show (if p t=true then _ else _)=_
  cases hp:p t with
  | true=>rw [if_pos rfl,h2 hp,List.filter_cons_of_pos hp]; rfl
  | false=>rw [if_neg Bool.false_ne_true,List.filter_cons_of_neg (by rw [hp]; exact Bool.false_ne_true)]
theorem qu {fe:En->R T} {h:T->T} (ts:List T) (ρ:En) (H:∀ t∈ts,fe (ρ.set 0 (.vl t))= .ok (h t)):zZ (zw 0) Zc fe ts ρ= .ok (ts.map h):=by
 have:=Zk (ft:=Zc) (fe:=fe) (p:=fun _=>true) (h:=h) ts ρ fun t ht=>⟨rfl,fun _=>H t ht⟩
 rw [this,List.filter_eq_self.mpr (fun _ _=>rfl)]
theorem zX {fe:En->R T} {h:T->T} {k:Nat} {js:List Nat} {ρ:En} (ts:List T) (hl:ts.length<=bnd) (H:∀ t∈ts,fe ((wY k js ρ).set 0 (.vl t))= .ok (h t)):zG (zw 0) Zc fe k js ρ ts= .ok (ts.map h):=by
 unfold zG
 rw [if_pos hl,qu ts _ H]
 rfl
theorem wg (p:T->Bool):∀ ts:List T,U0 (ts.map fun t=>T.bl (p t))=some (ts.all p)
 | []=>rfl
 | t :: ts=>by
  show (match U0 (ts.map fun t=>T.bl (p t)) with | some j=>some (p t && j) | none=>none)=_
  rw [wg p ts]; rfl
def isW:T->Bool
 | .int _=>true
 | _=>false
theorem UT (t:T):f_m [t]= .ok (.bl (isW t)):=by cases t <;> rfl
def yS (a b:Nat):T->Bool
 | .tup xs=>decide (a<=xs.length) && decide (xs.length<=b)
 | _=>false
theorem jf (t:T) (a b:Nat):f_d [t, .int a, .int b]= .ok (.bl (yS a b t)):=by
 cases t with
 | tup xs=>
  show zo ((if decide ((a:Int)<=(xs.length:Int))=true then R.ok (T.bl (decide ((xs.length:Int)<=(b:Int)))) else .ok (.bl false)).s fun t=> .rt t)=_
  have e1:decide ((a:Int)<=(xs.length:Int))=decide (a<=xs.length):=by simp
  have e2:decide ((xs.length:Int)<=(b:Int))=decide (xs.length<=b):=by simp
  rw [e1,e2]
  show _=R.ok (T.bl (decide (a<=xs.length) && decide (xs.length<=b)))
  cases decide (a<=xs.length) <;> rfl
 | _=>rfl
def jR (lo hi:Int):T->T->Bool
 | .int i, .int j=>decide (lo<=i) && decide (i<=j) && decide (j<=hi)
 | _,_=>false
theorem qv (t u:T) (lo hi:Int):KG [t,u, .int lo, .int hi]= .ok (.bl (jR lo hi t u)):=by
 cases t with
 | int i=>
  cases u with
  | int j=>
   show zo ((if decide (lo<=i)=true then (if decide (i<=j)=true then R.ok (T.bl (decide (j<=hi))) else .ok (.bl false)) else .ok (.bl false)).s fun t=> .rt t)=_
   show _=R.ok (T.bl (decide (lo<=i) && decide (i<=j) && decide (j<=hi)))
   cases decide (lo<=i) <;> cases decide (i<=j) <;> rfl
  | _=>rfl
 | _=>cases u <;> rfl
def Zf (c:Nat):Bool:=decide (97<=c) && decide (c<=122)
def Zp:T->Bool
 | .str x=>decide (1<=x.length) && decide (x.length<=3) && x.cps.toList.all Zf
 | _=>false
theorem UU (a b:Nat):decide ([a] < [b])=decide (a < b):=by
 by_cases h:a < b
 ·rw [decide_eq_true h]; exact decide_eq_true (List.Lex.rel h)
 ·rw [decide_eq_false h]
  refine decide_eq_false fun z=> ?_
  cases z with
  | rel h' =>exact h h'
  | cons h' =>cases h'
theorem xS (c:Nat) (ρ:En):chE leC leC (cE (.str "a")) (vB 0) (cE (.str "z")) ((Sl.vl (.str ⟨#[c]⟩)) :: ρ)= .ok (.bl (Zf c)):=by
 have e1:leC (.str "a") (.str ⟨#[c]⟩)= .ok (decide (97<=c)):=by
  show R.ok (!decide ([c] < [97]))=_
  rw [UU]
  by_cases h:c < 97
  ·rw [decide_eq_true h,decide_eq_false (by omega)]; rfl
  ·rw [decide_eq_false h,decide_eq_true (by omega)]; rfl
 have e2:leC (.str ⟨#[c]⟩) (.str "z")= .ok (decide (c<=122)):=by
  show R.ok (!decide ([122] < [c]))=_
  rw [UU]
  by_cases h:122 < c
  ·rw [decide_eq_true h,decide_eq_false (by omega)]; rfl
  ·rw [decide_eq_false h,decide_eq_true (by omega)]; rfl
 show (leC (.str "a") (.str ⟨#[c]⟩)).bind (fun k=>if k=true then (leC (.str ⟨#[c]⟩) (.str "z")).bind fun k' =>R.ok (T.bl k') else R.ok (T.bl false))=_
 rw [e1,e2]
 unfold Zf
 show (if decide (97<=c)=true then R.ok (T.bl (decide (c<=122))) else .ok (.bl false))=_
 cases decide (97<=c) <;> rfl
def xT:T->Prop
 | .str x=>x.length<=bnd
 | _=>True
theorem xU (t:T) (ht:xT t):f_7 [t]= .ok (.bl (Zp t)):=by
 cases t with
 | str x=>
  have hx:x.length<=bnd:=ht
  have e0:Z0 (.str x)= .ok (.int x.length):=if_pos hx
  have ec:zG (zw 0) Zc (chE leC leC (cE (.str "a")) (vB 0) (cE (.str "z"))) 1 [] [.vl (.str x)] (je x)= .ok (x.cps.toList.map fun c=>T.bl (Zf c)):=by
   have hs:(je x).length<=bnd:=by unfold je; rw [List.length_map,Array.length_toList]; exact hx
   have:=zX (fe:=chE leC leC (cE (.str "a")) (vB 0) (cE (.str "z"))) (h:=fun t=>match t with | .str y=>T.bl (Zf (y.cps.toList.headD 0)) | t=>t) (k:=1) (js:=[]) (ρ:=[.vl (.str x)]) (je x) hs fun t ht=>by
    unfold je at ht
    obtain ⟨c,_,rfl⟩:=List.mem_map.mp ht
    exact xS c []
   rw [this]
   unfold je
   rw [List.map_map]
   rfl
  have ea:U0 (x.cps.toList.map fun c=>T.bl (Zf c))=some (x.cps.toList.all Zf):=by
   have:=wg (fun t=>match t with | .str y=>Zf (y.cps.toList.headD 0) | _=>true) (je x)
   unfold je at this
   rw [List.map_map,List.all_map] at this
   exact this
  have e1:f_7 [.str x]=zo (match ((((Z0 (.str x)).bind fun y=>(leC (.int 1) y).bind fun k=>if k=true then leC y (.int 3) else .ok false).bind fun b=> .ok (!b)).s fun k=>if k=true then RS.rt (.bl false) else .nx [.vl (.str x)]) with
    | .nx ρ' =>zN (ap1 V7 (zQ (ZW (vE 0)) (zw 0) (Zc) (chE leC leC (cE (.str "a")) (vB 0) (cE (.str "z"))) 1 [])) ρ'
    | r=>r):=rfl
  rw [e1,e0]
  have c1:decide ((1:Int)<=(x.length:Int))=decide (1<=x.length):=by
   by_cases h:1<=x.length
   ·rw [decide_eq_true h]; exact decide_eq_true (by omega)
   ·rw [decide_eq_false h]; exact decide_eq_false (by omega)
  have c2:decide ((x.length:Int)<=(3:Int))=decide (x.length<=3):=by
   by_cases h:x.length<=3
   ·rw [decide_eq_true h]; exact decide_eq_true (by omega)
   ·rw [decide_eq_false h]; exact decide_eq_false (by omega)
  show zo (match ((((if decide ((1:Int)<=(x.length:Int))=true then R.ok (decide ((x.length:Int)<=(3:Int))) else .ok false)).bind fun b=> .ok (!b)).s fun k=>if k=true then RS.rt (.bl false) else .nx [.vl (.str x)]) with
    | .nx ρ' =>_
    | r=>r)=_
  rw [c1,c2]
  show _=R.ok (T.bl (decide (1<=x.length) && decide (x.length<=3) && x.cps.toList.all Zf))
  cases decide (1<=x.length) with
  | false=>rfl
  | true=>
   cases decide (x.length<=3) with
   | false=>rfl
   | true=>
    show zo ((((zG (zw 0) Zc (chE leC leC (cE (.str "a")) (vB 0) (cE (.str "z"))) 1 [] [.vl (.str x)] (je x)).bind fun vs=> .ok (.lst vs)).bind V7).s fun t=> .rt t)=_
    rw [ec]
    show zo ((match U0 (x.cps.toList.map fun c=>T.bl (Zf c)) with | some k=>R.ok (T.bl k) | none=> .bad).s fun t=> .rt t)=_
    rw [ea]
    rfl
 | _=>rfl
theorem bOk {α β:Type} (a:α) (f:α->R β):(R.ok a).bind f=f a:=rfl
theorem Za {α:Type} (a:α) (f:α->RS):(R.ok a).s f=f a:=rfl
theorem j6 (r:R T):zo (r.s fun t=> .rt t)=r:=by cases r <;> rfl
theorem Z7 (f:En->R T) (ρ:En):zN f ρ=(f (frz ρ)).s fun t=> .rt t:=rfl
theorem j1 {g:List T->R T} {f:En->R T} {ρ:En}:zc 1 g (z9 f zg) ρ=(f ρ).bind fun x=>g [x]:=by
 unfold zc z9 zg
 cases f ρ <;> rfl
theorem Z3 {g:List T->R T} {f f' :En->R T} {ρ:En}:zc 2 g (z9 f (z9 f' zg)) ρ=(f ρ).bind fun x=>(f' ρ).bind fun y=>g [x,y]:=by
 unfold zc z9 zg
 cases f ρ with
 | ok a=>cases f' ρ <;> rfl
 | ex c=>rfl
 | bad=>rfl
theorem Zq {g:List T->R T} {f f' f'' :En->R T} {ρ:En}:zc 3 g (z9 f (z9 f' (z9 f'' zg))) ρ=(f ρ).bind fun x=>(f' ρ).bind fun y=>(f'' ρ).bind fun z=>g [x,y,z]:=by
 unfold zc z9 zg
 cases f ρ with
 | ok a=>
  cases f' ρ with
  | ok b=>cases f'' ρ <;> rfl
  | ex c=>rfl
  | bad=>rfl
 | ex c=>rfl
 | bad=>rfl
theorem G4 {g:List T->R T} {f f' f'' f3:En->R T} {ρ:En}:zc 4 g (z9 f (z9 f' (z9 f'' (z9 f3 zg)))) ρ=(f ρ).bind fun x=>(f' ρ).bind fun y=>(f'' ρ).bind fun z=>(f3 ρ).bind fun w=>g [x,y,z,w]:=by
 unfold zc z9 zg
 cases f ρ with
 | ok a=>
  cases f' ρ with
  | ok b=>
   cases f'' ρ with
   | ok c=>cases f3 ρ <;> rfl
   | ex c=>rfl
   | bad=>rfl
  | ex c=>rfl
  | bad=>rfl
 | ex c=>rfl
 | bad=>rfl
def Xz (r k:R T):R T:=r.bind fun x=>match x with
 | .bl true=>k
 | .bl false=> .ok (.bl false)
 | _=> .bad
theorem JA (f g:En->R T) (ρ:En):Jo f g ρ=Xz (f ρ) (g ρ):=rfl
theorem ZI (a:Bool) (k:R T):Xz (.ok (.bl a)) k=if a=true then k else .ok (.bl false):=by cases a <;> rfl
theorem v0 {t:T} {ρ:En}:vE 0 (.vl t :: ρ)= .ok t:=rfl
theorem v1 {t:T} {a:Sl} {ρ:En}:vE 1 (a :: .vl t :: ρ)= .ok t:=rfl
theorem w0 {t:T} {ρ:En}:vB 0 (.vl t :: ρ)= .ok t:=rfl
theorem w1 {t:T} {a:Sl} {ρ:En}:vB 1 (a :: .vl t :: ρ)= .ok t:=rfl
theorem Zg {t:T} {ρ:En}:cE t ρ= .ok t:=rfl
theorem zl {g:T->T->R T} {f f' :En->R T} {ρ:En}:ze g f f' ρ=(f ρ).bind fun x=>(f' ρ).bind fun y=>g x y:=rfl
theorem j2 {t:T} {ρ:En}:frz (.vl t :: ρ)= .vl t :: frz ρ:=rfl
theorem JO {ρ:En}:frz (.un :: ρ)= .un :: frz ρ:=rfl
theorem jt:frz []=[]:=rfl
theorem vn {g g' :T->T->R Bool} {fa fb fc:En->R T} {ρ:En}:chE g g' fa fb fc ρ=(fa ρ).bind fun x=>(fb ρ).bind fun y=>(g x y).bind fun k=>if k=true then (fc ρ).bind fun z=>(g' y z).bind fun k' => .ok (.bl k') else .ok (.bl false):=rfl
theorem Zn {g:T->R T} {f:En->R T} {ρ:En}:ap1 g f ρ=(f ρ).bind g:=rfl
theorem Ug {i j:Int}:leC (.int i) (.int j)= .ok (decide (i<=j)):=rfl
theorem jB {g:T->T->R Bool} {f f' :En->R T} {ρ:En}:w9 g f f' ρ=(f ρ).bind fun x=>(f' ρ).bind fun y=>(g x y).bind fun b=> .ok (.bl b):=rfl
theorem ZU {xs:List T}:Z0 (.tup xs)= .ok (.int xs.length):=rfl
theorem yT {xs:List T}:Z0 (.lst xs)= .ok (.int xs.length):=rfl
mutual
def sOk:T->Prop
 | .str x=>x.length<=bnd
 | .tup xs=>J0 xs
 | .lst xs=>J0 xs
 | .fz xs=>J0 xs
 | _=>True
def J0:List T->Prop
 | []=>True
 | t :: ts=>sOk t/\J0 ts
end
theorem ja:∀ {ts:List T} {t:T},J0 ts->t∈ts->sOk t
 | u :: ts,t,h,hm=>by
  have h' :sOk u/\J0 ts:=by simpa only [J0] using h
  rcases List.mem_cons.mp hm with rfl | hm
  ·exact h'.1
  ·exact ja h'.2 hm
theorem sOk.str {t:T} (h:sOk t):xT t:=by
 cases t with
 | str x=>
  have h' :x.length<=bnd:=by simpa only [sOk] using h
  exact h'
 | _=>trivial
theorem jg {xs:List T} (h:sOk (.tup xs)):J0 xs:=by simpa only [sOk] using h
def zq:T->Bool
 | .tup [w, .int i]=>Zp w && decide (1<=i) && decide (i<=20)
 | _=>false
theorem qw (t:T) (ht:sOk t):xQ [t]= .ok (.bl (zq t)):=by
 have e:xQ [t]=zo (KH f_m f_d f_7 [.vl t]):=rfl
 rw [e,KH]
 simp only [Z7,j6,j2,jt,JA,Zq,j1,v0,Zg,bOk,zl,vn]
 rw [show f_d [t, .int 2, .int 2]= .ok (.bl (yS 2 2 t)) from jf t 2 2,ZI]
 cases t with
 | tup xs=>
  match xs,ht with
  | [],_=>rfl
  | [_],_=>rfl
  | _ :: _ :: _ :: _,_=>simp [yS,zq]
  | [w,n],ht=>
   have hw:sOk w:=ja (jg ht) (by simp)
   show (if true=true then Xz (f_7 [w]) (Xz (f_m [n]) ((leC (.int 1) n).bind fun k=>if k=true then (leC n (.int 20)).bind fun k' =>R.ok (T.bl k') else .ok (.bl false))) else _)=_
   rw [if_pos rfl,xU w hw.str,UT,ZI,ZI]
   cases n with
   | int i=>
    show (if Zp w=true then (if true=true then (if decide (1<=i)=true then R.ok (T.bl (decide (i<=20))) else .ok (.bl false)) else _) else _)=R.ok (T.bl (Zp w && decide (1<=i) && decide (i<=20)))
    cases Zp w <;> cases decide (1<=i) <;> rfl
   | _=>
    show (if Zp w=true then (if false=true then _ else R.ok (T.bl false)) else R.ok (T.bl false))=R.ok (T.bl false)
    cases Zp w <;> rfl
 | _=>rfl
theorem zE (f g:En->RS) (ρ:En):zz f g ρ=match f ρ with | .nx ρ' =>g ρ' | r=>r:=rfl
theorem ZJ (g:En->R Bool) (f1 f2:En->RS) (ρ:En):ifS g f1 f2 ρ=(g ρ).s fun k=>if k=true then f1 ρ else f2 ρ:=rfl
theorem Uh (f g:En->R Bool) (ρ:En):orT f g ρ=(f ρ).bind fun x=>if x=true then .ok true else g ρ:=rfl
theorem JW (f:En->R Bool) (ρ:En):Jv f ρ=(f ρ).bind fun x=> .ok (!x):=rfl
theorem jS (f:En->R T) (ρ:En):jb f ρ=(f ρ).bind tru:=rfl
theorem ZO (k:Bool):tru (.bl k)= .ok k:=rfl
theorem j3 (i:Nat) (f:En->R T) (ρ:En):zJ i f ρ=(f ρ).s fun t=> .nx (ρ.set i (.vl t)):=rfl
theorem zL {g:T->T->R Bool} {f f' :En->R T} {ρ:En}:zx g f f' ρ=(f ρ).bind fun x=>(f' ρ).bind fun y=>g x y:=rfl
theorem zI {fi:En->R (List T)} {g:T->En->R En} {ft:En->R Bool} {fe:En->R T} {k:Nat} {js:List Nat} {ρ:En}:zQ fi g ft fe k js ρ=(fi ρ).bind fun ts=>(zG g ft fe k js ρ ts).bind fun vs=> .ok (.lst vs):=rfl
theorem ZP {f:En->R T} {ρ:En}:ZW f ρ=(f ρ).bind wE:=rfl
def Z2:T->Str
 | .tup (.str w :: _)=>w
 | _=>⟨#[]⟩
def ut:T->Bool
 | .tup cs=>decide (1<=cs.length) && decide (cs.length<=4) && cs.all zq && decide ((dd [] (cs.map Z2)).length=cs.length)
 | _=>false
theorem JX {c:T} (h:zq c=true):∃ w n,c= .tup [.str w,n]:=by
 unfold zq at h
 split at h
 ·rename_i w i
  cases w with
  | str x=>exact ⟨x,_,rfl⟩
  | _=>cases h
 ·cases h
theorem Wd:∀ {cs:List T},cs.all zq=true->Y8 (cs.map fun c=>T.str (Z2 c))=some (cs.map Z2)
 | [],_=>rfl
 | c :: cs,h=>by
  rw [List.all_cons,Bool.and_eq_true] at h
  have ih:=Wd h.2
  show (match Y8 (cs.map fun c=>T.str (Z2 c)) with | some ys=>some (Z2 c :: ys) | none=>none)=_
  rw [ih]; rfl
theorem yU (t:T) (ht:sOk t):f_v [t]= .ok (.bl (ut t)):=by
 have e:f_v [t]=zo (b_v f_d xQ [.vl t, .un]):=rfl
 rw [e,b_v]
 simp only [zE,ZJ,Uh,JW,jS,Zq,v0,Zg,bOk]
 rw [show f_d [t, .int 1, .int 4]= .ok (.bl (yS 1 4 t)) from jf t 1 4]
 simp only [bOk,ZO]
 cases t with
 | tup cs=>
  have hl:yS 1 4 (.tup cs)=(decide (1<=cs.length) && decide (cs.length<=4)):=rfl
  rw [hl]
  show _=R.ok (T.bl (decide (1<=cs.length) && decide (cs.length<=4) && cs.all zq && decide ((dd [] (cs.map Z2)).length=cs.length)))
  cases h14:(decide (1<=cs.length) && decide (cs.length<=4)) with
  | false=>rfl
  | true=>
   rw [Bool.and_eq_true,decide_eq_true_eq,decide_eq_true_eq] at h14
   have hb:cs.length<=bnd:=Nat.le_trans h14.2 (by decide)
   have ec:zG (zw 0) Zc (zc 1 xQ (z9 (vE 0) zg)) 1 [] [.vl (.tup cs), .un] cs= .ok (cs.map fun c=>T.bl (zq c)):=
    zX (h:=fun c=>T.bl (zq c)) cs hb fun c hc=>by
     show zc 1 xQ (z9 (vE 0) zg) [.vl c]=_
     rw [j1,v0,bOk]
     exact qw c (ja (jg ht) hc)
   simp only [Bool.not_true,Bool.false_eq_true,if_false,Zn,zI,ZP,v0,bOk,wE,ec]
   have ea:V7 (.lst (cs.map fun c=>T.bl (zq c)))= .ok (.bl (cs.all zq)):=by
    show (match U0 (cs.map fun c=>T.bl (zq c)) with | some k=>R.ok (T.bl k) | none=> .bad)=_
    rw [wg]
   rw [ea]
   simp only [bOk,ZO,Za]
   cases hall:cs.all zq with
   | false=>rfl
   | true=>
    have ew:zG (zw 0) Zc (ze ixT (vE 0) (cE (.int 0))) 1 [] [.vl (.tup cs), .un] cs= .ok (cs.map fun c=>T.str (Z2 c)):=
     zX (h:=fun c=>T.str (Z2 c)) cs hb fun c hc=>by
      obtain ⟨w,n,rfl⟩:=JX (List.all_eq_true.mp hall c hc)
      rfl
    simp only [Bool.not_true,Bool.false_eq_true,if_false,nxS,j3,zI,ZP,v0,bOk,wE,ew,Za,Z7]
    show zo (((v7 (.lst (cs.map fun c=>T.str (Z2 c)))).bind fun x=>(Z0 (.lst (cs.map fun c=>T.str (Z2 c)))).bind fun y=>(eqC x y).bind fun b=>R.ok (T.bl b)).s fun t=> .rt t)=_
    have el:v7 (.lst (cs.map fun c=>T.str (Z2 c)))= .ok (.int (dd [] (cs.map Z2)).length):=by
     show (match Y8 (cs.map fun c=>T.str (Z2 c)) with | some ys=>if (cs.map fun c=>T.str (Z2 c)).length+1 < 4096 then R.ok (T.int (dd [] ys).length) else .bad | none=> .bad)=_
     rw [Wd hall]
     exact if_pos (by rw [List.length_map]; omega)
    rw [el,yT,List.length_map,j6]
    show R.ok (T.bl (((dd [] (cs.map Z2)).length:Int) == (cs.length:Int)))=_
    congr 2
    by_cases hq:(dd [] (cs.map Z2)).length=cs.length
    ·rw [decide_eq_true hq,hq]; simp
    ·rw [decide_eq_false hq]
     simp only [Bool.true_and,beq_eq_false_iff_ne]
     omega
 | _=>rfl
def isS (w:Str):T->Bool
 | .str s=>s == w
 | _=>false
theorem eqS (h:T) (w:Str):eqC h (.str w)= .ok (isS w h):=by cases h <;> rfl
theorem eqI (i j:Int):eqC (.int i) (.int j)= .ok (i == j):=rfl
theorem at0 {h:T} {r:List T}:ixT (.tup (h :: r)) (.int 0)= .ok h:=by
 show atT (h :: r) 0=_
 unfold atT
 rw [show atI (h :: r) 0=some h from jp (j:=0) rfl]
theorem at1 {h a:T} {r:List T}:ixT (.tup (h :: a :: r)) (.int 1)= .ok a:=by
 show atT (h :: a :: r) 1=_
 unfold atT
 rw [show atI (h :: a :: r) 1=some a from jp (j:=1) rfl]
theorem at2 {h a b:T} {r:List T}:ixT (.tup (h :: a :: b :: r)) (.int 2)= .ok b:=by
 show atT (h :: a :: b :: r) 2=_
 unfold atT
 rw [show atI (h :: a :: b :: r) 2=some b from jp (j:=2) rfl]
theorem at3 {h a b c:T} {r:List T}:ixT (.tup (h :: a :: b :: c :: r)) (.int 3)= .ok c:=by
 show atT (h :: a :: b :: c :: r) 3=_
 unfold atT
 rw [show atI (h :: a :: b :: c :: r) 3=some c from jp (j:=3) rfl]
def wH (k:T->Bool):T->Bool
 | .tup ks=>decide (1<=ks.length) && decide (ks.length<=3) && ks.all k
 | _=>false
def JY:List T->Bool
 | [a,b]=>jR (-20) 20 a b
 | _=>false
def uu:List T->Bool
 | [c]=>ut c
 | _=>false
def Vh (k:T->Bool):List T->Bool
 | [c]=>wH k c
 | _=>false
def uv (k:T->Bool):List T->Bool
 | [c,a,b]=>jR 0 3 a b && k c
 | _=>false
def WA (k:T->Bool):T->Bool
 | .tup (h :: r)=>if isS "whole" h=true then JY r else if isS "pick" h=true then uu r else if isS "row" h=true then Vh k r else if isS "many" h=true then uv k r else false
 | _=>false
def isK:Nat->T->Bool
 | 0,_=>false
 | d+1,t=>WA (isK d) t
theorem wI {α:Type} (xs:List α) (n:Nat):((xs.length:Int) == (n:Int))=decide (xs.length=n):=by
 by_cases h:xs.length=n
 ·rw [decide_eq_true h,h]; simp
 ·rw [decide_eq_false h,beq_eq_false_iff_ne]; omega
theorem Vi {f:En->R T} {ρ:En}:YG f ρ=(f ρ).bind fun x=>match x with | .int i=> .ok (.int (-i)) | _=> .bad:=rfl
theorem jn {i j:Int}:jK (.int i) (.int j)= .ok (.int (i - j)):=rfl
set_option maxHeartbeats 1000000 in
theorem xV {n:Nat} {d:Nat} {k:T->Bool} (H0:∀ t,sOk t->S_e n 0 [t, .int d]= .ok (.bl (k t))) (H1:∀ t,sOk t->S_e n 1 [t, .int d]= .ok (.bl (wH k t))) (t:T) (ht:sOk t):
  S_e (n+1) 0 [t, .int ((d+1:Nat):Int)]= .ok (.bl (WA k t)):=by
 have e:S_e (n+1) 0 [t, .int ((d+1:Nat):Int)]=zo (b_e KG (S_e n 0) f_v (S_e n 1) [.vl t, .vl (.int ((d+1:Nat):Int))]):=rfl
 have hL:(((d+1:Nat):Int) == 0)=false:=by rw [beq_eq_false_iff_ne]; omega
 have hL1:((d+1:Nat):Int) - 1=(d:Int):=by omega
 rw [e,b_e]
 simp only [zE,ZJ,Uh,JW,jS,zL,w0,w1,Zg,bOk,eqI,hL,Bool.false_eq_true,if_false,Zn]
 cases t with
 | tup xs=>
  cases xs with
  | nil=>rfl
  | cons h r=>
   have hs:=jg ht
   have hm:∀ u∈r,sOk u:=fun u hu=>ja hs (List.mem_cons_of_mem _ hu)
   have z0:(((h :: r).length:Int) == 0)=false:=by rw [beq_eq_false_iff_ne]; simp only [List.length_cons]; omega
   have ti:Jc "tuple" (.tup (h :: r))= .ok (.bl true):=rfl
   simp only [ti,bOk,ZO,Bool.not_true,Bool.false_eq_true,if_false,ZU,eqI,z0,Za,nxS,zl,v0,v1,Zg,at0,eqS,Z7,j2,jt,JA,jB,Zn,w0,G4,j1,Z3,Vi,jn,hL1]
   show _=R.ok (T.bl (if isS "whole" h=true then JY r else if isS "pick" h=true then uu r else if isS "row" h=true then Vh k r else if isS "many" h=true then uv k r else false))
   have l3:(((h :: r).length:Int) == 3)=decide ((h :: r).length=3):=wI (h :: r) 3
   have l2:(((h :: r).length:Int) == 2)=decide ((h :: r).length=2):=wI (h :: r) 2
   have l4:(((h :: r).length:Int) == 4)=decide ((h :: r).length=4):=wI (h :: r) 4
   simp only [l2,l3,l4,ZI]
   cases isS "whole" h with
   | true=>
    simp only [if_true]
    match r,hm with
    | [],_=>rfl
    | [_],_=>rfl
    | _ :: _ :: _ :: _,_=>simp [JY,Za,zo]
    | [a,b],_=>
     simp only [at1,at2,bOk,qv]
     rfl
   | false=>
    simp only [Bool.false_eq_true,if_false,v0,v1,w0,bOk,at0,Za,j2,jt,ZU,eqI,l2,l4,ZI,jn,hL1]
    cases isS "pick" h with
    | true=>
     simp only [if_true]
     match r,hm with
     | [],_=>rfl
     | _ :: _ :: _,_=>simp [uu,Za,zo]
     | [c],hm=>
      simp only [at1,bOk,yU c (hm c (by simp))]
      rfl
    | false=>
     simp only [Bool.false_eq_true,if_false,v0,v1,w0,bOk,at0,Za,j2,jt,ZU,eqI,l2,l4,ZI,jn,hL1]
     cases isS "row" h with
     | true=>
      simp only [if_true]
      match r,hm with
      | [],_=>rfl
      | _ :: _ :: _,_=>simp [Vh,Za,zo]
      | [c],hm=>
       simp only [at1,bOk,H1 c (hm c (by simp))]
       rfl
     | false=>
      simp only [Bool.false_eq_true,if_false,v0,v1,w0,bOk,at0,Za,j2,jt,ZU,eqI,l2,l4,ZI,jn,hL1]
      cases isS "many" h with
      | true=>
       simp only [if_true]
       match r,hm with
       | [],_=>rfl
       | [_],_=>rfl
       | [_,_],_=>rfl
       | _ :: _ :: _ :: _ :: _,_=>simp [uv,Za,zo]
       | [c,a,b],hm=>
        simp only [at1,at2,at3,bOk,qv,H0 c (hm c (by simp)),ZI]
        show zo (match (if jR 0 3 a b=true then R.ok (T.bl (k c)) else .ok (.bl false)).s (fun t=>RS.rt t) with | .nx _=>RS.rt (T.bl false) | r=>r)=R.ok (T.bl (jR 0 3 a b && k c))
        cases jR 0 3 a b <;> rfl
      | false=>rfl
 | _=>rfl
theorem kZ {n:Nat} {d:Nat} {k:T->Bool} (H0:∀ t,sOk t->S_e n 0 [t, .int d]= .ok (.bl (k t))) (t:T) (ht:sOk t):S_e (n+1) 1 [t, .int d]= .ok (.bl (wH k t)):=by
 have e:S_e (n+1) 1 [t, .int d]=zo (KI f_d (S_e n 0) [.vl t, .vl (.int d)]):=rfl
 rw [e,KI]
 simp only [Z7,j6,j2,jt,JA,Zq,v0,Zg,bOk]
 rw [show f_d [t, .int 1, .int 3]= .ok (.bl (yS 1 3 t)) from jf t 1 3,ZI]
 cases t with
 | tup ks=>
  show (if (decide (1<=ks.length) && decide (ks.length<=3))=true then _ else _)=R.ok (T.bl (decide (1<=ks.length) && decide (ks.length<=3) && ks.all k))
  cases h13:(decide (1<=ks.length) && decide (ks.length<=3)) with
  | false=>rfl
  | true=>
   rw [Bool.and_eq_true,decide_eq_true_eq,decide_eq_true_eq] at h13
   have hb:ks.length<=bnd:=Nat.le_trans h13.2 (by decide)
   have ec:zG (zw 0) Zc (zc 2 (S_e n 0) (z9 (vE 0) (z9 (vE 1) zg))) 1 [1] [.vl (.tup ks), .vl (.int d)] ks= .ok (ks.map fun c=>T.bl (k c)):=
    zX (h:=fun c=>T.bl (k c)) ks hb fun c hc=>by
     show zc 2 (S_e n 0) (z9 (vE 0) (z9 (vE 1) zg)) [.vl c, .vl (.int d)]=_
     rw [Z3,v0,v1,bOk,bOk]
     exact H0 c (ja (jg ht) hc)
   simp only [if_true,Zn,zI,ZP,v0,bOk,wE,ec]
   show (match U0 (ks.map fun c=>T.bl (k c)) with | some k=>R.ok (T.bl k) | none=> .bad)=_
   rw [wg]
   rfl
 | _=>rfl
theorem Ui:∀ (d n:Nat),2*d+1<=n->∀ t,sOk t->S_e n 0 [t, .int d]= .ok (.bl (isK d t))
 | 0,n+1,_,t,_=>rfl
 | d+1,n+2,h,t,ht=>xV (n:=n+1) (fun u hu=>Ui d (n+1) (by omega) u hu) (fun u hu=>kZ (fun v hv=>Ui d n (by omega) v hv) u hu) t ht
theorem yV (t:T) (ht:sOk t):f_2 [t]= .ok (.bl (isK 3 t)):=by
 have e:f_2 [t]=zo (b_2 (f_e 20) [.vl t]):=rfl
 rw [e,b_2]
 simp only [Z7,j6,j2,jt,Z3,v0,Zg,bOk]
 exact Ui 3 20 (by omega) t ht
def inR (lo hi:Int):T->Bool
 | .int i=>decide (lo<=i) && decide (i<=hi)
 | _=>false
theorem jo (t:T) (lo hi:Int):f_p [t, .int lo, .int hi]= .ok (.bl (inR lo hi t)):=by
 cases t with
 | int i=>
  show zo ((if decide (lo<=i)=true then R.ok (T.bl (decide (i<=hi))) else .ok (.bl false)).s fun t=> .rt t)=R.ok (T.bl (decide (lo<=i) && decide (i<=hi)))
  cases decide (lo<=i) <;> rfl
 | _=>rfl
theorem qx (xs:List T):eqC (.lst xs) (.lst [])= .ok xs.isEmpty:=by cases xs <;> rfl
theorem vo (c:Nat) (ρ:En):Jv (chT leC leC (cE (.str "a")) (vB 0) (cE (.str "z"))) ((Sl.vl (.str ⟨#[c]⟩)) :: ρ)= .ok (!Zf c):=by
 have e1:leC (.str "a") (.str ⟨#[c]⟩)= .ok (decide (97<=c)):=by
  show R.ok (!decide ([c] < [97]))=_
  rw [UU]
  by_cases h:c < 97
  ·rw [decide_eq_true h,decide_eq_false (by omega)]; rfl
  ·rw [decide_eq_false h,decide_eq_true (by omega)]; rfl
 have e2:leC (.str ⟨#[c]⟩) (.str "z")= .ok (decide (c<=122)):=by
  show R.ok (!decide ([122] < [c]))=_
  rw [UU]
  by_cases h:122 < c
  ·rw [decide_eq_true h,decide_eq_false (by omega)]; rfl
  ·rw [decide_eq_false h,decide_eq_true (by omega)]; rfl
 show ((leC (.str "a") (.str ⟨#[c]⟩)).bind (fun k=>if k=true then leC (.str ⟨#[c]⟩) (.str "z") else R.ok false)).bind (fun x=>R.ok (!x))=_
 rw [e1,e2]
 unfold Zf
 show (if decide (97<=c)=true then R.ok (decide (c<=122)) else R.ok false).bind (fun x=>R.ok (!x))=_
 cases decide (97<=c) <;> rfl
theorem jT {α:Type} (p:α->Bool):∀ xs:List α,(xs.filter fun x=> !p x).isEmpty=xs.all p
 | []=>rfl
 | x :: xs=>by
  have ih:=jT p xs
  rw [List.all_cons]
  cases hp:p x with
  | true=>rw [List.filter_cons_of_neg (by simp [hp]),ih]; rfl
  | false=>rw [List.filter_cons_of_pos (by simp [hp])]; rfl
def xW:T->Bool
 | .str y=> !Zf (y.cps.toList.headD 0)
 | _=>false
theorem Uj (t:T) (ht:xT t):f_t [t]= .ok (.bl (Zp t)):=by
 cases t with
 | str x=>
  have hx:x.length<=bnd:=ht
  have e0:Z0 (.str x)= .ok (.int x.length):=if_pos hx
  have hs:(je x).length<=bnd:=by unfold je; rw [List.length_map,Array.length_toList]; exact hx
  have ec:zG (zw 0) (Jv (chT leC leC (cE (.str "a")) (vB 0) (cE (.str "z")))) (vE 0) 1 [] [.vl (.str x)] (je x)= .ok (((je x).filter xW).map id):=by
   unfold zG
   rw [if_pos hs]
   have:=Zk (ft:=Jv (chT leC leC (cE (.str "a")) (vB 0) (cE (.str "z")))) (fe:=vE 0) (p:=xW) (h:=id) (je x) (wY 1 [] [.vl (.str x)]) fun t ht=>by
    unfold je at ht
    obtain ⟨c,_,rfl⟩:=List.mem_map.mp ht
    exact ⟨vo c [],fun _=>rfl⟩
   rw [this]
   rfl
  have em:(((je x).filter xW).map id).isEmpty=x.cps.toList.all Zf:=by
   rw [List.map_id]
   unfold je
   rw [List.filter_map,List.isEmpty_map]
   exact jT Zf x.cps.toList
  have e:f_t [.str x]=zo (b_t [.vl (.str x)]):=rfl
  rw [e,b_t]
  simp only [Z7,j6,j2,jt,JA,Zn,w0,v0,bOk,vn,Zg,e0,Ug,jB,zI,ZP,wE,ec]
  have c1:decide ((1:Int)<=(x.length:Int))=decide (1<=x.length):=by
   by_cases h:1<=x.length
   ·rw [decide_eq_true h]; exact decide_eq_true (by omega)
   ·rw [decide_eq_false h]; exact decide_eq_false (by omega)
  have c2:decide ((x.length:Int)<=(3:Int))=decide (x.length<=3):=by
   by_cases h:x.length<=3
   ·rw [decide_eq_true h]; exact decide_eq_true (by omega)
   ·rw [decide_eq_false h]; exact decide_eq_false (by omega)
  rw [c1,c2]
  have el:ZD zg [Sl.vl (T.str x)]= .ok (.lst []):=rfl
  rw [el]
  simp only [bOk,qx,em]
  show Xz (R.ok (T.bl true)) (Xz (if decide (1<=x.length)=true then R.ok (T.bl (decide (x.length<=3))) else R.ok (T.bl false)) (R.ok (T.bl (x.cps.toList.all Zf))))=R.ok (T.bl (decide (1<=x.length) && decide (x.length<=3) && x.cps.toList.all Zf))
  cases decide (1<=x.length) <;> cases decide (x.length<=3) <;> rfl
 | _=>rfl
theorem uw:∀ (ws acc:List Str),(dd acc ws).length<=acc.length+ws.length
 | [],acc=>Nat.le_refl _
 | w :: ws,acc=>by
  unfold dd
  have:=uw ws (if w∈acc then acc else acc++[w])
  by_cases h:w∈acc
  ·rw [if_pos h] at this ⊢; simp only [List.length_cons]; omega
  ·rw [if_neg h] at this ⊢; rw [List.length_append,List.length_singleton] at this; simp only [List.length_cons]; omega
theorem wJ:∀ (ws acc:List Str),((dd acc ws).length=acc.length+ws.length)↔∀ (k:Nat) (w:Str),ws[k]? =some w->w ∉ acc++ws.take k
 | [],acc=>by simp [dd]
 | w :: ws,acc=>by
  unfold dd
  by_cases h:w∈acc
  ·rw [if_pos h]
   have:=uw ws acc
   constructor
   ·intro e; simp only [List.length_cons] at e; omega
   ·intro H; exact absurd (List.mem_append_left _ h) (H 0 w rfl)
  ·rw [if_neg h]
   have ih:=wJ ws (acc++[w])
   rw [List.length_append,List.length_singleton] at ih
   rw [show acc.length+(w :: ws).length=acc.length+1+ws.length by simp only [List.length_cons]; omega,ih]
   constructor
   ·intro H k v e
    cases k with
    | zero=>simp at e; subst e; simpa using h
    | succ k=>
     have:=H k v (by simpa using e)
     simpa [List.append_assoc] using this
   ·intro H k v e
    have:=H (k+1) v (by simpa using e)
    simpa [List.append_assoc] using this
theorem cut1 {h:T} {r:List T}:slT (.tup (h :: r)) (some 1) none= .ok (.tup r):=by
 show R.ok (T.tup (cut (h :: r) (some 1) none))=_
 have:cut (h :: r) (some 1) none=r:=by
  unfold cut
  rw [show HT.sIx (h :: r).length 0 (some (1:Int))=1 from by rw [show (1:Int)=((1:Nat):Int) from rfl,HT.sIx_nat]; simp only [List.length_cons]; omega,HT.sIx_none]
  simp
 rw [this]
theorem neS (h:T) (w:Str):neC h (.str w)= .ok (!isS w h):=by cases h <;> rfl
theorem neI (i j:Int):neC (.int i) (.int j)= .ok (!(i == j)):=rfl
theorem ltI (i j:Int):ltC (.int i) (.int j)= .ok (decide (i < j)):=rfl
theorem v2 {t:T} {a b:Sl} {ρ:En}:vE 2 (a :: b :: .vl t :: ρ)= .ok t:=rfl
theorem v3 {t:T} {a b c:Sl} {ρ:En}:vE 3 (a :: b :: c :: .vl t :: ρ)= .ok t:=rfl
theorem w2 {t:T} {a b:Sl} {ρ:En}:vB 2 (a :: b :: .vl t :: ρ)= .ok t:=rfl
theorem w3 {t:T} {a b c:Sl} {ρ:En}:vB 3 (a :: b :: c :: .vl t :: ρ)= .ok t:=rfl
theorem w5 {t:T} {a b c d e:Sl} {ρ:En}:vB 5 (a :: b :: c :: d :: e :: .vl t :: ρ)= .ok t:=rfl
theorem v4 {t:T} {a b c d:Sl} {ρ:En}:vE 4 (a :: b :: c :: d :: .vl t :: ρ)= .ok t:=rfl
theorem JP (f g:En->R Bool) (ρ:En):wa f g ρ=(f ρ).bind fun x=>if x=true then g ρ else .ok false:=rfl
theorem Vj {g g' :T->T->R Bool} {fa fb fc:En->R T} {ρ:En}:chT g g' fa fb fc ρ=(fa ρ).bind fun x=>(fb ρ).bind fun y=>(g x y).bind fun k=>if k=true then (fc ρ).bind fun z=>g' y z else .ok false:=rfl
theorem JQ (t:T):Jc "tuple" t= .ok (.bl (match t with | .tup _=>true | _=>false)):=by cases t <;> rfl
theorem xX {n d:Nat} {k:T->Bool} (H0:∀ t,sOk t->S_b n 0 [t, .int d]= .ok (.bl (k t))) {ks:List T} (hk:∀ u∈ks,sOk u) (hl:ks.length<=3) {x y z:Sl} {L:Int} (hL:L - 1=(d:Int)) {ρ:En}:
  zG (zw 0) (Jv (jb (zc 2 (S_b n 0) (z9 (vE 0) (z9 (ze jK (vE 1) (cE (.int 1))) zg))))) (vE 0) 1 [1] (x :: .vl (.int L) :: ρ) ks= .ok (ks.filter fun c=> !k c):=by
 unfold zG
 rw [if_pos (Nat.le_trans hl (by decide))]
 have:=Zk (ft:=Jv (jb (zc 2 (S_b n 0) (z9 (vE 0) (z9 (ze jK (vE 1) (cE (.int 1))) zg))))) (fe:=vE 0) (p:=fun c=> !k c) (h:=id) ks (wY 1 [1] (x :: .vl (.int L) :: ρ)) fun c hc=>by
  refine ⟨?_,fun _=>rfl⟩
  show Jv (jb (zc 2 (S_b n 0) (z9 (vE 0) (z9 (ze jK (vE 1) (cE (.int 1))) zg)))) [.vl c, .vl (.int L)]=_
  simp only [JW,jS,Z3,v0,v1,bOk,zl,Zg,jn,hL,H0 c (hk c hc),ZO]
 rw [this,List.map_id]
 rfl
def U2:T->Bool
 | .tup [_,_]=>true
 | _=>false
def Uk:T->T
 | .tup (w :: _)=>w
 | t=>t
theorem G5 {cs:List T} (hl:cs.length<=4) {ρ:En}:zG (zw 0) (wa (jb (ap1 (Jc "tuple") (vB 0))) (zx eqC (ap1 Z0 (vB 0)) (cE (.int 2)))) (vE 0) 1 [] ρ cs= .ok (cs.filter U2):=by
 unfold zG
 rw [if_pos (Nat.le_trans hl (by decide))]
 have:=Zk (ft:=wa (jb (ap1 (Jc "tuple") (vB 0))) (zx eqC (ap1 Z0 (vB 0)) (cE (.int 2)))) (fe:=vE 0) (p:=U2) (h:=id) cs (wY 1 [] ρ) fun c _=>by
  refine ⟨?_,fun _=>rfl⟩
  show wa (jb (ap1 (Jc "tuple") (vB 0))) (zx eqC (ap1 Z0 (vB 0)) (cE (.int 2))) [.vl c]=_
  cases c with
  | tup xs=>
   match xs with
   | []=>rfl
   | [_]=>rfl
   | [_,_]=>rfl
   | _ :: _ :: _ :: xs=>
    simp only [JP,jS,Zn,w0,bOk,JQ,ZO,if_true,zL,ZU,Zg,eqI,U2]
    congr 1
    all_goals (rw [beq_eq_false_iff_ne]; simp only [List.length_cons]; omega)
  | _=>rfl
 rw [this,List.map_id]
 rfl
theorem We (c:T):zq c=(U2 c && (match c with | .tup [w,n]=>Zp w && inR 1 20 n | _=>false)):=by
 cases c with
 | tup xs=>
  match xs with
  | []=>rfl
  | [_]=>rfl
  | _ :: _ :: _ :: _=>simp [zq,U2]
  | [w,n]=>
   cases n with
   | int i=>
    show (Zp w && decide (1<=i) && decide (i<=20))=(true && (Zp w && (decide (1<=i) && decide (i<=20))))
    rw [Bool.true_and,Bool.and_assoc]
   | _=>
    show false=(true && (Zp w && false))
    cases Zp w <;> rfl
 | _=>rfl
theorem G6 {cs:List T} (hs:∀ c∈cs,sOk c) (hl:cs.length<=4) {ρ:En}:
  zG (zw 0) (wa (jb (zc 1 f_t (z9 (ze ixT (vE 0) (cE (.int 0))) zg))) (jb (zc 3 f_p (z9 (ze ixT (vE 0) (cE (.int 1))) (z9 (cE (.int 1)) (z9 (cE (.int 20)) zg)))))) (ze ixT (vE 0) (cE (.int 0))) 1 [] ρ (cs.filter U2)= .ok ((cs.filter zq).map Uk):=by
 unfold zG
 have hl' :(cs.filter U2).length<=bnd:=Nat.le_trans (List.length_filter_le _ _) (Nat.le_trans hl (by decide))
 rw [if_pos hl']
 have:=Zk (ft:=wa (jb (zc 1 f_t (z9 (ze ixT (vE 0) (cE (.int 0))) zg))) (jb (zc 3 f_p (z9 (ze ixT (vE 0) (cE (.int 1))) (z9 (cE (.int 1)) (z9 (cE (.int 20)) zg)))))) (fe:=ze ixT (vE 0) (cE (.int 0))) (p:=zq) (h:=Uk) (cs.filter U2) (wY 1 [] ρ) fun c hc=>by
  obtain ⟨hc1,hc2⟩:=List.mem_filter.mp hc
  have hso:=hs c hc1
  unfold U2 at hc2
  split at hc2
  ·rename_i w n
   have hw:sOk w:=ja (jg hso) (by simp)
   refine ⟨?_,fun _=> ?_⟩
   ·show wa (jb (zc 1 f_t (z9 (ze ixT (vE 0) (cE (.int 0))) zg))) (jb (zc 3 f_p (z9 (ze ixT (vE 0) (cE (.int 1))) (z9 (cE (.int 1)) (z9 (cE (.int 20)) zg))))) [.vl (.tup [w,n])]=_
    simp only [JP,jS,j1,Zq,zl,v0,Zg,bOk,at0,at1,Uj w hw.str,jo,ZO,We]
    show (if Zp w=true then R.ok (inR 1 20 n) else R.ok false)=R.ok (true && (Zp w && inR 1 20 n))
    cases Zp w <;> rfl
   ·show ze ixT (vE 0) (cE (.int 0)) [.vl (.tup [w,n])]=_
    simp only [zl,v0,Zg,bOk,at0]
    rfl
  ·cases hc2
 rw [this,List.filter_filter]
 have:(cs.filter fun a=>zq a && U2 a)=cs.filter zq:=by
  refine List.filter_congr fun c _=> ?_
  rw [We]
  cases U2 c <;> simp
 rw [this]
 rfl
theorem WB (w:Str):∀ ws:List Str,uk (fun y=>eqF 30 y (.str w)) (ws.map T.str)=some (decide (w∈ws))
 | []=>rfl
 | x :: ws=>by
  have ih:=WB w ws
  show (match uk (fun y=>eqF 30 y (.str w)) (ws.map T.str) with | none=>none | some c=>some ((x == w) || c))=_
  rw [ih]
  show some ((x == w) || decide (w∈ws))=_
  congr 1
  by_cases h:x=w
  ·subst h; simp
  ·have h' :¬ w=x:=fun z=>h z.symm
   simp [h,h']
theorem vp {xs:List T} {k:Nat}:slT (.lst xs) none (some (k:Int))= .ok (.lst (xs.take k)):=by
 show R.ok (T.lst (cut xs none (some (k:Int))))=_
 have:cut xs none (some (k:Int))=xs.take k:=by
  unfold cut
  rw [HT.sIx_none,HT.sIx_nat]
  simp only [List.drop_zero,Nat.sub_zero]
  rw [List.take_eq_take_iff]
  omega
 rw [this]
theorem UV {xs:List T} {k:Nat} {t:T} (h:xs[k]? =some t):ixT (.lst xs) (.int k)= .ok t:=by
 show atT xs k=_
 unfold atT
 rw [jp h]
theorem G7 {ws:List Str} (hl:ws.length<=4) {a b c d e:Sl}:∃ r,zG (zw 0) (zx inC (ze ixT (vE 1) (vE 0)) (slE (vE 1) noO (zU (vE 0)))) (vE 0) 1 [5] [a,b,c,d,e, .vl (.lst (ws.map T.str))] (rng 0 ws.length)= .ok r/\
  (r.isEmpty=true↔∀ (k:Nat) (w:Str),ws[k]? =some w->w ∉ ws.take k):=by
 have hl' :(rng 0 ws.length).length<=bnd:=by unfold rng; rw [List.length_map,List.length_range]; exact Nat.le_trans hl (by decide)
 let p:T->Bool:=fun t=>match t with
  | .int i=>match ws[i.toNat]? with | some w=>decide (w∈ws.take i.toNat) | none=>false
  | _=>false
 have key:=Zk (ft:=zx inC (ze ixT (vE 1) (vE 0)) (slE (vE 1) noO (zU (vE 0)))) (fe:=vE 0) (p:=p) (h:=id) (rng 0 ws.length) (wY 1 [5] [a,b,c,d,e, .vl (.lst (ws.map T.str))]) fun t ht=>by
  unfold rng at ht
  obtain ⟨k,hk,rfl⟩:=List.mem_map.mp ht
  have hk' :k < ws.length:=List.mem_range.mp hk
  refine ⟨?_,fun _=>rfl⟩
  show zx inC (ze ixT (vE 1) (vE 0)) (slE (vE 1) noO (zU (vE 0))) [.vl (.int (0+(k:Int))), .vl (.lst (ws.map T.str))]=_
  rw [show (0:Int)+(k:Int)=(k:Int) by omega]
  have e1:ixT (.lst (ws.map T.str)) (.int k)= .ok (.str ws[k]):=UV (by rw [List.getElem?_map,List.getElem?_eq_getElem hk']; rfl)
  have e2:slE (vE 1) noO (zU (vE 0)) [.vl (.int (k:Int)), .vl (.lst (ws.map T.str))]=slT (.lst (ws.map T.str)) none (some (k:Int)):=rfl
  simp only [zL,zl,v1,v0,bOk,e1,e2,vp]
  show inC (.str ws[k]) (.lst ((ws.map T.str).take k))=R.ok (p (.int (k:Int)))
  have e3:inC (.str ws[k]) (.lst ((ws.map T.str).take k))= .ok (decide (ws[k]∈ws.take k)):=by
   show (match uk (fun y=>eqF 30 y (.str ws[k])) ((ws.map T.str).take k) with | some b=>R.ok b | none=> .bad)=_
   rw [← List.map_take,WB]
  rw [e3]
  show _=R.ok (match ws[((k:Int)).toNat]? with | some w=>decide (w∈ws.take ((k:Int)).toNat) | none=>false)
  rw [Int.toNat_natCast,List.getElem?_eq_getElem hk']
 refine ⟨((rng 0 ws.length).filter p).map id, ?_, ?_⟩
 ·unfold zG
  rw [if_pos hl',key]
  rfl
 ·rw [List.map_id,List.isEmpty_iff,List.filter_eq_nil_iff]
  constructor
  ·intro H k w e
   have hk:k < ws.length:=(List.getElem?_eq_some_iff.mp e).1
   have:=H (.int (0+(k:Int))) (List.mem_map.mpr ⟨k,List.mem_range.mpr hk,rfl⟩)
   rw [show (0:Int)+(k:Int)=(k:Int) by omega] at this
   have q:p (.int (k:Int))=decide (w∈ws.take k):=by
    show (match ws[((k:Int)).toNat]? with | some w=>decide (w∈ws.take ((k:Int)).toNat) | none=>false)=_
    rw [Int.toNat_natCast,e]
   rw [q] at this
   simpa using this
  ·intro H t ht
   unfold rng at ht
   obtain ⟨k,hk,rfl⟩:=List.mem_map.mp ht
   have hk' :k < ws.length:=List.mem_range.mp hk
   rw [show (0:Int)+(k:Int)=(k:Int) by omega]
   have q:p (.int (k:Int))=decide (ws[k]∈ws.take k):=by
    show (match ws[((k:Int)).toNat]? with | some w=>decide (w∈ws.take ((k:Int)).toNat) | none=>false)=_
    rw [Int.toNat_natCast,List.getElem?_eq_getElem hk']
   rw [q]
   simpa using H k ws[k] (List.getElem?_eq_getElem hk')
theorem G8 {cs:List T} (h:cs.all zq=true):(cs.filter zq).map Uk=(cs.map Z2).map T.str:=by
 rw [List.filter_eq_self.mpr (fun c hc=>List.all_eq_true.mp h c hc),List.map_map]
 refine List.map_congr_left fun c hc=> ?_
 obtain ⟨w,n,rfl⟩:=JX (List.all_eq_true.mp h c hc)
 rfl
theorem Jm {α:Type} (p:α->Bool):∀ xs:List α,((xs.filter p).length=xs.length)↔xs.all p=true
 | []=>by simp
 | x :: xs=>by
  have ih:=Jm p xs
  have hl:=List.length_filter_le p xs
  cases hp:p x with
  | true=>rw [List.filter_cons_of_pos hp,List.all_cons,hp,Bool.true_and,← ih]; simp
  | false=>
   rw [List.filter_cons_of_neg (by rw [hp]; exact Bool.false_ne_true),List.all_cons,hp,Bool.false_and]
   simp only [List.length_cons]
   constructor
   ·intro z; omega
   ·intro z; cases z
theorem ux (lo hi:Int) (a b:T):(if inR lo hi a=true then f_p [b,a, .int hi] else R.ok (.bl false))= .ok (.bl (jR lo hi a b)):=by
 cases a with
 | int i=>
  rw [jo]
  show (if (decide (lo<=i) && decide (i<=hi))=true then R.ok (T.bl (inR i hi b)) else R.ok (T.bl false))=_
  cases b with
  | int j=>
   show (if (decide (lo<=i) && decide (i<=hi))=true then R.ok (T.bl (decide (i<=j) && decide (j<=hi))) else R.ok (T.bl false))=R.ok (T.bl (decide (lo<=i) && decide (i<=j) && decide (j<=hi)))
   by_cases h1:lo<=i
   ·by_cases h2:i<=hi
    ·rw [decide_eq_true h1,decide_eq_true h2]; rfl
    ·rw [decide_eq_true h1,decide_eq_false h2]
     show R.ok (T.bl false)=R.ok (T.bl (decide (i<=j) && decide (j<=hi)))
     by_cases h3:i<=j
     ·rw [decide_eq_true h3,decide_eq_false (show ¬ j<=hi by omega)]; rfl
     ·rw [decide_eq_false h3]; rfl
   ·rw [decide_eq_false h1]; rfl
  | _=>
   show (if (decide (lo<=i) && decide (i<=hi))=true then R.ok (T.bl false) else R.ok (T.bl false))=R.ok (T.bl false)
   cases (decide (lo<=i) && decide (i<=hi)) <;> rfl
 | _=>cases b <;> rfl
theorem xY {xs:List T} (h:xs.length<=4) {a b c d e:Sl}:Zd (ap1 Z0 (vB 5)) [a,b,c,d,e, .vl (.lst xs)]= .ok (rng 0 xs.length):=by
 have e1:Zd (ap1 Z0 (vB 5)) [a,b,c,d,e, .vl (.lst xs)]=(R.ok (T.int (xs.length:Int))).bind fun t=>match t with | .int j=>if -1000000 < j/\j < 1000000 then .ok (rng 0 j.toNat) else .bad | _=> .bad:=rfl
 rw [e1,bOk]
 dsimp only
 rw [if_pos ⟨by omega,by omega⟩,Int.toNat_natCast]
theorem WC {c:T} (hc:sOk c) {a b d e f:Sl}:
  zo (match (((Jc "tuple" c).bind tru).bind fun x=>R.ok (!x)).bind (fun x=>if x=true then R.ok true else ((Z0 c).bind fun y=>(leC (.int 1) y).bind fun k=>if k=true then leC y (.int 4) else R.ok false).bind fun x=>R.ok (!x)) with
   | .ok k=>if k=true then RS.rt (T.bl false) else (zN (Jo (w9 eqC (ap1 Z0 (vB 5)) (ap1 Z0 (ze ixT (vE 3) (cE (.int 0))))) (w9 eqC (zQ (Zd (ap1 Z0 (vB 5))) (zw 0) (zx inC (ze ixT (vE 1) (vE 0)) (slE (vE 1) (noO) (zU (vE 0)))) (vE 0) 1 [5]) (ZD (zg)))) [a,b,d, .vl (.tup [c]),f, .vl (.lst (match c with | .tup cs=>(cs.filter zq).map Uk | _=>[]))])
   | .ex c=> .ex c
   | .bad=> .bad)= .ok (.bl (ut c)):=by
 cases c with
 | tup cs=>
  have e1:(leC (.int 1) (.int (cs.length:Int))).bind (fun k=>if k=true then leC (.int (cs.length:Int)) (.int 4) else R.ok false)= .ok (decide (1<=cs.length) && decide (cs.length<=4)):=by
   show (if decide ((1:Int)<=(cs.length:Int))=true then R.ok (decide ((cs.length:Int)<=4)) else R.ok false)=_
   by_cases h:1<=cs.length
   ·rw [decide_eq_true h,decide_eq_true (show (1:Int)<=(cs.length:Int) by omega)]
    show R.ok (decide ((cs.length:Int)<=4))=R.ok (decide (cs.length<=4))
    by_cases h4:cs.length<=4
    ·rw [decide_eq_true h4,decide_eq_true (show (cs.length:Int)<=4 by omega)]
    ·rw [decide_eq_false h4,decide_eq_false (show ¬ (cs.length:Int)<=4 by omega)]
   ·rw [decide_eq_false h,decide_eq_false (show ¬ (1:Int)<=(cs.length:Int) by omega)]; rfl
  simp only [JQ,bOk,ZO,Bool.not_true,Bool.false_eq_true,if_false,ZU,e1]
  show _=R.ok (T.bl (decide (1<=cs.length) && decide (cs.length<=4) && cs.all zq && decide ((dd [] (cs.map Z2)).length=cs.length)))
  cases h14:(decide (1<=cs.length) && decide (cs.length<=4)) with
  | false=>rfl
  | true=>
   rw [Bool.and_eq_true,decide_eq_true_eq,decide_eq_true_eq] at h14
   simp only [Bool.not_true,Bool.false_eq_true,if_false,Z7,j6,j2,JA,jB,Zn]
   have ef:frz [a,b,d, .vl (.tup [.tup cs]),f, .vl (.lst ((cs.filter zq).map Uk))]=[Wa a,Wa b,Wa d, .vl (.tup [.tup cs]),Wa f, .vl (.lst ((cs.filter zq).map Uk))]:=rfl
   rw [ef]
   simp only [w5,zl,v3,Zg,bOk,at0,yT,ZU,eqI,List.length_map,zI]
   rw [wI,ZI]
   by_cases hall:cs.all zq=true
   ·rw [decide_eq_true ((Jm zq cs).mpr hall),if_pos rfl,hall]
    have hw:(cs.map Z2).length<=4:=by rw [List.length_map]; exact h14.2
    obtain ⟨r,er,hr⟩:=G7 hw (a:=Wa a) (b:=Wa b) (c:=Wa d) (d:= .vl (.tup [.tup cs])) (e:=Wa f)
    rw [G8 hall]
    have ei:Zd (ap1 Z0 (vB 5)) [Wa a,Wa b,Wa d, .vl (.tup [.tup cs]),Wa f, .vl (.lst ((cs.map Z2).map T.str))]= .ok (rng 0 (cs.map Z2).length):=by
     rw [xY (by rw [List.length_map]; exact hw),List.length_map]
    rw [ei]
    simp only [bOk,er]
    have el:ZD zg [Wa a,Wa b,Wa d, .vl (.tup [.tup cs]),Wa f, .vl (.lst ((cs.map Z2).map T.str))]= .ok (.lst []):=rfl
    rw [el]
    rw [bOk,qx,bOk]
    rw [Bool.true_and,Bool.true_and]
    refine congrArg (fun z=>R.ok (T.bl z)) ?_
    have hdd:=wJ (cs.map Z2) []
    rw [List.length_nil,Nat.zero_add,List.length_map] at hdd
    simp only [List.nil_append] at hdd
    by_cases hq:(dd [] (cs.map Z2)).length=cs.length
    ·rw [decide_eq_true hq]
     exact hr.mpr (hdd.mp hq)
    ·rw [decide_eq_false hq]
     cases hre:r.isEmpty with
     | false=>rfl
     | true=>exact absurd (hdd.mpr (hr.mp hre)) hq
   ·have hn:¬ (cs.filter zq).length=cs.length:=fun z=>hall ((Jm zq cs).mp z)
    rw [decide_eq_false hn,if_neg Bool.false_ne_true]
    have:cs.all zq=false:=by simpa using hall
    rw [this]
    rfl
 | _=>rfl
theorem K0 {i j:Nat} {f f' :En->R T} {ρ:En}:KA i j (z9 f (z9 f' zg)) ρ=(f ρ).s fun x=>(f' ρ).s fun y=> .nx ((ρ.set i (.vl x)).set j (.vl y)):=by
 unfold KA z9 zg
 cases f ρ with
 | ok a=>cases f' ρ <;> rfl
 | ex c=>rfl
 | bad=>rfl
theorem JR {f:En->R T} {l h:En->R (Option Int)} {ρ:En}:slE f l h ρ=(f ρ).bind fun t=>(l ρ).bind fun lo=>(h ρ).bind fun hi=>slT t lo hi:=rfl
theorem Vk {i:Int} {ρ:En}:zU (cE (.int i)) ρ= .ok (some i):=rfl
theorem Ya {ρ:En}:noO ρ= .ok none:=rfl
theorem qy (t:T):Jc "str" t= .ok (.bl (match t with | .str _=>true | _=>false)):=by cases t <;> rfl
theorem btw {n m:Nat} {M:Int} (hM:M=(m:Int)):(if decide ((1:Int)<=(n:Int))=true then R.ok (decide ((n:Int)<=M)) else R.ok false)=R.ok (decide (1<=n) && decide (n<=m)):=by
 subst hM
 by_cases h:1<=n
 ·rw [decide_eq_true h,decide_eq_true (show (1:Int)<=(n:Int) by omega),if_pos rfl,Bool.true_and]
  by_cases h4:n<=m
  ·rw [decide_eq_true h4,decide_eq_true (show (n:Int)<=m by omega)]
  ·rw [decide_eq_false h4,decide_eq_false (show ¬ (n:Int)<=m by omega)]
 ·rw [decide_eq_false h,decide_eq_false (show ¬ (1:Int)<=(n:Int) by omega)]; rfl
set_option maxHeartbeats 1000000 in
theorem vq {n:Nat} {d:Nat} {k:T->Bool} (H0:∀ t,sOk t->S_b n 0 [t, .int d]= .ok (.bl (k t))) (t:T) (ht:sOk t):
  S_b (n+1) 0 [t, .int ((d+1:Nat):Int)]= .ok (.bl (WA k t)):=by
 have e:S_b (n+1) 0 [t, .int ((d+1:Nat):Int)]=zo (b_b f_p f_t (S_b n 0) [.vl t, .vl (.int ((d+1:Nat):Int)), .un, .un, .un, .un]):=rfl
 have hL:decide (((d+1:Nat):Int) < 1)=false:=decide_eq_false (by omega)
 have hL1:((d+1:Nat):Int) - 1=(d:Int):=by omega
 rw [e,b_b]
 simp only [zE,ZJ,Uh,JW,jS,zL,w0,w1,v0,Zg,bOk,Zn,JQ,ZO,zl]
 cases t with
 | tup xs=>
  match xs,ht with
  | [],_=>rfl
  | [h],_=>
   have:WA k (.tup [h])=false:=by
    unfold WA
    simp [JY,uu,Vh,uv]
   rw [this]
   rfl
  | h :: a :: r,ht=>
   have hs:=jg ht
   have hm:∀ u∈a :: r,sOk u:=fun u hu=>ja hs (List.mem_cons_of_mem _ hu)
   have z0:decide (((h :: a :: r).length:Int) < 2)=false:=decide_eq_false (by simp only [List.length_cons]; omega)
   simp only [Bool.not_true,Bool.false_eq_true,if_false,ZU,ltI,z0,bOk,at0,qy,ZO,hL]
   cases h with
   | str s=>
    simp only [Bool.not_true,Bool.false_eq_true,if_false,Za,bOk,hL,K0,zl,v0,Zg,at0,JR,Vk,Ya,cut1,nxS]
    have hset:(([Sl.vl (T.tup (T.str s :: a :: r)),Sl.vl (.int ((d+1:Nat):Int)), .un, .un, .un, .un]:En).set 2 (.vl (.str s))).set 3 (.vl (.tup (a :: r)))=[Sl.vl (T.tup (T.str s :: a :: r)),Sl.vl (.int ((d+1:Nat):Int)), .vl (.str s), .vl (.tup (a :: r)), .un, .un]:=rfl
    simp only [hset,w2,Zg,bOk,eqS,neS,Za]
    have l2:(((a :: r).length:Int) == 2)=decide ((a :: r).length=2):=wI (a :: r) 2
    have l1:(((a :: r).length:Int) == 1)=decide ((a :: r).length=1):=wI (a :: r) 1
    have l3:(((a :: r).length:Int) == 3)=decide ((a :: r).length=3):=wI (a :: r) 3
    show _=R.ok (T.bl (if isS "whole" (.str s)=true then JY (a :: r) else if isS "pick" (.str s)=true then uu (a :: r) else if isS "row" (.str s)=true then Vh k (a :: r) else if isS "many" (.str s)=true then uv k (a :: r) else false))
    cases hw:isS "whole" (.str s) with
    | true=>
     simp only [if_true,Z7,j2,JO,jt,JA,jB,Zn,w3,v3,bOk,ZU,Zg,eqI,l2,ZI,Zq,zl,Vi]
     match r,hm with
     | [],_=>rfl
     | _ :: _ :: _,_=>simp [JY,Za,zo]
     | [b],_=>
      simp only [at0,at1,bOk,jo,ZI]
      rw [ux]
      rfl
    | false=>
     simp only [Bool.false_eq_true,if_false,w2,w3,v3,bOk,Za,ZU,neI,l1]
     cases hp:isS "pick" (.str s) with
     | true=>
      simp only [if_true]
      match r,hm with
      | _ :: _,_=>simp [uu,Za,zo,Zg]; rfl
      | [],hm=>
       simp only [List.length_cons,List.length_nil,decide_true,Bool.not_true,Bool.false_eq_true,if_false,at0,bOk]
       cases a with
       | tup cs=>
        have hc:sOk (.tup cs):=hm _ (by simp)
        have P:=WC hc (a:= .vl (.tup [.str s, .tup cs])) (b:= .vl (.int ((d+1:Nat):Int))) (d:= .vl (.str s)) (e:= .un) (f:= .vl (.lst (cs.filter U2)))
        simp only [JQ,bOk,ZO,Bool.not_true,Bool.false_eq_true,if_false,Vj,Zn,zl,v3,Zg,at0,ZU,Ug,btw (m:=4) (M:=4) rfl] at P ⊢
        cases h14:(decide (1<=cs.length) && decide (cs.length<=4)) with
        | false=>
         rw [h14] at P
         exact P
        | true=>
         rw [h14] at P
         have h4:cs.length<=4:=by
          rw [Bool.and_eq_true,decide_eq_true_eq,decide_eq_true_eq] at h14
          exact h14.2
         simp only [Bool.not_true,Bool.false_eq_true,if_false,Za] at P ⊢
         have s4:∀ (x0 x1 x2:Sl),zJ 4 (zQ (ZW (ze ixT (vE 3) (cE (T.int 0)))) (zw 0) (wa (jb (ap1 (Jc "tuple") (vB 0))) (zx eqC (ap1 Z0 (vB 0)) (cE (T.int 2)))) (vE 0) 1 []) [x0,x1,x2, .vl (.tup [.tup cs]), .un, .un]= .nx [x0,x1,x2, .vl (.tup [.tup cs]), .vl (.lst (cs.filter U2)), .un]:=by
          intro x0 x1 x2
          simp only [j3,zI,ZP,zl,v3,Zg,bOk,at0]
          show ((zG (zw 0) _ _ 1 [] _ cs).bind fun vs=>R.ok (T.lst vs)).s _=_
          rw [G5 h4]
          rfl
         have s5:∀ (x0 x1 x2:Sl),zJ 5 (zQ (ZW (vE 4)) (zw 0) (wa (jb (zc 1 f_t (z9 (ze ixT (vE 0) (cE (T.int 0))) zg))) (jb (zc 3 f_p (z9 (ze ixT (vE 0) (cE (T.int 1))) (z9 (cE (T.int 1)) (z9 (cE (T.int 20)) zg)))))) (ze ixT (vE 0) (cE (T.int 0))) 1 []) [x0,x1,x2, .vl (.tup [.tup cs]), .vl (.lst (cs.filter U2)), .un]= .nx [x0,x1,x2, .vl (.tup [.tup cs]), .vl (.lst (cs.filter U2)), .vl (.lst ((cs.filter zq).map Uk))]:=by
          intro x0 x1 x2
          simp only [j3,zI,ZP,v4,bOk]
          show ((zG (zw 0) _ _ 1 [] _ (cs.filter U2)).bind fun vs=>R.ok (T.lst vs)).s _=_
          rw [G6 (fun c hc' =>ja (jg hc) hc') h4]
          rfl
         simp only [s4,s5]
         revert P
         simp only [Z7]
         generalize Jo _ _ _=z
         intro P
         cases z with
         | ok t=>exact P
         | ex c=>exact P
         | bad=>exact P
       | _=>rfl
     | false=>
      simp only [Bool.false_eq_true,if_false,w2,w3,v3,bOk,Za,ZU,neI,l1]
      cases hr:isS "row" (.str s) with
      | true=>
       simp only [if_true]
       match r,hm with
       | _ :: _,_=>simp [Vh,Za,zo,Zg]; rfl
       | [],hm=>
        simp only [List.length_cons,List.length_nil,decide_true,Bool.not_true,Bool.false_eq_true,if_false,at0,bOk]
        cases a with
        | tup cs=>
         have hc:sOk (.tup cs):=hm _ (by simp)
         simp only [JQ,bOk,ZO,Bool.not_true,Bool.false_eq_true,if_false,Vj,Zn,zl,v3,Zg,at0,ZU,Ug,btw (m:=3) (M:=3) rfl]
         show _=R.ok (T.bl (decide (1<=cs.length) && decide (cs.length<=3) && cs.all k))
         cases h14:(decide (1<=cs.length) && decide (cs.length<=3)) with
         | false=>rfl
         | true=>
          have h4:cs.length<=3:=by
           rw [Bool.and_eq_true,decide_eq_true_eq,decide_eq_true_eq] at h14
           exact h14.2
          simp only [Bool.not_true,Bool.false_eq_true,if_false,Za,Z7,j2,JO,jt,jB,zI,ZP,zl,v3,Zg,bOk,at0,Bool.true_and]
          have ia:wE (.tup cs)= .ok cs:=rfl
          simp only [ia,bOk,xX H0 (fun u hu=>ja (jg hc) hu) h4 (x:= .vl (.tup [.str s, .tup cs])) (y:= .un) (z:= .un) hL1]
          have el:∀ ρ,ZD zg ρ= .ok (.lst []):=fun _=>rfl
          simp only [el,bOk,qx,jT,Za,zo]
        | _=>rfl
      | false=>
       simp only [Bool.false_eq_true,if_false,w2,w3,v3,bOk,Za,ZU,neI,l3]
       cases hy:isS "many" (.str s) with
       | true=>
        simp only [Bool.not_true,Bool.false_eq_true,if_false,bOk]
        match r,hm with
        | [],_=>rfl
        | [_],_=>rfl
        | _ :: _ :: _ :: _,_=>simp [uv,Za,zo,Zg]; rfl
        | [b,c],hm=>
         simp only [Zq,Z3,zl,v3,Zg,bOk,at0,at1,at2,jo,ZO]
         have S:=ux 0 3 b c
         show _=R.ok (T.bl (jR 0 3 b c && k a))
         cases hb:inR 0 3 b with
         | false=>
          rw [hb] at S
          injection S with S
          injection S with S
          rw [← S]
          rfl
         | true=>
          rw [hb,if_pos rfl] at S
          simp only [S,bOk,ZO]
          cases jR 0 3 b c with
          | false=>rfl
          | true=>
           have hk:=H0 a (hm a (by simp))
           simp only [Z7,j2,JO,jt,v1,v3,jn,bOk,at0,hL1,hk,Bool.not_true,Bool.false_eq_true,if_false,Za,zo,List.length_cons,List.length_nil,decide_true,Bool.true_and,Z3,zl,Zg]
       | false=>rfl
   | _=>rfl
 | _=>rfl
theorem qz {n:Nat} (t:T):S_b (n+1) 0 [t, .int 0]= .ok (.bl false):=by
 have e:S_b (n+1) 0 [t, .int 0]=zo (b_b f_p f_t (S_b n 0) [.vl t, .vl (.int 0), .un, .un, .un, .un]):=rfl
 rw [e,b_b]
 simp only [zE,ZJ,Uh,JW,jS,zL,w0,w1,v0,Zg,bOk,Zn,JQ,ZO,zl]
 cases t with
 | tup xs=>
  match xs with
  | []=>rfl
  | [h]=>rfl
  | h :: a :: r=>
   have z0:decide (((h :: a :: r).length:Int) < 2)=false:=decide_eq_false (by simp only [List.length_cons]; omega)
   have hL:decide ((0:Int) < 1)=true:=rfl
   simp only [Bool.not_true,Bool.false_eq_true,if_false,ZU,ltI,z0,bOk,at0,qy,ZO,hL]
   cases h <;> rfl
 | _=>rfl
theorem wK:∀ (d n:Nat),d+1<=n->∀ t,sOk t->S_b n 0 [t, .int d]= .ok (.bl (isK d t))
 | 0,n+1,_,t,_=>qz t
 | d+1,n+1,h,t,ht=>vq (fun t ht=>wK d n (by omega) t ht) t ht
theorem wZ (t:T) (ht:sOk t):f_b 12 [t, .int 3]= .ok (.bl (isK 3 t)):=wK 3 12 (by omega) t ht
theorem gtI (i j:Int):gtC (.int i) (.int j)= .ok (decide (i > j)):=rfl
theorem Zl (i j:Int):zt (.int i) (.int j)= .ok (.int (i+j)):=rfl
theorem K1 (p:Int) (h0:0<=p) (h1:p < 26):ixT (.str "abcdefghijklmnopqrstuvwxyz") (.int p)= .ok (.str ⟨#[97+p.toNat]⟩):=by
 have h:p=0\/p=1\/p=2\/p=3\/p=4\/p=5\/p=6\/p=7\/p=8\/p=9\/p=10\/p=11\/p=12\/p=13\/p=14\/p=15\/p=16\/p=17\/p=18\/p=19\/p=20\/p=21\/p=22\/p=23\/p=24\/p=25:=by omega
 rcases h with rfl|rfl|rfl|rfl|rfl|rfl|rfl|rfl|rfl|rfl|rfl|rfl|rfl|rfl|rfl|rfl|rfl|rfl|rfl|rfl|rfl|rfl|rfl|rfl|rfl|rfl <;> rfl
abbrev KN:En->R T:=ze ixT (vE 3) (zc 3 f_4 (z9 (vE 1) (z9 (ze zt (ze zt (vE 2) (cE (.int 2))) (vE 0)) (z9 (cE (.int 26)) (zg)))))
theorem K2 (ns:List Int) (k:Int) (h0:0<=k) (j:Nat):∃ c:Nat,(97<=c/\c<=122)/\KN [.vl (.int (j:Int)), .vl (scr ns), .vl (.int k), .vl (.str "abcdefghijklmnopqrstuvwxyz")]= .ok (.str ⟨#[c]⟩):=by
 obtain ⟨p,e,p0,p1⟩:=Ze ns (k+2+j) 26 (by omega) (by omega)
 refine ⟨97+p.toNat,⟨by omega,by omega⟩, ?_⟩
 simp only [KN,zl,v3,bOk,Zq,v1,v2,v0,Zg,Zl,e]
 exact K1 p p0 p1
theorem yW (ns:List Int) (k:Int) (h0:0<=k):∃ w:Str,f_y [scr ns, .int k]= .ok (.str w)/\Zp (.str w)=true:=by
 have e:f_y [scr ns, .int k]=zo (b_y f_4 [.vl (scr ns), .vl (.int k), .un]):=rfl
 obtain ⟨p,e0,p0,p1⟩:=Ze ns k 6 h0 (by omega)
 have hset:∀ t,([Sl.vl (scr ns),Sl.vl (.int k), .un]:En).set 2 (.vl t)=[Sl.vl (scr ns),Sl.vl (.int k), .vl t]:=fun _=>rfl
 rw [e,b_y]
 simp only [zE,ZJ,j3,Zg,Za,hset,zL,Zq,v0,v1,bOk,e0,gtI]
 cases hp:decide (p > 0) with
 | true=>
  obtain ⟨q,e1,q0,q1⟩:=Ze ns (k+1) 4 (by omega) (by omega)
  simp only [if_true,Z7,j2,jt,zl,Zq,v0,v1,Zg,bOk,Zl,e1]
  have hq:q=0\/q=1\/q=2\/q=3:=by omega
  rcases hq with rfl | rfl | rfl | rfl
  ·exact ⟨"a",rfl,by decide⟩
  ·exact ⟨"b",rfl,by decide⟩
  ·exact ⟨"ab",rfl,by decide⟩
  ·exact ⟨"cab",rfl,by decide⟩
 | false=>
  obtain ⟨q,e1,q0,q1⟩:=Ze ns (k+1) 3 (by omega) (by omega)
  simp only [Bool.false_eq_true,if_false,nxS,Z7,j6,j2,jt,Zn,zI]
  obtain ⟨g,hg⟩:=Classical.skolem.mp (K2 ns k h0)
  have ei:Zd (ze zt (cE (.int 1)) (zc 3 f_4 (z9 (vE 0) (z9 (ze zt (vE 1) (cE (.int 1))) (z9 (cE (.int 3)) (zg)))))) [Sl.vl (scr ns),Sl.vl (.int k), .vl (.str "abcdefghijklmnopqrstuvwxyz")]= .ok (rng 0 (1+q).toNat):=by
   unfold Zd
   simp only [zl,Zq,v0,v1,Zg,bOk,Zl,e1]
   rw [if_pos ⟨by omega,by omega⟩]
  have ec:∀ n:Nat,n<=3->zG (zw 0) Zc KN 1 [0,1,2] [Sl.vl (scr ns),Sl.vl (.int k), .vl (.str "abcdefghijklmnopqrstuvwxyz")] (rng 0 n)= .ok ((rng 0 n).map fun t=>match t with | .int j=> .str ⟨#[g j.toNat]⟩ | t=>t):=fun n hn=>
   zX (rng 0 n) (by unfold rng; rw [List.length_map,List.length_range]; exact Nat.le_trans hn (by decide)) fun t ht=>by
    unfold rng at ht
    obtain ⟨j,_,rfl⟩:=List.mem_map.mp ht
    show KN [.vl (.int (0+(j:Int))), .vl (scr ns), .vl (.int k), .vl (.str "abcdefghijklmnopqrstuvwxyz")]= .ok (.str ⟨#[g (0+(j:Int)).toNat]⟩)
    rw [Int.zero_add,Int.toNat_natCast]
    exact (hg j).2
  rw [ei,bOk,ec _ (by omega),bOk,bOk]
  have hw:∀ j,Zf (g j)=true:=fun j=>by
   obtain ⟨a,b⟩:=(hg j).1
   unfold Zf
   rw [decide_eq_true a,decide_eq_true b]; rfl
  have hq:q=0\/q=1\/q=2:=by omega
  rcases hq with rfl | rfl | rfl
  ·refine ⟨⟨#[g 0]⟩,rfl, ?_⟩
   show (Zf (g 0) && true)=true
   rw [hw 0]; rfl
  ·refine ⟨⟨#[g 0,g 1]⟩,rfl, ?_⟩
   show (Zf (g 0) && (Zf (g 1) && true))=true
   rw [hw 0,hw 1]; rfl
  ·refine ⟨⟨#[g 0,g 1,g 2]⟩,rfl, ?_⟩
   show (Zf (g 0) && (Zf (g 1) && (Zf (g 2) && true)))=true
   rw [hw 0,hw 1,hw 2]; rfl
theorem G9 (j:Int):Zi (.int 5) (.int j)= .ok (.int (5*j)):=by
 show (if WY 5 j then R.ok (T.int (5*j)) else .bad)=_
 rw [if_pos (.inl ⟨by decide,by decide⟩)]
theorem vt {f g:En->R T} {ρ:En} {x y:T} (hf:f ρ= .ok x) (hg:g ρ= .ok y):ZC (z9 f (z9 g zg)) ρ= .ok (.tup [x,y]):=by
 unfold ZC z9 zg
 rw [hf,hg]; rfl
theorem tup3 {f g h:En->R T} {ρ:En} {x y z:T} (hf:f ρ= .ok x) (hg:g ρ= .ok y) (hh:h ρ= .ok z):ZC (z9 f (z9 g (z9 h zg))) ρ= .ok (.tup [x,y,z]):=by
 unfold ZC z9 zg
 rw [hf,hg,hh]; rfl
theorem tup4 {f g h i:En->R T} {ρ:En} {x y z w:T} (hf:f ρ= .ok x) (hg:g ρ= .ok y) (hh:h ρ= .ok z) (hi:i ρ= .ok w):ZC (z9 f (z9 g (z9 h (z9 i zg)))) ρ= .ok (.tup [x,y,z,w]):=by
 unfold ZC z9 zg
 rw [hf,hg,hh,hi]; rfl
def Dst (ws:List Str):Prop:=∀ (k:Nat) (w:Str),ws[k]? =some w->w ∉ ws.take k
theorem Dst.add {ws:List Str} (h:Dst ws) {w:Str} (hw:w ∉ ws):Dst (ws++[w]):=fun k x hx=>by
 by_cases hk:k < ws.length
 ·rw [List.getElem?_append_left hk] at hx
  rw [List.take_append_of_le_length (by omega)]
  exact h k x hx
 ·rw [List.getElem?_append_right (by omega)] at hx
  have hk' :k=ws.length:=by
   rcases Nat.lt_or_ge (k - ws.length) 1 with z | z
   ·omega
   ·rw [List.getElem?_eq_none (by simpa using z)] at hx; cases hx
  subst hk'
  rw [Nat.sub_self] at hx
  cases hx
  rw [List.take_left']
  ·exact hw
  ·rfl
abbrev uy:En->RS:=zz (zJ 5 (zc 2 f_y (z9 (vE 0) (z9 (ze zt (ze zt (vE 1) (cE (.int 5))) (ze Zi (cE (.int 5)) (vE 4))) (zg)))))
  (ifS (zx ul (vB 5) (vB 3)) (V8 3 (vE 5)) (nxS))
theorem wL (ns:List Int) (k:Int) (h0:0<=k):∀ (js:List Nat) (ws:List Str) (x4 x5:Sl),js.length+ws.length<=4->Dst ws->(∀ w∈ws,Zp (.str w)=true)->
  ∃ ws' y4 y5,j5 (zw 4) uy (js.map fun (j:Nat)=>T.int (0+(j:Int))) [.vl (scr ns), .vl (.int k), .un, .ow (ws.map T.str),x4,x5]= .nx [.vl (scr ns), .vl (.int k), .un, .ow (ws'.map T.str),y4,y5]/\ws'.length<=4/\Dst ws' /\(∀ w∈ws',Zp (.str w)=true)/\(0 < js.length+ws.length->0 < ws'.length)
 | [],ws,x4,x5,hl,hd,hw=>⟨ws,x4,x5,rfl,by simpa using hl,hd,hw,fun h=>by simpa using h⟩
 | j :: js,ws,x4,x5,hl,hd,hw=>by
  obtain ⟨w,ew,hw'⟩:=yW ns (k+5+5*(0+(j:Int))) (by omega)
  have hl' :js.length+ws.length+1<=4:=by simpa [List.length_cons,Nat.add_right_comm] using hl
  have e:j5 (zw 4) uy ((j :: js).map fun (j:Nat)=>T.int (0+(j:Int))) [.vl (scr ns), .vl (.int k), .un, .ow (ws.map T.str),x4,x5]=match uy [.vl (scr ns), .vl (.int k), .un, .ow (ws.map T.str), .vl (.int (0+(j:Int))),x5] with
   | .nx ρ2=>j5 (zw 4) uy (js.map fun (j:Nat)=>T.int (0+(j:Int))) ρ2
   | .ct ρ2=>j5 (zw 4) uy (js.map fun (j:Nat)=>T.int (0+(j:Int))) ρ2
   | .bk ρ2=> .nx ρ2
   | r=>r:=rfl
  have eb:uy [.vl (scr ns), .vl (.int k), .un, .ow (ws.map T.str), .vl (.int (0+(j:Int))),x5]= .nx [.vl (scr ns), .vl (.int k), .un, .ow ((if w∈ws then ws else ws++[w]).map T.str), .vl (.int (0+(j:Int))), .vl (.str w)]:=by
   have w3o:∀ (a b c:Sl) (ts:List T) (ρ:En),vB 3 (a :: b :: c :: .ow ts :: ρ)= .ok (.lst ts):=fun _ _ _ _ _=>rfl
   have hset:∀ t,([.vl (scr ns), .vl (.int k), .un, .ow (ws.map T.str), .vl (.int (0+(j:Int))),x5]:En).set 5 (.vl t)=[.vl (scr ns), .vl (.int k), .un, .ow (ws.map T.str), .vl (.int (0+(j:Int))), .vl t]:=fun _=>rfl
   have en:ul (.str w) (.lst (ws.map T.str))= .ok (!decide (w∈ws)):=by
    show ((match uk (fun y=>eqF 30 y (.str w)) (ws.map T.str) with | some b=>R.ok b | none=> .bad)).bind (fun b=>R.ok (!b))=_
    rw [WB]; rfl
   simp only [uy,zE,j3,Z3,v0,v1,v4,zl,Zg,bOk,Zl,G9,ew,Za,hset,ZJ,zL,w5,w3o,en]
   by_cases hm:w∈ws
   ·rw [decide_eq_true hm,if_pos hm]; rfl
   ·rw [decide_eq_false hm,if_neg hm]
    have hb:(ws.map T.str).length < bnd:=by rw [List.length_map]; exact Nat.lt_of_le_of_lt (show ws.length<=4 by omega) (by decide)
    show (if (ws.map T.str).length < bnd then RS.nx _ else .bad)=_
    rw [if_pos hb,List.map_append]
    rfl
  rw [e,eb]
  by_cases hm:w∈ws
  ·rw [if_pos hm]
   obtain ⟨ws',y4,y5,r1,r2,r3,r4,r5⟩:=wL ns k h0 js ws (.vl (.int (0+(j:Int)))) (.vl (.str w)) (by omega) hd hw
   exact ⟨ws',y4,y5,r1,r2,r3,r4,fun _=>r5 (by have:=List.length_pos_of_mem hm; omega)⟩
  ·rw [if_neg hm]
   obtain ⟨ws',y4,y5,r1,r2,r3,r4,r5⟩:=wL ns k h0 js (ws++[w]) (.vl (.int (0+(j:Int)))) (.vl (.str w)) (by simp only [List.length_append,List.length_cons,List.length_nil]; omega) (hd.add hm) (fun x hx=>by
    rcases List.mem_append.mp hx with z | z
    ·exact hw x z
    ·rw [List.mem_singleton.mp z]; exact hw')
   exact ⟨ws',y4,y5,r1,r2,r3,r4,fun _=>r5 (by simp only [List.length_append,List.length_cons,List.length_nil]; omega)⟩
abbrev K3:En->R T:=ZC (z9 (vE 1) (z9 (ze zt (cE (.int 1)) (zc 3 f_4 (z9 (vE 2) (z9 (ze zt (ze zt (vE 3) (cE (.int 30))) (vE 0)) (z9 (cE (.int 20)) (zg)))))) (zg)))
theorem UW (ns:List Int) (k:Int) (h0:0<=k):∀ (ws:List Str) (i:Nat) (x0 x1:Sl),(∀ w∈ws,Zp (.str w)=true)->∃ cs:List T,zZ (Zt 0 1) Zc K3 (((ws.map T.str).zipIdx i).map fun p=>T.tup [.int (p.2:Nat),p.1]) [x0,x1, .vl (scr ns), .vl (.int k)]= .ok cs/\cs.all zq=true/\cs.map Z2=ws
 | [],i,x0,x1,_=>⟨[],rfl,rfl,rfl⟩
 | w :: ws,i,x0,x1,hw=>by
  obtain ⟨p,e,p0,p1⟩:=Ze ns (k+30+i) 20 (by omega) (by omega)
  obtain ⟨cs,r1,r2,r3⟩:=UW ns k h0 ws (i+1) (.vl (.int (i:Int))) (.vl (.str w)) fun x hx=>hw x (List.mem_cons_of_mem _ hx)
  have ec:K3 [.vl (.int (i:Int)), .vl (.str w), .vl (scr ns), .vl (.int k)]= .ok (.tup [.str w, .int (1+p)]):=by
   have ea:zc 3 f_4 (z9 (vE 2) (z9 (ze zt (ze zt (vE 3) (cE (.int 30))) (vE 0)) (z9 (cE (.int 20)) (zg)))) [.vl (.int (i:Int)), .vl (.str w), .vl (scr ns), .vl (.int k)]= .ok (.int p):=by
    simp only [Zq,v2,v3,v0,zl,Zg,bOk,Zl,e]
   have eb:ze zt (cE (.int 1)) (zc 3 f_4 (z9 (vE 2) (z9 (ze zt (ze zt (vE 3) (cE (.int 30))) (vE 0)) (z9 (cE (.int 20)) (zg))))) [.vl (.int (i:Int)), .vl (.str w), .vl (scr ns), .vl (.int k)]= .ok (.int (1+p)):=by
    rw [zl,ea]; rfl
   exact vt v1 eb
  refine ⟨.tup [.str w, .int (1+p)] :: cs, ?_, ?_, ?_⟩
  ·show ((K3 [.vl (.int (i:Int)), .vl (.str w), .vl (scr ns), .vl (.int k)]).bind fun v=>(zZ (Zt 0 1) Zc K3 (((ws.map T.str).zipIdx (i+1)).map fun p=>T.tup [.int (p.2:Nat),p.1]) [.vl (.int (i:Int)), .vl (.str w), .vl (scr ns), .vl (.int k)]).bind fun vs=>R.ok (v :: vs))=_
   rw [ec,r1]; rfl
  ·rw [List.all_cons,r2,Bool.and_true]
   show (Zp (.str w) && decide (1<=1+p) && decide (1+p<=20))=true
   rw [hw w List.mem_cons_self,decide_eq_true (by omega),decide_eq_true (by omega)]; rfl
  ·rw [List.map_cons,r3]; rfl
theorem Vl (i j:Int):yN (.int i) (.int j)= .ok (.int (if j < i then j else i)):=rfl
theorem xZ (ns:List Int) (k:Int) (h0:0<=k):∃ t,f_s [scr ns, .int k]= .ok t/\∀ d,isK (d+1) t=true:=by
 have e:f_s [scr ns, .int k]=zo (b_s f_4 f_y [.vl (scr ns), .vl (.int k), .un, .un, .un, .un]):=rfl
 obtain ⟨p,e0,p0,p1⟩:=Ze ns k 3 h0 (by omega)
 rw [e,b_s,zE]
 simp only [ZJ,zL,Zq,v0,v1,Zg,bOk,e0,gtI,Za]
 cases hp:decide (p > 0) with
 | true=>
  obtain ⟨q,e1,q0,q1⟩:=Ze ns (k+1) 7 (by omega) (by omega)
  obtain ⟨q3,e3,_,_⟩:=Ze ns (k+3) 8 (by omega) (by omega)
  obtain ⟨q4,e4,a4,b4⟩:=Ze ns (k+4) 3 (by omega) (by omega)
  obtain ⟨q2,e2,a2,b2⟩:=Ze ns (k+2) 4 (by omega) (by omega)
  have hset:∀ t x,([.vl (scr ns), .vl (.int k),x, .un, .un, .un]:En).set 2 (.vl t)=[.vl (scr ns), .vl (.int k), .vl t, .un, .un, .un]:=fun _ _=>rfl
  have fin:∀ low:Int, -20<=low->low<=20->∃ t,zo (zN (ZC (z9 (cE (.str "whole")) (z9 (vE 2) (z9 (ze yN (cE (.int 20)) (ze zt (vE 2) (zc 3 f_4 (z9 (vE 0) (z9 (ze zt (vE 1) (cE (.int 2))) (z9 (cE (.int 4)) (zg))))))) (zg))))) [.vl (scr ns), .vl (.int k), .vl (.int low), .un, .un, .un])= .ok t/\∀ d,isK (d+1) t=true:=by
   intro low hl1 hl2
   refine ⟨.tup [.str "whole", .int low, .int (if low+q2 < 20 then low+q2 else 20)], ?_,fun d=> ?_⟩
   ·rw [Z7,j6]
    refine tup3 rfl rfl ?_
    simp only [j2,JO,jt,zl,v2,v0,v1,Zq,Zg,bOk,Zl,e2,Vl]
   ·show (decide (-20<=low) && decide (low<=_) && decide (_<=(20:Int)))=true
    rw [decide_eq_true hl1,decide_eq_true (by split <;> omega),decide_eq_true (by split <;> omega)]; rfl
  simp only [if_true,zE,j3,ZJ,zl,Zq,v0,v1,Zg,bOk,Zl,e1,jn,Za,hset,zL,e3,eqI]
  cases hq:(q3 == 0) with
  | true=>
   have h3:q4=0\/q4=1\/q4=2:=by omega
   rcases h3 with rfl | rfl | rfl
   ·obtain ⟨t,r,s⟩:=fin (-20) (by omega) (by omega)
    refine ⟨t, ?_,s⟩
    rw [← r]
    simp only [if_true,e4,bOk]
    have hv:∀ ρ,(ZD (z9 (YG (cE (.int 20))) (z9 (cE (.int 17)) (z9 (cE (.int 20)) (zg)))) ρ)= .ok (.lst [.int (-20), .int 17, .int 20]):=fun _=>rfl
    simp only [hv,bOk]
    have hx:ixT (.lst [.int (-20), .int 17, .int 20]) (.int 0)= .ok (.int (-20)):=rfl
    simp only [hx,Za,hset,Z7]
    generalize ZC _ _=z
    cases z <;> rfl
   ·obtain ⟨t,r,s⟩:=fin (17) (by omega) (by omega)
    refine ⟨t, ?_,s⟩
    rw [← r]
    simp only [if_true,e4,bOk]
    have hv:∀ ρ,(ZD (z9 (YG (cE (.int 20))) (z9 (cE (.int 17)) (z9 (cE (.int 20)) (zg)))) ρ)= .ok (.lst [.int (-20), .int 17, .int 20]):=fun _=>rfl
    simp only [hv,bOk]
    have hx:ixT (.lst [.int (-20), .int 17, .int 20]) (.int 1)= .ok (.int (17)):=rfl
    simp only [hx,Za,hset,Z7]
    generalize ZC _ _=z
    cases z <;> rfl
   ·obtain ⟨t,r,s⟩:=fin (20) (by omega) (by omega)
    refine ⟨t, ?_,s⟩
    rw [← r]
    simp only [if_true,e4,bOk]
    have hv:∀ ρ,(ZD (z9 (YG (cE (.int 20))) (z9 (cE (.int 17)) (z9 (cE (.int 20)) (zg)))) ρ)= .ok (.lst [.int (-20), .int 17, .int 20]):=fun _=>rfl
    simp only [hv,bOk]
    have hx:ixT (.lst [.int (-20), .int 17, .int 20]) (.int 2)= .ok (.int (20)):=rfl
    simp only [hx,Za,hset,Z7]
    generalize ZC _ _=z
    cases z <;> rfl
  | false=>
   obtain ⟨t,r,s⟩:=fin (q - 3) (by omega) (by omega)
   refine ⟨t, ?_,s⟩
   rw [← r]
   simp only [Bool.false_eq_true,if_false,nxS,Z7]
   generalize ZC _ _=z
   cases z <;> rfl
 | false=>
  obtain ⟨q,e1,q0,q1⟩:=Ze ns (k+1) 4 (by omega) (by omega)
  simp only [Bool.false_eq_true,if_false,nxS,zE]
  have ei:Zd (ze zt (cE (.int 1)) (zc 3 f_4 (z9 (vE 0) (z9 (ze zt (vE 1) (cE (.int 1))) (z9 (cE (.int 4)) (zg)))))) [.vl (scr ns), .vl (.int k), .un, .ow [], .un, .un]= .ok (rng 0 (1+q).toNat):=by
   unfold Zd
   simp only [zl,Zq,v0,v1,Zg,bOk,Zl,e1]
   rw [if_pos ⟨by omega,by omega⟩]
  have el:U1 3 zg [.vl (scr ns), .vl (.int k), .un, .un, .un, .un]= .nx [.vl (scr ns), .vl (.int k), .un, .ow [], .un, .un]:=rfl
  rw [el]
  have hn:(List.range (1+q).toNat).length=(1+q).toNat:=List.length_range
  obtain ⟨ws,y4,y5,r1,r2,r3,r4,r5⟩:=wL ns k h0 (List.range (1+q).toNat) [] .un .un (by rw [hn,List.length_nil]; omega) (fun k w h=>by cases h) (fun w h=>by cases h)
  have hpos:0 < ws.length:=r5 (by rw [hn,List.length_nil]; omega)
  have ef:ju (Zd (ze zt (cE (.int 1)) (zc 3 f_4 (z9 (vE 0) (z9 (ze zt (vE 1) (cE (.int 1))) (z9 (cE (.int 4)) (zg))))))) (zw 4) uy [.vl (scr ns), .vl (.int k), .un, .ow [], .un, .un]= .nx [.vl (scr ns), .vl (.int k), .un, .ow (ws.map T.str),y4,y5]:=by
   unfold ju
   rw [ei,Za]
   exact r1
  obtain ⟨cs,s1,s2,s3⟩:=UW ns k h0 ws 0 .un .un r4
  have hcl:cs.length=ws.length:=by rw [← s3,List.length_map]
  refine ⟨.tup [.str "pick", .tup cs], ?_,fun d=> ?_⟩
  ·dsimp only
   rw [ef]
   dsimp only
   rw [Z7,j6]
   refine vt rfl ?_
   rw [Zn,zI]
   have ee:xp (vE 3) (frz [.vl (scr ns), .vl (.int k), .un, .ow (ws.map T.str),y4,y5])= .ok (Jj (ws.map T.str)):=rfl
   rw [ee,bOk]
   unfold zG
   rw [if_pos (by unfold Jj; rw [List.length_map,List.length_zipIdx,List.length_map]; exact Nat.le_trans r2 (by decide))]
   have ec:zZ (Zt 0 1) Zc K3 (Jj (ws.map T.str)) (wY 2 [0,1] (frz [.vl (scr ns), .vl (.int k), .un, .ow (ws.map T.str),y4,y5]))= .ok cs:=s1
   rw [ec]
   rfl
  ·show (decide (1<=cs.length) && decide (cs.length<=4) && cs.all zq && decide ((dd [] (cs.map Z2)).length=cs.length))=true
   have hd:(dd [] (cs.map Z2)).length=cs.length:=by
    rw [s3,hcl]
    have:=(wJ ws []).mpr (fun k w h=>by simpa using r3 k w h)
    simpa using this
   rw [decide_eq_true (by omega),decide_eq_true (by omega),s2,decide_eq_true hd]; rfl
theorem qA (c:Int) (j:Int) (hc:WY c j):Zi (.int c) (.int j)= .ok (.int (c*j)):=by
 show (if WY c j then R.ok (T.int (c*j)) else .bad)=_
 rw [if_pos hc]
theorem K4 (j:Int):Zi (.int 3) (.int j)= .ok (.int (3*j)):=qA _ _ (.inl ⟨by decide,by decide⟩)
theorem K5 (j:Int):Zi (.int 50) (.int j)= .ok (.int (50*j)):=qA _ _ (.inl ⟨by decide,by decide⟩)
abbrev KO (c:List T->R T):En->R T:=zc 3 c (z9 (vE 1) (z9 (ze zt (ze zt (ze Zi (cE (.int 3)) (vE 2)) (cE (.int 40))) (ze Zi (cE (.int 50)) (vE 0))) (z9 (ze jK (vE 3) (cE (.int 1))) (zg))))
theorem Ul (ns:List Int):∀ (d n:Nat),d<=n->1<=d->∀ k:Int,0<=k->∃ t,S_g n 0 [scr ns, .int k, .int (d:Int)]= .ok t/\isK d t=true
 | d+1,n+1,hn,_,k,h0=>by
  have e:S_g (n+1) 0 [scr ns, .int k, .int ((d+1:Nat):Int)]=zo (b_g f_4 f_s (S_g n 0) [.vl (scr ns), .vl (.int k), .vl (.int ((d+1:Nat):Int)), .un, .un, .un]):=rfl
  obtain ⟨p,e0,p0,p1⟩:=Ze ns k 5 h0 (by omega)
  obtain ⟨l,el,hl⟩:=xZ ns (k+1) (by omega)
  have hset:([.vl (scr ns), .vl (.int k), .vl (.int ((d+1:Nat):Int)), .un, .un, .un]:En).set 3 (.vl (.int p))=[.vl (scr ns), .vl (.int k), .vl (.int ((d+1:Nat):Int)), .vl (.int p), .un, .un]:=rfl
  rw [e,b_g]
  simp only [zE,j3,ZJ,Uh,zL,Zq,Z3,v0,v1,v2,Zg,bOk,e0,Za,hset,w2,w3,eqI,ltI,Zl,Z7,j2,JO,jt,zl,el]
  have hd1:((((d+1:Nat):Int) == 1))=decide (d=0):=by
   by_cases h:d=0
   ·subst h; rfl
   ·rw [decide_eq_false h,beq_eq_false_iff_ne]; omega
  rw [hd1]
  by_cases hleaf:d=0\/p < 2
  ·refine ⟨l, ?_,hl d⟩
   rcases hleaf with h | h
   ·rw [decide_eq_true h]; rfl
   ·rw [decide_eq_true h]
    cases decide (d=0) <;> rfl
  ·have hd0:¬ d=0:=fun z=>hleaf (.inl z)
   have hp2:¬ p < 2:=fun z=>hleaf (.inr z)
   have hsub:((d+1:Nat):Int) - 1=(d:Int):=by omega
   rw [decide_eq_false hd0,decide_eq_false hp2]
   simp only [Bool.false_eq_true,if_false,Za,nxS,w3,v0,v1,v2,bOk,ltI,Zg]
   cases hp:decide (p < 4) with
   | true=>
    obtain ⟨q,e1,q0,q1⟩:=Ze ns (k+1) 3 (by omega) (by omega)
    have hj:∀ j:Nat,∃ t,KO (S_g n 0) [.vl (.int (0+(j:Int))), .vl (scr ns), .vl (.int k), .vl (.int ((d+1:Nat):Int))]= .ok t/\isK d t=true:=fun j=>by
     obtain ⟨t,r,s⟩:=Ul ns d n (by omega) (by omega) (3*k+40+50*(0+(j:Int))) (by omega)
     refine ⟨t, ?_,s⟩
     simp only [KO,Zq,v0,v1,v2,v3,zl,Zg,bOk,K4,K5,Zl,jn,hsub,r]
    obtain ⟨g,hg⟩:=Classical.skolem.mp hj
    have ei:Zd (ze zt (cE (.int 1)) (zc 3 f_4 (z9 (vE 0) (z9 (ze zt (vE 1) (cE (.int 1))) (z9 (cE (.int 3)) (zg)))))) [.vl (scr ns), .vl (.int k), .vl (.int ((d+1:Nat):Int)), .vl (.int p), .un, .un]= .ok (rng 0 (1+q).toNat):=by
     unfold Zd
     simp only [zl,Zq,v0,v1,Zg,bOk,Zl,e1]
     rw [if_pos ⟨by omega,by omega⟩]
    have ec:zG (zw 0) Zc (KO (S_g n 0)) 1 [0,1,2] [.vl (scr ns), .vl (.int k), .vl (.int ((d+1:Nat):Int)), .vl (.int p), .un, .un] (rng 0 (1+q).toNat)= .ok ((rng 0 (1+q).toNat).map fun t=>match t with | .int j=>g j.toNat | t=>t):=
     zX (rng 0 (1+q).toNat) (by unfold rng; rw [List.length_map,List.length_range]; exact Nat.le_trans (show (1+q).toNat<=3 by omega) (by decide)) fun t ht=>by
      unfold rng at ht
      obtain ⟨j,_,rfl⟩:=List.mem_map.mp ht
      show KO (S_g n 0) [.vl (.int (0+(j:Int))), .vl (scr ns), .vl (.int k), .vl (.int ((d+1:Nat):Int))]= .ok (g (0+(j:Int)).toNat)
      rw [(hg j).1,Int.zero_add,Int.toNat_natCast]
    generalize hcs:((rng 0 (1+q).toNat).map fun t=>match t with | .int j=>g j.toNat | t=>t)=cs at ec
    have hlen:cs.length=(1+q).toNat:=by rw [← hcs]; unfold rng; rw [List.length_map,List.length_map,List.length_range]
    have hall:∀ t∈cs,isK d t=true:=fun t ht=>by
     rw [← hcs] at ht
     obtain ⟨u,hu,rfl⟩:=List.mem_map.mp ht
     unfold rng at hu
     obtain ⟨j,_,rfl⟩:=List.mem_map.mp hu
     exact (hg _).2
    refine ⟨.tup [.str "row", .tup cs], ?_, ?_⟩
    ·have hs4:([.vl (scr ns), .vl (.int k), .vl (.int ((d+1:Nat):Int)), .vl (.int p), .un, .un]:En).set 4 (.vl (.lst cs))=[.vl (scr ns), .vl (.int k), .vl (.int ((d+1:Nat):Int)), .vl (.int p), .vl (.lst cs), .un]:=rfl
     simp only [if_true,zI,ei,bOk,ec,Za,hs4,j2,JO,jt]
     rfl
    ·show (decide (1<=cs.length) && decide (cs.length<=3) && cs.all (isK d))=true
     rw [decide_eq_true (by omega),decide_eq_true (by omega),List.all_eq_true.mpr hall]; rfl
   | false=>
    obtain ⟨q,e1,q0,q1⟩:=Ze ns (k+1) 3 (by omega) (by omega)
    obtain ⟨q2,e2,_,_⟩:=Ze ns (k+2) 3 (by omega) (by omega)
    obtain ⟨t,r,s⟩:=Ul ns d n (by omega) (by omega) (3*k+40) (by omega)
    refine ⟨.tup [.str "many",t, .int q, .int (if q+q2 < 3 then q+q2 else 3)], ?_, ?_⟩
    ·have hs5:([.vl (scr ns), .vl (.int k), .vl (.int ((d+1:Nat):Int)), .vl (.int p), .un, .un]:En).set 5 (.vl (.int q))=[.vl (scr ns), .vl (.int k), .vl (.int ((d+1:Nat):Int)), .vl (.int p), .un, .vl (.int q)]:=rfl
     simp only [Bool.false_eq_true,if_false,v0,v1,zl,Zg,bOk,Zl,e1,Za,hs5,j2,JO,jt,j6]
     refine tup4 rfl ?_ rfl ?_
     ·simp only [Zq,v0,v1,v2,zl,Zg,bOk,K4,Zl,jn,hsub,r]
     ·have v5:∀ {t:T} {a b c d e:Sl} {ρ:En},vE 5 (a :: b :: c :: d :: e :: .vl t :: ρ)= .ok t:=rfl
      simp only [Zq,v0,v1,v5,zl,Zg,bOk,Zl,e2,Vl]
    ·show (jR 0 3 (.int q) (.int _) && isK d t)=true
     rw [s,Bool.and_true]
     show (decide (0<=q) && decide (q<=_) && decide (_<=(3:Int)))=true
     rw [decide_eq_true (by omega),decide_eq_true (by split <;> omega),decide_eq_true (by split <;> omega)]; rfl
mutual
def dep:T->Nat
 | .tup xs=>Je xs+1
 | .lst xs=>Je xs+1
 | _=>1
def Je:List T->Nat
 | []=>0
 | t :: ts=>max (dep t) (Je ts)
end
mutual
def siz:T->Nat
 | .tup xs=>jL xs+1
 | .lst xs=>jL xs+1
 | _=>1
def jL:List T->Nat
 | []=>0
 | t :: ts=>siz t+jL ts
end
theorem JZ {w:Str} {t:T} (h:isS w t=true):t= .str w:=by
 cases t with
 | str s=>
  have:(s == w)=true:=h
  rw [eq_of_beq this]
 | _=>cases h
theorem WD {lo hi:Int} {t:T} (h:inR lo hi t=true):∃ i,t= .int i:=by
 cases t with
 | int i=>exact ⟨i,rfl⟩
 | _=>cases h
theorem wj {lo hi:Int} {a b:T} (h:jR lo hi a b=true):∃ i j,a= .int i/\b= .int j:=by
 cases a with
 | int i=>
  cases b with
  | int j=>exact ⟨i,j,rfl,rfl⟩
  | _=>cases h
 | _=>cases h
structure Fit (D S:Nat) (t:T):Prop where
 so:sOk t
 dp:dep t<=D
 sz:siz t<=S
theorem yX {c:T} (h:zq c=true):Fit 2 3 c:=by
 unfold zq at h
 split at h
 ·rename_i w i
  have hw:Zp w=true:=by
   rw [Bool.and_eq_true,Bool.and_eq_true] at h
   exact h.1.1
  cases w with
  | str x=>
   have hx:(decide (1<=x.length) && decide (x.length<=3) && x.cps.toList.all Zf)=true:=hw
   rw [Bool.and_eq_true,Bool.and_eq_true,decide_eq_true_eq,decide_eq_true_eq] at hx
   refine ⟨?_, ?_, ?_⟩
   ·simp only [sOk,J0,and_true]
    exact Nat.le_trans hx.1.2 (by decide)
   ·simp [dep,Je]
   ·simp [siz,jL]
  | _=>cases hw
 ·cases h
theorem KP {D S:Nat}:∀ {cs:List T},(∀ c∈cs,Fit D S c)->J0 cs/\Je cs<=D/\jL cs<=S*cs.length
 | [],_=>⟨by simp only [J0],Nat.zero_le _,Nat.zero_le _⟩
 | c :: cs,h=>by
  obtain ⟨a,b,d⟩:=KP (cs:=cs) fun x hx=>h x (List.mem_cons_of_mem _ hx)
  obtain ⟨x,y,z⟩:=h c List.mem_cons_self
  refine ⟨?_, ?_, ?_⟩
  ·simp only [J0]; exact ⟨x,a⟩
  ·simp only [Je]; omega
  ·simp only [jL,List.length_cons,Nat.mul_add,Nat.mul_one]; omega
theorem wk:∀ (d:Nat) (t:T),isK d t=true->Fit (2*d+2) (15*4 ^ d) t
 | 0,_,h=>by cases h
 | d+1,t,h=>by
  have hpow:4 ^ (d+1)=4*4 ^ d:=by rw [Nat.pow_succ,Nat.mul_comm]
  have hone:1<=4 ^ d:=Nat.pow_pos (by omega)
  have h:WA (isK d) t=true:=h
  unfold WA at h
  split at h
  ·rename_i hd r
   split at h
   ·rename_i e
    rw [JZ e]
    unfold JY at h
    split at h
    ·obtain ⟨i,j,rfl,rfl⟩:=wj h
     refine ⟨by simp only [sOk,J0,and_true]; decide,by simp only [dep,Je]; omega,by simp only [siz,jL]; omega⟩
    ·cases h
   ·split at h
    ·rename_i e
     rw [JZ e]
     unfold uu at h
     split at h
     ·rename_i c
      unfold ut at h
      split at h
      ·rename_i cs
       rw [Bool.and_eq_true,Bool.and_eq_true,Bool.and_eq_true,decide_eq_true_eq,decide_eq_true_eq] at h
       obtain ⟨a,b,z⟩:=KP (D:=2) (S:=3) (cs:=cs) fun c hc=>yX (List.all_eq_true.mp h.1.2 c hc)
       refine ⟨by simp only [sOk,J0,and_true]; exact ⟨by decide,a⟩,by simp only [dep,Je]; omega,by simp only [siz,jL]; omega⟩
      ·cases h
     ·cases h
    ·split at h
     ·rename_i e
      rw [JZ e]
      unfold Vh at h
      split at h
      ·rename_i c
       unfold wH at h
       split at h
       ·rename_i cs
        rw [Bool.and_eq_true,Bool.and_eq_true,decide_eq_true_eq,decide_eq_true_eq] at h
        obtain ⟨a,b,z⟩:=KP (D:=2*d+2) (S:=15*4 ^ d) (cs:=cs) fun c hc=>wk d c (List.all_eq_true.mp h.2 c hc)
        have:15*4 ^ d*cs.length<=15*4 ^ d*3:=Nat.mul_le_mul_left _ h.1.2
        refine ⟨by simp only [sOk,J0,and_true]; exact ⟨by decide,a⟩,by simp only [dep,Je]; omega,by simp only [siz,jL]; omega⟩
       ·cases h
      ·cases h
     ·split at h
      ·rename_i e
       rw [JZ e]
       unfold uv at h
       split at h
       ·rename_i c a b
        rw [Bool.and_eq_true] at h
        obtain ⟨i,j,rfl,rfl⟩:=wj h.1
        obtain ⟨x,y,z⟩:=wk d c h.2
        refine ⟨by simp only [sOk,J0,and_true]; exact ⟨by decide,x⟩,by simp only [dep,Je]; omega,by simp only [siz,jL]; omega⟩
       ·cases h
      ·cases h
  ·cases h
def u3:T->List Nat->Option T
 | t,[]=>some t
 | .tup xs,i :: r=>match xs[i]? with | some x=>u3 x r | none=>none
 | _,_ :: _=>none
abbrev pth (p:List Nat):T:= .tup (p.map fun (i:Nat)=>T.int (i:Int))
abbrev Vm (c:List T->R T):En->RS:=yO 1 (zQ (ZW (zc 1 c (z9 (ze ixT (vE 0) (vE 2)) (zg)))) (zw 0) (Zc) (ze zt (ZC (z9 (vE 1) (zg))) (vE 0)) 1 [2])
def yY (xs:List T) (j:Nat):Nat:=match xs[j]? with | some x=>siz x | none=>0
theorem Um:∀ xs:List T,((List.range xs.length).map (yY xs)).sum=jL xs
 | []=>rfl
 | x :: xs=>by
  rw [List.length_cons,List.range_succ_eq_map,List.map_cons,List.sum_cons,List.map_map]
  show siz x+((List.range xs.length).map (yY xs)).sum=siz x+jL xs
  rw [Um xs]
theorem WF:∀ {xs:List T} {x:T},x∈xs->siz x<=jL xs
 | y :: ys,x,h=>by
  simp only [jL]
  rcases List.mem_cons.mp h with rfl | h
  ·omega
  ·have:=WF h; omega
theorem Uo (t:T):1<=siz t:=by cases t <;> simp [siz]
theorem UX:∀ {t u:T} (p:List Nat),u3 t p=some u->p.length < siz t
 | t,_,[],_=>Uo t
 | .tup xs,u,i :: r,h=>by
  have h:(match xs[i]? with | some x=>u3 x r | none=>none)=some u:=h
  cases hx:xs[i]? with
  | none=>rw [hx] at h; cases h
  | some x=>
   rw [hx] at h
   have a:=UX r h
   have b:=WF (List.mem_of_getElem? hx)
   simp only [siz,List.length_cons]
   omega
 | .non,_,_ :: _,h=>by cases h
 | .bl _,_,_ :: _,h=>by cases h
 | .int _,_,_ :: _,h=>by cases h
 | .str _,_,_ :: _,h=>by cases h
 | .lst _,_,_ :: _,h=>by cases h
 | .fz _,_,_ :: _,h=>by cases h
theorem KQ {f:En->R T} {ρ:En} {x:T} (hf:f ρ= .ok x):ZC (z9 f zg) ρ= .ok (.tup [x]):=by
 unfold ZC z9 zg
 rw [hf]; rfl
theorem UY {c:List T->R T} {xs:List T} (H:∀ x∈xs,∃ ps:List (List Nat),c [x]= .ok (.lst (ps.map pth))/\ps.length<=siz x/\∀ p∈ps,∃ u,u3 x p=some u):
  ∀ (js:List Nat),(∀ j∈js,j < xs.length)->∀ (acc:List (List Nat)) (x2:Sl),(∀ p∈acc,∃ u,u3 (.tup xs) p=some u)->acc.length+(js.map (yY xs)).sum<=bnd->
  ∃ (acc' :List (List Nat)) (y2:Sl),j5 (zw 2) (Vm c) (js.map fun (j:Nat)=>T.int (0+(j:Int))) [.vl (.tup xs), .ow (acc.map pth),x2]= .nx [.vl (.tup xs), .ow (acc'.map pth),y2]/\acc.length<=acc'.length/\acc'.length<=acc.length+(js.map (yY xs)).sum/\∀ p∈acc',∃ u,u3 (.tup xs) p=some u
 | [],_,acc,x2,ha,hl=>⟨acc,x2,rfl,Nat.le_refl _,by simp,ha⟩
 | j :: js,hj,acc,x2,ha,hl=>by
  have hjl:j < xs.length:=hj j List.mem_cons_self
  have hx:xs[j]? =some xs[j]:=List.getElem?_eq_getElem hjl
  obtain ⟨ps,e1,e2,e3⟩:=H xs[j] (List.getElem_mem hjl)
  have hsz:yY xs j=siz xs[j]:=by unfold yY; rw [hx]
  rw [List.map_cons,List.sum_cons,hsz] at hl
  have e:j5 (zw 2) (Vm c) ((j :: js).map fun (j:Nat)=>T.int (0+(j:Int))) [.vl (.tup xs), .ow (acc.map pth),x2]=match Vm c [.vl (.tup xs), .ow (acc.map pth), .vl (.int (0+(j:Int)))] with
   | .nx ρ2=>j5 (zw 2) (Vm c) (js.map fun (j:Nat)=>T.int (0+(j:Int))) ρ2
   | .ct ρ2=>j5 (zw 2) (Vm c) (js.map fun (j:Nat)=>T.int (0+(j:Int))) ρ2
   | .bk ρ2=> .nx ρ2
   | r=>r:=rfl
  have eb:Vm c [.vl (.tup xs), .ow (acc.map pth), .vl (.int (0+(j:Int)))]= .nx [.vl (.tup xs), .ow ((acc++ps.map (j :: ·)).map pth), .vl (.int (0+(j:Int)))]:=by
   have ex:ixT (.tup xs) (.int (0+(j:Int)))= .ok xs[j]:=by
    rw [Int.zero_add]
    show atT xs j=_
    unfold atT
    rw [jp hx]
   have ei:ZW (zc 1 c (z9 (ze ixT (vE 0) (vE 2)) (zg))) [.vl (.tup xs), .ow (acc.map pth), .vl (.int (0+(j:Int)))]= .ok (ps.map pth):=by
    simp only [ZP,j1,zl,v0,v2,bOk,ex,e1]
    rfl
   have ec:zG (zw 0) Zc (ze zt (ZC (z9 (vE 1) (zg))) (vE 0)) 1 [2] [.vl (.tup xs), .ow (acc.map pth), .vl (.int (0+(j:Int)))] (ps.map pth)= .ok ((ps.map pth).map fun t=>match t with | .tup q=> .tup (.int (0+(j:Int)) :: q) | t=>t):=
    zX _ (by rw [List.length_map]; omega) fun t ht=>by
     obtain ⟨p,hp,rfl⟩:=List.mem_map.mp ht
     show ze zt (ZC (z9 (vE 1) (zg))) (vE 0) [.vl (pth p), .vl (.int (0+(j:Int)))]=_
     rw [zl,KQ v1,bOk,v0,bOk]
     obtain ⟨u,hu⟩:=e3 p hp
     have hpl:=UX p hu
     show (if [T.int (0+(j:Int))].length+(p.map fun (i:Nat)=>T.int (i:Int)).length<=bnd then R.ok (T.tup _) else .bad)=_
     rw [if_pos (by rw [List.length_map,List.length_singleton]; omega)]
     rfl
   show ((zQ _ _ _ _ _ _ _).s fun t=>match t with | .lst us=>if (acc.map pth).length+us.length<=bnd then RS.nx _ else .bad | _=> .bad)=_
   rw [zI,ei,bOk,ec,bOk,Za]
   show (if _ then _ else _)=_
   rw [if_pos (by simp only [List.length_map]; omega)]
   rw [List.map_append,List.map_map,List.map_map]
   show RS.nx [.vl (.tup xs), .ow (acc.map pth++_), .vl (.int (0+(j:Int)))]=_
   have hm:List.map ((fun t=>match t with | .tup q=>T.tup (.int (0+(j:Int)) :: q) | t=>t) ∘ pth) ps=List.map (pth ∘ fun x=>j :: x) ps:=by
    refine List.map_congr_left fun p _=> ?_
    show T.tup (T.int (0+(j:Int)) :: _)=T.tup (T.int (j:Int) :: _)
    rw [Int.zero_add]
   rw [← hm]
  rw [e,eb]
  obtain ⟨acc',y2,r1,r2,r3,r4⟩:=UY H js (fun i hi=>hj i (List.mem_cons_of_mem _ hi)) (acc++ps.map (j :: ·)) (.vl (.int (0+(j:Int)))) (fun p hp=>by
   rcases List.mem_append.mp hp with z | z
   ·exact ha p z
   ·obtain ⟨q,hq,rfl⟩:=List.mem_map.mp z
    obtain ⟨u,hu⟩:=e3 q hq
    refine ⟨u, ?_⟩
    show (match xs[j]? with | some x=>u3 x q | none=>none)=some u
    rw [hx]; exact hu) (by rw [List.length_append,List.length_map]; omega)
  rw [List.length_append,List.length_map] at r2 r3
  refine ⟨acc',y2,r1,by omega, ?_,r4⟩
  rw [List.map_cons,List.sum_cons,hsz]
  omega
theorem qB:∀ {xs:List T} {x:T},x∈xs->dep x<=Je xs
 | y :: ys,x,h=>by
  simp only [Je]
  rcases List.mem_cons.mp h with rfl | h
  ·omega
  ·have:=qB h; omega
def lim:Nat:=900000
theorem Up:lim+lim+lim+10<=bnd:=by decide
theorem X0:(lim:Int)+10 < 1000000:=by decide
abbrev yZ (c:List T->R T) (t:T):Prop:=∃ ps:List (List Nat),c [t]= .ok (.lst (ps.map pth))/\0 < ps.length/\ps.length<=siz t/\∀ p∈ps,∃ u,u3 t p=some u
theorem wl:∀ xs:List T,xs.length<=jL xs
 | []=>Nat.zero_le _
 | x :: xs=>by
  have:=Uo x
  have:=wl xs
  simp only [jL,List.length_cons]
  omega
theorem K6 {xs:List T} {a b:Sl} (h:(xs.length:Int) < 1000000):Zd (ap1 Z0 (vB 0)) [.vl (.tup xs),a,b]= .ok (rng 0 xs.length):=by
 unfold Zd
 rw [Zn,w0,bOk,ZU,bOk]
 dsimp only
 rw [if_pos ⟨by omega,by omega⟩,Int.toNat_natCast]
theorem qC (t:T) (ps:List (List Nat)) (y:Sl):zo (zN (vE 1) [.vl t, .ow (ps.map pth),y])= .ok (.lst (ps.map pth)):=rfl
theorem K7 (t:T):U1 1 (z9 (ZC zg) zg) [.vl t, .un, .un]= .nx [.vl t, .ow [.tup []], .un]:=rfl
theorem Vn {c:List T->R T} (t:T):zo (b_n c (en0 3 [t]))=zo (match (tru (.bl (isT "tuple" t))).s fun k=>if k=true then ju (Zd (ap1 Z0 (vB 0))) (zw 2) (Vm c) [.vl t, .ow [.tup []], .un] else nxS [.vl t, .ow [.tup []], .un] with | .nx ρ=>zN (vE 1) ρ | r=>r):=by
 have e:zo (b_n c (en0 3 [t]))=zo (b_n c [.vl t, .un, .un]):=rfl
 rw [e,b_n,zE,K7]
 dsimp only
 rw [zE,ZJ,jS,Zn,w0,bOk]
 rfl
theorem Y0 {c:List T->R T} (xs:List T) (hs:jL xs+1<=lim) (H:∀ x∈xs,yZ c x):yZ (fun ts=>zo (b_n c (en0 3 ts))) (.tup xs):=by
 have hb:=Up
 have hm:=X0
 have H:∀ x∈xs,∃ ps:List (List Nat),c [x]= .ok (.lst (ps.map pth))/\ps.length<=siz x/\∀ p∈ps,∃ u,u3 x p=some u:=fun x hx=>by
  obtain ⟨ps,r1,r2,r3,r4⟩:=H x hx
  exact ⟨ps,r1,r3,r4⟩
 have hlen:=wl xs
 obtain ⟨acc,y,r1,r2,r3,r4⟩:=UY H (List.range xs.length) (fun j hj=>List.mem_range.mp hj) [[]] .un (fun p hp=>by
  rw [List.mem_singleton.mp hp]; exact ⟨_,rfl⟩) (by rw [Um,List.length_singleton]; omega)
 rw [Um,List.length_singleton] at r3
 rw [List.length_singleton] at r2
 refine ⟨acc, ?_,by omega,by simp only [siz]; omega,r4⟩
 have ef:ju (Zd (ap1 Z0 (vB 0))) (zw 2) (Vm c) [.vl (.tup xs), .ow [.tup []], .un]= .nx [.vl (.tup xs), .ow (acc.map pth),y]:=by
  unfold ju
  rw [K6 (by omega),Za]
  exact r1
 dsimp only
 rw [Vn,show isT "tuple" (.tup xs)=true from rfl,ZO,Za,if_pos rfl,ef]
 exact qC _ acc y
theorem Y1 {c:List T->R T} (t:T) (ht:∀ xs,t ≠ .tup xs):yZ (fun ts=>zo (b_n c (en0 3 ts))) t:=by
 have e:isT "tuple" t=false:=by
  cases t with
  | tup xs=>exact (ht xs rfl).elim
  | _=>rfl
 refine ⟨[[]], ?_,by decide,Uo t,fun p hp=> ?_⟩
 ·dsimp only
  rw [Vn,e,ZO,Za,if_neg Bool.false_ne_true]
  exact qC t [[]] .un
 rw [List.mem_singleton.mp hp]; exact ⟨t,by cases t <;> rfl⟩
theorem Uq {c:List T->R T} (t:T) (hs:siz t<=lim) (H:∀ xs,t= .tup xs->∀ x∈xs,yZ c x):yZ (fun ts=>zo (b_n c (en0 3 ts))) t:=by
 by_cases ht:∃ xs,t= .tup xs
 ·obtain ⟨xs,rfl⟩:=ht
  simp only [siz] at hs
  exact Y0 xs hs (H xs rfl)
 ·exact Y1 t fun xs z=>ht ⟨xs,z⟩
theorem qD (n:Nat):∀ (t:T),dep t<=n->siz t<=lim->yZ (S_n n 0) t:=by
 induction n with
 | zero=>intro t h; cases t <;> simp [dep] at h
 | succ n ih=>
  intro t h hs
  exact Uq t hs fun xs e x hx=>by
   subst e
   simp only [dep,siz] at h hs
   have a:=qB hx
   have b:=WF hx
   exact ih x (by omega) (by omega)
theorem uz {xs:List T} {j:Nat} {x:T} (h:xs[j]? =some x):ixT (.tup xs) (.int (j:Int))= .ok x:=by
 show atT xs j=_
 unfold atT
 rw [jp h]
theorem wM {xs:List T} {i:Nat} {r:List Nat} {u:T} (h:u3 (.tup xs) (i :: r)=some u):∃ x,xs[i]? =some x/\u3 x r=some u:=by
 have h:(match xs[i]? with | some x=>u3 x r | none=>none)=some u:=h
 cases hx:xs[i]? with
 | none=>rw [hx] at h; cases h
 | some x=>rw [hx] at h; exact ⟨x,rfl,h⟩
theorem WG {t:T} {i:Nat} {r:List Nat} {u:T} (h:u3 t (i :: r)=some u):∃ xs,t= .tup xs:=by
 cases t with
 | tup xs=>exact ⟨xs,rfl⟩
 | _=>cases h
theorem UZ (t:T):u3 t []=some t:=by cases t <;> rfl
theorem qE {X:Sl}:∀ (p:List Nat) (t u:T) (y:Sl),u3 t p=some u->∃ y',j5 (zw 2) (zJ 0 (ze ixT (vE 0) (vE 2))) (p.map fun (i:Nat)=>T.int (i:Int)) [.vl t,X,y]= .nx [.vl u,X,y']
 | [],t,u,y,h=>by
  rw [UZ] at h
  cases h
  exact ⟨y,rfl⟩
 | i :: r,t,u,y,h=>by
  obtain ⟨xs,rfl⟩:=WG h
  obtain ⟨x,hx,hr⟩:=wM h
  obtain ⟨y',e⟩:=qE (X:=X) r x u (.vl (.int (i:Int))) hr
  refine ⟨y', ?_⟩
  have e1:j5 (zw 2) (zJ 0 (ze ixT (vE 0) (vE 2))) ((i :: r).map fun (i:Nat)=>T.int (i:Int)) [.vl (.tup xs),X,y]=match zJ 0 (ze ixT (vE 0) (vE 2)) [.vl (.tup xs),X, .vl (.int (i:Int))] with
   | .nx ρ2=>j5 (zw 2) (zJ 0 (ze ixT (vE 0) (vE 2))) (r.map fun (j:Nat)=>T.int (j:Int)) ρ2
   | .ct ρ2=>j5 (zw 2) (zJ 0 (ze ixT (vE 0) (vE 2))) (r.map fun (j:Nat)=>T.int (j:Int)) ρ2
   | .bk ρ2=> .nx ρ2
   | r=>r:=rfl
  rw [e1,j3,zl,v0,bOk,v2,bOk,uz hx,Za]
  exact e
theorem Ga {t u:T} {p:List Nat} (h:u3 t p=some u):Xy [t,pth p]= .ok u:=by
 obtain ⟨y',e⟩:=qE (X:= .vl (pth p)) p t u .un h
 have e0:Xy [t,pth p]=zo (KD [.vl t, .vl (pth p), .un]):=rfl
 have ef:ju (ZW (vE 1)) (zw 2) (zJ 0 (ze ixT (vE 0) (vE 2))) [.vl t, .vl (pth p), .un]= .nx [.vl u, .vl (pth p),y']:=e
 rw [e0,KD,zE,ef]
 rfl
def uA:T->List Nat->T->T
 | _,[],v=>v
 | .tup xs,i :: r,v=>match xs[i]? with
  | some x=> .tup (xs.take i++[uA x r v]++xs.drop (i+1))
  | none=> .tup xs
 | t,_ :: _,_=>t
theorem uB {xs:List T} {i:Nat} (h:i < xs.length):slT (.tup xs) none (some (i:Int))= .ok (.tup (xs.take i)):=by
 show R.ok (T.tup (cut xs none (some (i:Int))))=_
 have:cut xs none (some (i:Int))=xs.take i:=by
  unfold cut
  rw [HT.sIx_none,HT.sIx_nat,Nat.min_eq_left (by omega),Nat.sub_zero,List.drop_zero]
 rw [this]
theorem uC {xs:List T} {i:Nat} (h:i<=xs.length):slT (.tup xs) (some (i:Int)) none= .ok (.tup (xs.drop i)):=by
 show R.ok (T.tup (cut xs (some (i:Int)) none))=_
 have:cut xs (some (i:Int)) none=xs.drop i:=by
  unfold cut
  rw [HT.sIx_none,HT.sIx_nat,Nat.min_eq_left h]
  exact List.take_of_length_le (by rw [List.length_drop]; omega)
 rw [this]
theorem vv {xs:List T} {i j:Nat} (hi:i<=xs.length) (hj:j<=xs.length):slT (.tup xs) (some (i:Int)) (some (j:Int))= .ok (.tup ((xs.drop i).take (j - i))):=by
 show R.ok (T.tup (cut xs (some (i:Int)) (some (j:Int))))=_
 have:cut xs (some (i:Int)) (some (j:Int))=(xs.drop i).take (j - i):=by
  unfold cut
  rw [HT.sIx_nat,HT.sIx_nat,Nat.min_eq_left hi,Nat.min_eq_left hj]
 rw [this]
theorem JB {xs ys:List T} (h:xs.length+ys.length<=bnd):zt (.tup xs) (.tup ys)= .ok (.tup (xs++ys)):=if_pos h
theorem jF {f:En->R T} {ρ:En} {i:Int} (h:f ρ= .ok (.int i)):zU f ρ= .ok (some i):=by
 unfold zU; rw [h]; rfl
theorem vw {c:List T->R T} {xs:List T} {i:Nat} {r:List Nat} {v x w:T} (hx:xs[i]? =some x) (hl:xs.length<=lim) (hc:c [x,pth r,v]= .ok w):
  zo (b_a c (en0 4 [.tup xs,pth (i :: r),v]))= .ok (.tup (xs.take i++[w]++xs.drop (i+1))):=by
 have hi:i < xs.length:=(List.getElem?_eq_some_iff.mp hx).1
 have hb:=Up
 have e:zo (b_a c (en0 4 [.tup xs,pth (i :: r),v]))=zo (b_a c [.vl (.tup xs), .vl (pth (i :: r)), .vl v, .un]):=rfl
 have e1:zx eqC (vB 1) (ZC zg) [.vl (.tup xs), .vl (pth (i :: r)), .vl v, .un]= .ok false:=rfl
 have e2:zJ 3 (ze ixT (vE 1) (cE (.int 0))) [.vl (.tup xs), .vl (pth (i :: r)), .vl v, .un]= .nx [.vl (.tup xs), .vl (pth (i :: r)), .vl v, .vl (.int (i:Int))]:=by
  rw [j3,zl,v1,bOk,Zg,bOk,show ixT (pth (i :: r)) (.int 0)= .ok (.int (i:Int)) from at0,Za]; rfl
 rw [e,b_a,zE,ZJ,e1,Za,if_neg Bool.false_ne_true]
 unfold nxS
 dsimp only
 rw [zE,e2]
 dsimp only
 rw [Z7,j2,j2,j2,j2,jt,j6]
 have ep:slE (vE 1) (zU (cE (.int 1))) noO [.vl (.tup xs), .vl (pth (i :: r)), .vl v, .vl (.int (i:Int))]= .ok (pth r):=by
  rw [JR,v1,bOk,Vk,bOk,Ya,bOk]
  exact cut1
 have ec:zc 3 c (z9 (ze ixT (vE 0) (vE 3)) (z9 (slE (vE 1) (zU (cE (.int 1))) (noO)) (z9 (vE 2) (zg)))) [.vl (.tup xs), .vl (pth (i :: r)), .vl v, .vl (.int (i:Int))]= .ok w:=by
  rw [Zq,zl,v0,bOk,v3,bOk,uz hx,bOk,ep,bOk,v2,bOk,hc]
 have ea:zt (.int (i:Int)) (.int 1)= .ok (.int ((i+1:Nat):Int)):=by
  rw [Zl,Int.natCast_add]; rfl
 have eb:ze zt (vE 3) (cE (.int 1)) [.vl (.tup xs), .vl (pth (i :: r)), .vl v, .vl (.int (i:Int))]= .ok (.int ((i+1:Nat):Int)):=by
  rw [zl,v3,bOk,Zg,bOk,ea]
 rw [zl,zl,JR,v0,bOk,Ya,bOk,jF v3,bOk,uB hi,bOk,KQ ec,bOk,JB (by rw [List.length_take,List.length_singleton]; omega),bOk,JR,v0,bOk,jF eb,bOk,Ya,bOk,uC (by omega),bOk]
 exact JB (by rw [List.length_append,List.length_take,List.length_singleton,List.length_drop]; omega)
theorem K8 (n:Nat):∀ (p:List Nat) (t u v:T),p.length < n->siz t<=lim->u3 t p=some u->S_a n 0 [t,pth p,v]= .ok (uA t p v):=by
 induction n with
 | zero=>intro p t u v h; omega
 | succ n ih=>
  intro p t u v h hs hg
  cases p with
  | nil=>
   have:uA t [] v=v:=by cases t <;> rfl
   rw [this]
   rfl
  | cons i r=>
   obtain ⟨xs,rfl⟩:=WG hg
   obtain ⟨x,hx,hr⟩:=wM hg
   simp only [siz] at hs
   have hl:=wl xs
   have hz:=WF (List.mem_of_getElem? hx)
   rw [List.length_cons] at h
   have hc:=ih r x u v (by omega) (by omega) hr
   have:=vw (c:=S_a n 0) (r:=r) hx (by omega) hc
   have e:uA (.tup xs) (i :: r) v= .tup (xs.take i++[uA x r v]++xs.drop (i+1)):=by
    show (match xs[i]? with | some x=>T.tup (xs.take i++[uA x r v]++xs.drop (i+1)) | none=> .tup xs)=_
    rw [hx]
   rw [e]
   exact this
theorem J4:∀ (xs ys:List T),jL (xs++ys)=jL xs+jL ys
 | [],ys=>by simp [jL]
 | x :: xs,ys=>by simp only [List.cons_append,jL,J4 xs ys]; omega
theorem J6:∀ (xs ys:List T),Je (xs++ys)=max (Je xs) (Je ys)
 | [],ys=>by simp [Je]
 | x :: xs,ys=>by simp only [List.cons_append,Je,J6 xs ys]; omega
theorem J7:∀ {xs ys:List T},J0 (xs++ys)↔J0 xs/\J0 ys
 | [],ys=>by simp [J0]
 | x :: xs,ys=>by simp only [List.cons_append,J0,J7 (xs:=xs) (ys:=ys),and_assoc]
theorem vx {xs:List T} {i:Nat} {x:T} (h:xs[i]? =some x):xs=xs.take i++([x]++xs.drop (i+1)):=by
 obtain ⟨hi,rfl⟩:=List.getElem?_eq_some_iff.mp h
 rw [List.singleton_append,← List.drop_eq_getElem_cons,List.take_append_drop]
theorem wN {xs:List T} {i:Nat} {x:T} (h:xs[i]? =some x):(J0 xs->J0 (xs.take i)/\sOk x/\J0 (xs.drop (i+1)))/\Je (xs.take i)<=Je xs/\dep x<=Je xs/\Je (xs.drop (i+1))<=Je xs/\jL (xs.take i)+siz x+jL (xs.drop (i+1))=jL xs:=by
 have e:=vx h
 have e1:J0 xs↔J0 (xs.take i)/\J0 [x]/\J0 (xs.drop (i+1)):=by
  conv=>lhs; rw [e,J7,J7]
 have e2:Je xs=max (Je (xs.take i)) (max (Je [x]) (Je (xs.drop (i+1)))):=by
  conv=>lhs; rw [e,J6,J6]
 have e3:jL xs=jL (xs.take i)+(jL [x]+jL (xs.drop (i+1))):=by
  conv=>lhs; rw [e,J4,J4]
 simp only [Je,jL,Nat.add_zero,Nat.max_zero] at e2 e3
 refine ⟨fun q=> ?_,by omega,by omega,by omega,by omega⟩
 have:=e1.mp q
 simp only [J0,and_true] at this
 exact this
theorem qF:∀ (p:List Nat) (t v:T),sOk t->sOk v->sOk (uA t p v)/\dep (uA t p v)<=dep t+dep v/\siz (uA t p v)<=siz t+siz v
 | [],t,v,ht,hv=>by
  have:uA t [] v=v:=by cases t <;> rfl
  rw [this]
  exact ⟨hv,by omega,by omega⟩
 | i :: r,t,v,ht,hv=>by
  by_cases hx:∃ xs x,t= .tup xs/\xs[i]? =some x
  ·obtain ⟨xs,x,rfl,hx⟩:=hx
   have e:uA (.tup xs) (i :: r) v= .tup (xs.take i++[uA x r v]++xs.drop (i+1)):=by
    show (match xs[i]? with | some x=>T.tup (xs.take i++[uA x r v]++xs.drop (i+1)) | none=> .tup xs)=_
    rw [hx]
   obtain ⟨q1,q2,q3,q4,q5⟩:=wN hx
   obtain ⟨s1,s2,s3⟩:=q1 (jg ht)
   obtain ⟨i1,i2,i3⟩:=qF r x v s2 hv
   rw [e]
   refine ⟨?_, ?_, ?_⟩
   ·simp only [sOk,J7,J0,and_true]
    exact ⟨⟨s1,i1⟩,s3⟩
   ·simp only [dep,J6,Je,Nat.max_zero]
    omega
   ·simp only [siz,J4,jL,Nat.add_zero]
    omega
  ·have:uA t (i :: r) v=t:=by
    cases t with
    | tup xs=>
     show (match xs[i]? with | some x=>T.tup (xs.take i++[uA x r v]++xs.drop (i+1)) | none=> .tup xs)=_
     cases hi:xs[i]? with
     | none=>rfl
     | some x=>exact (hx ⟨xs,x,rfl,hi⟩).elim
    | _=>rfl
   rw [this]
   exact ⟨ht,by omega,by omega⟩
theorem qG:∀ (p:List Nat) (t u:T),u3 t p=some u->(sOk t->sOk u)/\dep u+p.length<=dep t/\siz u<=siz t
 | [],t,u,h=>by
  rw [UZ] at h
  cases h
  exact ⟨id,Nat.le_refl _,Nat.le_refl _⟩
 | i :: r,t,u,h=>by
  obtain ⟨xs,rfl⟩:=WG h
  obtain ⟨x,hx,hr⟩:=wM h
  obtain ⟨q1,q2,q3,q4,q5⟩:=wN hx
  obtain ⟨i1,i2,i3⟩:=qG r x u hr
  refine ⟨fun q=>i1 (q1 (jg q)).2.1, ?_, ?_⟩
  ·simp only [dep,List.length_cons]; omega
  ·simp only [siz]; omega
theorem qH (t:T):1<=dep t:=by cases t <;> simp [dep]
theorem X1 {xs:List T} {j:Nat} {x:T} (h:xs[j]? =some x):ixT (.lst xs) (.int (j:Int))= .ok x:=by
 show atT xs j=_
 unfold atT
 rw [jp h]
theorem ixl {xs:List T} {i:Int} (h0:0<=i) (h1:i < (xs.length:Int)):∃ x,ixT (.lst xs) (.int i)= .ok x/\x∈xs:=by
 have hj:i.toNat < xs.length:=by omega
 have e:i=((i.toNat:Nat):Int):=by omega
 have q:=X1 (List.getElem?_eq_getElem hj)
 rw [← e] at q
 exact ⟨xs[i.toNat],q,List.getElem_mem hj⟩
def jU (u:T):List T:=[.int 0, .int 1, .int (-21), .int 21, .int 3, .int 4, .bl true, .non, .str "a", .str "abcd", .str "A", .str "", .str "many", .str "row", .tup [], .tup [u], .lst [u], .tup [.str "whole", .int 1, .int 0]]
theorem Y2 {u:T} {D S:Nat} (h:Fit D S u):∀ v∈jU u,Fit (D+2) (2*S+4) v:=by
 obtain ⟨h1,h2,h3⟩:=h
 have hl:∀ n:Nat,n<=10->n<=bnd:=fun n h=>Nat.le_trans h (by decide)
 intro v hv
 unfold jU at hv
 simp only [List.mem_cons,List.not_mem_nil,or_false] at hv
 rcases hv with rfl | rfl | rfl | rfl | rfl | rfl | rfl | rfl | rfl | rfl | rfl | rfl | rfl | rfl | rfl | rfl | rfl | rfl
 all_goals first
  | exact ⟨by simp only [sOk,J0,and_true]; first | decide | exact h1,by simp only [dep,Je]; omega,by simp only [siz,jL]; omega⟩
  | exact ⟨by simp only [sOk,J0],by simp only [dep,Je]; omega,by simp only [siz,jL]; omega⟩
  | exact ⟨hl _ (by decide),by simp only [dep,Je]; omega,by simp only [siz,jL]; omega⟩
theorem WH {a b t d p e g h i:T} {j:Sl} {f:En->R T} {v w:T} (hj:Wa j=j) (hf:f [.vl a, .vl b, .vl t, .vl d, .vl p, .vl e, .vl g, .vl h,j]= .ok v) (hw:f_a 40 [t,p,v]= .ok w):
  zo (zN (zc 3 (f_a 40) (z9 (vE 2) (z9 (vE 4) (z9 f zg)))) [.vl a, .vl b, .vl t, .vl d, .vl p, .vl e, .vl g, .vl h,j])= .ok w:=by
 have ez:frz [.vl a, .vl b, .vl t, .vl d, .vl p, .vl e, .vl g, .vl h,j]=[.vl a, .vl b, .vl t, .vl d, .vl p, .vl e, .vl g, .vl h,j]:=by
  show [Sl.vl a, .vl b, .vl t, .vl d, .vl p, .vl e, .vl g, .vl h,Wa j]=_
  rw [hj]
 rw [Z7,ez,j6,Zq,v2,bOk,v4,bOk,hf,bOk]
 exact hw
theorem Gb (j:Int):Zi (.int 2) (.int j)= .ok (.int (2*j)):=qA _ _ (.inl ⟨by decide,by decide⟩)
abbrev vy:En->R T:=ze zt (slE (vE 5) (noO) (zU (vE 8))) (slE (vE 5) (zU (ze zt (vE 8) (cE (.int 1)))) (noO))
abbrev vz:En->R T:=ze zt (ze zt (slE (vE 5) (noO) (zU (vE 8))) (slE (vE 5) (zU (vE 8)) (zU (ze zt (vE 8) (cE (.int 1)))))) (slE (vE 5) (zU (vE 8)) (noO))
abbrev en9 (a:T) (k:Int) (t d p e:T) (g:List T) (w:Int) (j:Sl):En:=[.vl a, .vl (.int k), .vl t, .vl d, .vl p, .vl e, .vl (.lst g), .vl (.int w),j]
theorem uD {xs:List T} {i:Nat} {x:T} (h:xs[i]? =some x):xs.drop i=x :: xs.drop (i+1):=by
 obtain ⟨hi,rfl⟩:=List.getElem?_eq_some_iff.mp h
 exact List.drop_eq_getElem_cons hi
theorem X2 {a t d p:T} {g xs:List T} {k w:Int} {i:Nat} {x:T} (hx:xs[i]? =some x) (hl:xs.length<=lim):
  vy (en9 a k t d p (.tup xs) g w (.vl (.int (i:Int))))= .ok (.tup (xs.take i++xs.drop (i+1)))/\
  vz (en9 a k t d p (.tup xs) g w (.vl (.int (i:Int))))= .ok (.tup (xs.take i++[x]++(x :: xs.drop (i+1)))):=by
 have hi:i < xs.length:=(List.getElem?_eq_some_iff.mp hx).1
 have hb:=Up
 have e5:vE 5 (en9 a k t d p (.tup xs) g w (.vl (.int (i:Int))))= .ok (.tup xs):=rfl
 have e8:vE 8 (en9 a k t d p (.tup xs) g w (.vl (.int (i:Int))))= .ok (.int (i:Int)):=rfl
 have ea:zt (.int (i:Int)) (.int 1)= .ok (.int ((i+1:Nat):Int)):=by
  rw [Zl,Int.natCast_add]; rfl
 have eb:ze zt (vE 8) (cE (.int 1)) (en9 a k t d p (.tup xs) g w (.vl (.int (i:Int))))= .ok (.int ((i+1:Nat):Int)):=by
  rw [zl,e8,bOk,Zg,bOk,ea]
 have em:(xs.drop i).take (i+1 - i)=[x]:=by
  rw [uD hx,show i+1 - i=1 from by omega]; rfl
 constructor
 ·unfold vy
  rw [zl,JR,e5,bOk,Ya,bOk,jF e8,bOk,uB hi,bOk,JR,e5,bOk,jF eb,bOk,Ya,bOk,uC (by omega),bOk]
  exact JB (by rw [List.length_take,List.length_drop]; omega)
 ·unfold vz
  rw [zl,zl,JR,e5,bOk,Ya,bOk,jF e8,bOk,uB hi,bOk,JR,e5,bOk,jF e8,bOk,jF eb,bOk,vv (by omega) (by omega),bOk,em,JB (by rw [List.length_take,List.length_singleton]; omega),bOk,JR,e5,bOk,jF e8,bOk,Ya,bOk,uC (by omega),bOk,← uD hx]
  exact JB (by rw [List.length_append,List.length_take,List.length_singleton,List.length_drop]; omega)
theorem X3 {D S:Nat} {xs:List T} {i:Nat} {x:T} (hx:xs[i]? =some x) (h:Fit D S (.tup xs)):Fit (D+2) (2*S+4) (.tup (xs.take i++xs.drop (i+1)))/\Fit (D+2) (2*S+4) (.tup (xs.take i++[x]++(x :: xs.drop (i+1)))):=by
 obtain ⟨h1,h2,h3⟩:=h
 obtain ⟨q1,q2,q3,q4,q5⟩:=wN hx
 obtain ⟨s1,s2,s3⟩:=q1 (jg h1)
 simp only [dep,siz] at h2 h3
 refine ⟨⟨?_, ?_, ?_⟩,⟨?_, ?_, ?_⟩⟩
 ·simp only [sOk,J7]; exact ⟨s1,s3⟩
 ·simp only [dep,J6]; omega
 ·simp only [siz,J4]; omega
 ·simp only [sOk,J7,J0,and_true]; exact ⟨⟨s1,s2⟩,s2,s3⟩
 ·simp only [dep,J6,Je]; omega
 ·simp only [siz,J4,jL]; omega
abbrev W0 (cp:List T->R T) (cput:List T->R T):En->RS:=
  (zz (ifS (wa (jb (ap1 (Jc "tuple") (vB 5))) (zx neC (vB 5) (ZC (zg)))) (zz (zJ 8 (zc 3 cp (z9 (vE 0) (z9 (ze zt (vE 1) (cE (.int 2))) (z9 (ap1 Z0 (vB 5)) (zg))))))
  (zN (zc 3 cput (z9 (vE 2) (z9 (vE 4) (z9 (ze ixT (ZD (z9 vy (z9 vz (zg)))) (ze wd (vE 7) (cE (.int 2)))) (zg))))))) (nxS))
  (zz (ifS (jb (ap1 (Jc "int") (vB 5))) (zN (zc 3 cput (z9 (vE 2) (z9 (vE 4) (z9 (ze jK (ze zt (vE 5) (cE (.int 1))) (ze Zi (cE (.int 2)) (ze wd (vE 7) (cE (.int 2))))) (zg)))))) (nxS))
  (zN (zc 3 cput (z9 (vE 2) (z9 (vE 4) (z9 (ZC (z9 (cE (.str "row")) (z9 (ZC (z9 (vE 5) (z9 (vE 5) (zg)))) (zg)))) (zg))))))))
theorem lst2 {f g:En->R T} {ρ:En} {x y:T} (hf:f ρ= .ok x) (hg:g ρ= .ok y):ZD (z9 f (z9 g zg)) ρ= .ok (.lst [x,y]):=by
 unfold ZD z9 zg
 rw [hf,hg]; rfl
theorem vA (ns:List Int) {t d p:T} {g xs:List T} {k w:Int} (h0:0<=k) {D S:Nat} (hl:S<=lim) (hF:Fit D S (.tup xs)) (hne:xs ≠ []) (H:∀ v,Fit (D+2) (2*S+4) v->∃ r,f_a 40 [t,p,v]= .ok r):
  ∃ v r,Fit (D+2) (2*S+4) v/\f_a 40 [t,p,v]= .ok r/\zo (W0 f_4 (f_a 40) (en9 (scr ns) k t d p (.tup xs) g w .un))= .ok r:=by
 have hxl:=wl xs
 have hz:=hF.sz
 simp only [siz] at hz
 have hpos:0 < xs.length:=List.length_pos_iff.mpr hne
 obtain ⟨q,hq,q0,q1⟩:=Ze ns (k+2) (xs.length:Int) (by omega) (by omega)
 have hqi:q=((q.toNat:Nat):Int):=by omega
 have hqx:xs[q.toNat]? =some (xs[q.toNat]'(by omega)):=List.getElem?_eq_getElem (by omega)
 generalize xs[q.toNat]'(by omega)=x at hqx
 generalize q.toNat=i at hqi hqx
 subst hqi
 obtain ⟨c1,c2⟩:=X2 (a:=scr ns) (t:=t) (d:=d) (p:=p) (g:=g) (k:=k) (w:=w) hqx (by omega)
 obtain ⟨f1,f2⟩:=X3 hqx hF
 have ec:wa (jb (ap1 (Jc "tuple") (vB 5))) (zx neC (vB 5) (ZC (zg))) (en9 (scr ns) k t d p (.tup xs) g w .un)= .ok true:=by
  cases xs with
  | nil=>exact (hne rfl).elim
  | cons _ _=>rfl
 have es:zJ 8 (zc 3 f_4 (z9 (vE 0) (z9 (ze zt (vE 1) (cE (.int 2))) (z9 (ap1 Z0 (vB 5)) (zg))))) (en9 (scr ns) k t d p (.tup xs) g w .un)= .nx (en9 (scr ns) k t d p (.tup xs) g w (.vl (.int (i:Int)))):=by
  rw [j3,Zq,v0,bOk,zl,v1,bOk,Zg,bOk,Zl,bOk,Zn,show vB 5 (en9 (scr ns) k t d p (.tup xs) g w .un)= .ok (.tup xs) from rfl,bOk,ZU,bOk,hq,Za]
  rfl
 have em:ze wd (vE 7) (cE (.int 2)) (en9 (scr ns) k t d p (.tup xs) g w (.vl (.int (i:Int))))= .ok (.int (w % 2)):=rfl
 have hm:w % 2=0\/w % 2=1:=by omega
 have go:∀ v,ze ixT (ZD (z9 vy (z9 vz (zg)))) (ze wd (vE 7) (cE (.int 2))) (en9 (scr ns) k t d p (.tup xs) g w (.vl (.int (i:Int))))= .ok v->Fit (D+2) (2*S+4) v->∃ v r,Fit (D+2) (2*S+4) v/\f_a 40 [t,p,v]= .ok r/\zo (W0 f_4 (f_a 40) (en9 (scr ns) k t d p (.tup xs) g w .un))= .ok r:=fun v hv fv=>by
  obtain ⟨r,hr⟩:=H v fv
  refine ⟨v,r,fv,hr, ?_⟩
  have e1:=WH (i:= .non) (j:= .vl (.int (i:Int))) rfl hv hr
  unfold W0
  rw [zE,ZJ,ec,Za,if_pos rfl,zE,es]
  dsimp only
  rw [Z7] at e1 ⊢
  rw [j6] at e1
  rw [e1]
  rfl
 rcases hm with hm | hm
 ·exact go _ (by rw [zl,lst2 c1 c2,bOk,em,bOk,hm]; rfl) f1
 ·exact go _ (by rw [zl,lst2 c1 c2,bOk,em,bOk,hm]; rfl) f2
abbrev intE:En->R T:=ze jK (ze zt (vE 5) (cE (.int 1))) (ze Zi (cE (.int 2)) (ze wd (vE 7) (cE (.int 2))))
abbrev rowE:En->R T:=ZC (z9 (cE (.str "row")) (z9 (ZC (z9 (vE 5) (z9 (vE 5) (zg)))) (zg)))
theorem qI {D S:Nat} (i:Int):Fit (D+2) (2*S+4) (.int i):=⟨by simp only [sOk],by simp only [dep]; omega,by simp only [siz]; omega⟩
theorem qJ {D S:Nat} {u:T} (h:Fit D S u):Fit (D+2) (2*S+4) (.tup [.str "row", .tup [u,u]]):=by
 obtain ⟨h1,h2,h3⟩:=h
 have hd:=qH u
 refine ⟨?_, ?_, ?_⟩
 ·simp only [sOk,J0,and_true]; exact ⟨by decide,h1,h1⟩
 ·simp only [dep,Je]; omega
 ·simp only [siz,jL]; omega
theorem vC {cp:List T->R T} {a t d p u:T} {g:List T} {k w:Int} {r:T} (ht:wa (jb (ap1 (Jc "tuple") (vB 5))) (zx neC (vB 5) (ZC (zg))) (en9 a k t d p u g w .un)= .ok false) (hi:isT "int" u=false)
  (hr:f_a 40 [t,p, .tup [.str "row", .tup [u,u]]]= .ok r):zo (W0 cp (f_a 40) (en9 a k t d p u g w .un))= .ok r:=by
 have e1:=WH (f:=rowE) (a:=a) (b:= .int k) (t:=t) (d:=d) (p:=p) (e:=u) (g:= .lst g) (h:= .int w) (i:= .non) (j:= .un) rfl (vt Zg (vt rfl rfl)) hr
 have ei:jb (ap1 (Jc "int") (vB 5)) (en9 a k t d p u g w .un)= .ok false:=by
  show tru (.bl (isT "int" u))=_
  rw [hi]; rfl
 unfold W0
 rw [zE,ZJ,ht,Za,if_neg Bool.false_ne_true]
 unfold nxS
 dsimp only
 rw [zE,ZJ,ei,Za,if_neg Bool.false_ne_true]
 exact e1
theorem vD {cp:List T->R T} {a t d p u:T} {g:List T} {k w i:Int} {r:T} (ht:isT "tuple" u=false) (hi:isT "int" u=true) (ha:zt u (.int 1)= .ok (.int i))
  (hr:f_a 40 [t,p, .int (i - 2*(w % 2))]= .ok r):zo (W0 cp (f_a 40) (en9 a k t d p u g w .un))= .ok r:=by
 have e0:intE (en9 a k t d p u g w .un)= .ok (.int (i - 2*(w % 2))):=by
  show ((zt u (.int 1)).bind fun x=>(Zi (.int 2) (.int (w % 2))).bind fun y=>jK x y)=_
  rw [ha,Gb]
  rfl
 have e1:=WH (f:=intE) (a:=a) (b:= .int k) (t:=t) (d:=d) (p:=p) (e:=u) (g:= .lst g) (h:= .int w) (i:= .non) (j:= .un) rfl e0 hr
 have et:wa (jb (ap1 (Jc "tuple") (vB 5))) (zx neC (vB 5) (ZC (zg))) (en9 a k t d p u g w .un)= .ok false:=by
  show (tru (.bl (isT "tuple" u))).bind (fun x=>if x=true then _ else R.ok false)=_
  rw [ht]; rfl
 have ei:jb (ap1 (Jc "int") (vB 5)) (en9 a k t d p u g w .un)= .ok true:=by
  show tru (.bl (isT "int" u))=_
  rw [hi]; rfl
 unfold W0
 rw [zE,ZJ,et,Za,if_neg Bool.false_ne_true]
 unfold nxS
 dsimp only
 rw [zE,ZJ,ei,Za,if_pos rfl]
 rw [Z7] at e1 ⊢
 rw [j6] at e1
 rw [e1]
 rfl
theorem X5 (ns:List Int) {t d p u:T} {g:List T} {k w:Int} (h0:0<=k) {D S:Nat} (hl:S<=lim) (hF:Fit D S u) (H:∀ v,Fit (D+2) (2*S+4) v->∃ r,f_a 40 [t,p,v]= .ok r):
  ∃ v r,Fit (D+2) (2*S+4) v/\f_a 40 [t,p,v]= .ok r/\zo (W0 f_4 (f_a 40) (en9 (scr ns) k t d p u g w .un))= .ok r:=by
 have row:wa (jb (ap1 (Jc "tuple") (vB 5))) (zx neC (vB 5) (ZC (zg))) (en9 (scr ns) k t d p u g w .un)= .ok false->isT "int" u=false->∃ v r,Fit (D+2) (2*S+4) v/\f_a 40 [t,p,v]= .ok r/\zo (W0 f_4 (f_a 40) (en9 (scr ns) k t d p u g w .un))= .ok r:=fun e1 e2=>by
  obtain ⟨r,hr⟩:=H _ (qJ hF)
  exact ⟨_,r,qJ hF,hr,vC e1 e2 hr⟩
 have num:∀ i,isT "tuple" u=false->isT "int" u=true->zt u (.int 1)= .ok (.int i)->∃ v r,Fit (D+2) (2*S+4) v/\f_a 40 [t,p,v]= .ok r/\zo (W0 f_4 (f_a 40) (en9 (scr ns) k t d p u g w .un))= .ok r:=fun i e1 e2 e3=>by
  obtain ⟨r,hr⟩:=H _ (qI (i - 2*(w % 2)))
  exact ⟨_,r,qI _,hr,vD e1 e2 e3 hr⟩
 cases u with
 | tup xs=>
  by_cases hx:xs=[]
  ·subst hx; exact row rfl rfl
  ·exact vA ns h0 hl hF hx H
 | int i=>exact num (i+1) rfl rfl rfl
 | bl b=>exact num (b2 b+1) rfl rfl rfl
 | non=>exact row rfl rfl
 | str x=>exact row rfl rfl
 | lst x=>exact row rfl rfl
 | fz x=>exact row rfl rfl
theorem uE (ns:List Int) (k:Int) (h0:0<=k) {D S:Nat} (hD:D<=40) (hS:S<=lim) {t:T} (hF:Fit D S t):
  ∃ r,f_r [scr ns, .int k,t]= .ok r/\Fit (2*D+2) (3*S+4) r:=by
 obtain ⟨ht,hd,hs⟩:=hF
 have hs' :=Nat.le_trans hs hS
 obtain ⟨ps,hp,hp0,hpl,hpv⟩:=qD 40 t (Nat.le_trans hd hD) hs'
 have hp:f_n 40 [t]= .ok (.lst (ps.map pth)):=hp
 obtain ⟨q,hq,q0,q1⟩:=Ze ns k (ps.length:Int) h0 (by omega)
 obtain ⟨x,ex,hx⟩:=ixl (xs:=ps.map pth) q0 (by rw [List.length_map]; exact q1)
 obtain ⟨p,hpm,rfl⟩:=List.mem_map.mp hx
 obtain ⟨u,hu⟩:=hpv p hpm
 obtain ⟨g1,g2,g3⟩:=qG p t u hu
 have hdu:=qH u
 have hUF:Fit D S u:=⟨g1 ht,by omega,by omega⟩
 have hput:∀ v,f_a 40 [t,pth p,v]= .ok (uA t p v):=fun v=>K8 40 p t u v (by omega) hs' hu
 have fin:∀ v,Fit (D+2) (2*S+4) v->Fit (2*D+2) (3*S+4) (uA t p v):=fun v hv=>by
  obtain ⟨a,b,c⟩:=qF p t v ht hv.so
  have:=hv.dp
  have:=hv.sz
  exact ⟨a,by omega,by omega⟩
 obtain ⟨w,hw,w0',w1⟩:=Ze ns (k+1) 23 (by omega) (by omega)
 have e:f_r [scr ns, .int k,t]=zo (b_r f_4 (f_n 40) Xy (f_a 40) [.vl (scr ns), .vl (.int k), .vl t, .un, .un, .un, .un, .un, .un]):=rfl
 have e1:zJ 3 (zc 1 (f_n 40) (z9 (vE 2) (zg))) [.vl (scr ns), .vl (.int k), .vl t, .un, .un, .un, .un, .un, .un]= .nx [.vl (scr ns), .vl (.int k), .vl t, .vl (.lst (ps.map pth)), .un, .un, .un, .un, .un]:=by
  rw [j3,j1,v2,bOk,hp,Za]; rfl
 have e2:zJ 4 (ze ixT (vE 3) (zc 3 f_4 (z9 (vE 0) (z9 (vE 1) (z9 (ap1 Z0 (vB 3)) (zg)))))) [.vl (scr ns), .vl (.int k), .vl t, .vl (.lst (ps.map pth)), .un, .un, .un, .un, .un]= .nx [.vl (scr ns), .vl (.int k), .vl t, .vl (.lst (ps.map pth)), .vl (pth p), .un, .un, .un, .un]:=by
  rw [j3,zl,v3,bOk,Zq,v0,bOk,v1,bOk,Zn,w3,bOk,yT,bOk,List.length_map,hq,bOk,ex,Za]; rfl
 have e3:zJ 5 (zc 2 Xy (z9 (vE 2) (z9 (vE 4) (zg)))) [.vl (scr ns), .vl (.int k), .vl t, .vl (.lst (ps.map pth)), .vl (pth p), .un, .un, .un, .un]= .nx [.vl (scr ns), .vl (.int k), .vl t, .vl (.lst (ps.map pth)), .vl (pth p), .vl u, .un, .un, .un]:=by
  rw [j3,Z3,v2,bOk,v4,bOk,Ga hu,Za]; rfl
 rw [e,b_r,zE,e1]
 dsimp only
 rw [zE,e2]
 dsimp only
 rw [zE,e3]
 dsimp only
 rw [zE]
 have e4:zJ 6 (ZD (z9 (cE (.int 0)) (z9 (cE (.int 1)) (z9 (YG (cE (.int 21))) (z9 (cE (.int 21)) (z9 (cE (.int 3)) (z9 (cE (.int 4)) (z9 (cE (.bl true)) (z9 (cE .non) (z9 (cE (.str "a")) (z9 (cE (.str "abcd")) (z9 (cE (.str "A")) (z9 (cE (.str "")) (z9 (cE (.str "many")) (z9 (cE (.str "row")) (z9 (ZC (zg)) (z9 (ZC (z9 (vE 5) (zg))) (z9 (ZD (z9 (vE 5) (zg))) (z9 (ZC (z9 (cE (.str "whole")) (z9 (cE (.int 1)) (z9 (cE (.int 0)) (zg))))) (zg)))))))))))))))))))) [.vl (scr ns), .vl (.int k), .vl t, .vl (.lst (ps.map pth)), .vl (pth p), .vl u, .un, .un, .un]= .nx [.vl (scr ns), .vl (.int k), .vl t, .vl (.lst (ps.map pth)), .vl (pth p), .vl u, .vl (.lst (jU u)), .un, .un]:=rfl
 rw [e4]
 dsimp only
 have e5:zJ 7 (zc 3 f_4 (z9 (vE 0) (z9 (ze zt (vE 1) (cE (.int 1))) (z9 (ze zt (ap1 Z0 (vB 6)) (cE (.int 5))) (zg))))) [.vl (scr ns), .vl (.int k), .vl t, .vl (.lst (ps.map pth)), .vl (pth p), .vl u, .vl (.lst (jU u)), .un, .un]= .nx (en9 (scr ns) k t (.lst (ps.map pth)) (pth p) u (jU u) w .un):=by
  rw [j3,Zq,v0,bOk,zl,v1,bOk,Zg,bOk,Zl,bOk]
  rw [show ze zt (ap1 Z0 (vB 6)) (cE (.int 5)) [.vl (scr ns), .vl (.int k), .vl t, .vl (.lst (ps.map pth)), .vl (pth p), .vl u, .vl (.lst (jU u)), .un, .un]= .ok (.int 23) from rfl,bOk,hw,Za]
  rfl
 rw [zE,e5]
 dsimp only
 rw [zE,ZJ]
 have e6:zx ltC (vB 7) (ap1 Z0 (vB 6)) (en9 (scr ns) k t (.lst (ps.map pth)) (pth p) u (jU u) w .un)= .ok (decide (w < 18)):=rfl
 rw [e6,Za]
 by_cases h18:w < 18
 ·rw [decide_eq_true h18,if_pos rfl]
  obtain ⟨v,ev,hv⟩:=ixl (xs:=jU u) w0' (by show w < 18; exact h18)
  have hfv:=Y2 hUF v hv
  have er:=WH (f:=ze ixT (vE 6) (vE 7)) (a:=scr ns) (b:= .int k) (t:=t) (d:= .lst (ps.map pth)) (p:=pth p) (e:=u) (g:= .lst (jU u)) (h:= .int w) (i:= .non) (j:= .un) rfl (show ixT (.lst (jU u)) (.int w)= .ok v from ev) (hput v)
  refine ⟨_, ?_,fin v hfv⟩
  rw [Z7] at er ⊢
  rw [j6] at er
  rw [er]
  rfl
 ·rw [decide_eq_false h18,if_neg Bool.false_ne_true]
  obtain ⟨v,r,hfv,hr,et⟩:=X5 ns (t:=t) (d:= .lst (ps.map pth)) (p:=pth p) (u:=u) (g:=jU u) (k:=k) (w:=w) h0 hS hUF fun v _=>⟨_,hput v⟩
  rw [hput v] at hr
  cases hr
  exact ⟨_,et,fin v hfv⟩
theorem Wf (ρ:En):nxS ρ= .nx ρ:=rfl
inductive Kd where
 | whole (lo hi:Int)
 | pick (cs:List (Str×Int))
 | row (ks:List Kd)
 | many (k:Kd) (lo hi:Nat)
def J8 (c:Str×Int):T:= .tup [.str c.1, .int c.2]
mutual
def Kd.t:Kd->T
 | .whole lo hi=> .tup [.str "whole", .int lo, .int hi]
 | .pick cs=> .tup [.str "pick", .tup (cs.map J8)]
 | .row ks=> .tup [.str "row", .tup (Kd.ts ks)]
 | .many k lo hi=> .tup [.str "many",k.t, .int (lo:Int), .int (hi:Int)]
def Kd.ts:List Kd->List T
 | []=>[]
 | k :: ks=>k.t :: Kd.ts ks
end
theorem Kd.ts_map:∀ ks:List Kd,Kd.ts ks=ks.map Kd.t
 | []=>by simp only [Kd.ts,List.map_nil]
 | k :: ks=>by simp only [Kd.ts,List.map_cons,Kd.ts_map ks]
def Kd.Ok:Nat->Kd->Prop
 | 0,_=>False
 | _+1, .whole lo hi=> -20<=lo/\lo<=hi/\hi<=20
 | _+1, .pick cs=>1<=cs.length/\cs.length<=4/\(∀ c∈cs,Zp (.str c.1)=true/\1<=c.2/\c.2<=20)/\Dst (cs.map (·.1))
 | d+1, .row ks=>1<=ks.length/\ks.length<=3/\∀ k∈ks,Kd.Ok d k
 | d+1, .many k lo hi=>lo<=hi/\hi<=3/\Kd.Ok d k
theorem qK {c:T} (h:zq c=true):∃ p:Str×Int,c=J8 p/\Zp (.str p.1)=true/\1<=p.2/\p.2<=20:=by
 unfold zq at h
 split at h
 ·rename_i w i
  rw [Bool.and_eq_true,Bool.and_eq_true,decide_eq_true_eq,decide_eq_true_eq] at h
  cases w with
  | str x=>exact ⟨(x,i),rfl,h.1.1,h.1.2,h.2⟩
  | _=>cases h.1.1
 ·cases h
theorem Ur {α:Type} {P:T->Prop} {Q:α->Prop} {f:α->T} (H:∀ t,P t->∃ a,t=f a/\Q a):∀ (ts:List T),(∀ t∈ts,P t)->∃ as:List α,ts=as.map f/\∀ a∈as,Q a
 | [],_=>⟨[],rfl,fun _ h=>nomatch h⟩
 | t :: ts,h=>by
  obtain ⟨a,rfl,ha⟩:=H t (h t List.mem_cons_self)
  obtain ⟨as,rfl,has⟩:=Ur H ts fun u hu=>h u (List.mem_cons_of_mem _ hu)
  exact ⟨a :: as,rfl,fun b hb=>by
   rcases List.mem_cons.mp hb with rfl | hb
   ·exact ha
   ·exact has b hb⟩
theorem Us:∀ (d:Nat) (t:T),isK d t=true->∃ k:Kd,t=k.t/\k.Ok d
 | 0,_,h=>by cases h
 | d+1,t,h=>by
  have h:WA (isK d) t=true:=h
  unfold WA at h
  split at h
  ·rename_i hd r
   split at h
   ·rename_i e
    rw [JZ e]
    unfold JY at h
    split at h
    ·obtain ⟨i,j,rfl,rfl⟩:=wj h
     have h:(decide (-20<=i) && decide (i<=j) && decide (j<=20))=true:=h
     rw [Bool.and_eq_true,Bool.and_eq_true,decide_eq_true_eq,decide_eq_true_eq,decide_eq_true_eq] at h
     exact ⟨.whole i j,by simp only [Kd.t],h.1.1,h.1.2,h.2⟩
    ·cases h
   ·split at h
    ·rename_i e
     rw [JZ e]
     unfold uu at h
     split at h
     ·rename_i c
      unfold ut at h
      split at h
      ·rename_i cs
       rw [Bool.and_eq_true,Bool.and_eq_true,Bool.and_eq_true,decide_eq_true_eq,decide_eq_true_eq,decide_eq_true_eq] at h
       obtain ⟨⟨⟨h1,h2⟩,h3⟩,h4⟩:=h
       obtain ⟨as,rfl,has⟩:=Ur (fun t ht=>qK ht) cs fun c hc=>List.all_eq_true.mp h3 c hc
       rw [List.length_map] at h1 h2
       refine ⟨.pick as,by simp only [Kd.t],h1,h2,has, ?_⟩
       have e1:(as.map J8).map Z2=as.map (·.1):=by rw [List.map_map]; rfl
       rw [e1] at h4
       have:=(wJ (as.map (·.1)) []).mp (by rw [h4,List.length_map,List.length_map]; simp)
       exact fun k w hw hm=>this k w hw (by simpa using hm)
      ·cases h
     ·cases h
    ·split at h
     ·rename_i e
      rw [JZ e]
      unfold Vh at h
      split at h
      ·rename_i c
       unfold wH at h
       split at h
       ·rename_i cs
        rw [Bool.and_eq_true,Bool.and_eq_true,decide_eq_true_eq,decide_eq_true_eq] at h
        obtain ⟨ks,rfl,hks⟩:=Ur (fun t ht=>Us d t ht) cs fun c hc=>List.all_eq_true.mp h.2 c hc
        rw [List.length_map] at h
        exact ⟨.row ks,by simp only [Kd.t,Kd.ts_map],h.1.1,h.1.2,hks⟩
       ·cases h
      ·cases h
     ·split at h
      ·rename_i e
       rw [JZ e]
       unfold uv at h
       split at h
       ·rename_i c a b
        rw [Bool.and_eq_true] at h
        obtain ⟨h1,h2⟩:=h
        obtain ⟨i,j,rfl,rfl⟩:=wj h1
        obtain ⟨k,rfl,hk⟩:=Us d c h2
        have h1:(decide (0<=i) && decide (i<=j) && decide (j<=3))=true:=h1
        rw [Bool.and_eq_true,Bool.and_eq_true,decide_eq_true_eq,decide_eq_true_eq,decide_eq_true_eq] at h1
        obtain ⟨⟨a1,a2⟩,a3⟩:=h1
        obtain ⟨m,rfl⟩:=Int.eq_ofNat_of_zero_le a1
        obtain ⟨n,rfl⟩:=Int.eq_ofNat_of_zero_le (Int.le_trans a1 a2)
        exact ⟨.many k m n,by simp only [Kd.t],by omega,by omega,hk⟩
       ·cases h
      ·cases h
  ·cases h
def JS (made:List (List T)):List (List T)->List (List T)
 | []=>made
 | ls :: r=>JS (made.flatMap fun a=>ls.map fun x=>a++[x]) r
abbrev uF (ls:List (List T)):List T:=(JS [[]] ls).map T.tup
mutual
def Kd.all:Kd->List T
 | .whole lo hi=>(List.range (hi+1 - lo).toNat).map fun (i:Nat)=>T.int (lo+(i:Int))
 | .pick cs=>cs.map fun c=>T.str c.1
 | .row ks=>uF (Kd.alls ks)
 | .many k lo hi=>(List.range (hi+1 - lo)).flatMap fun i=>uF (List.replicate (lo+i) k.all)
def Kd.alls:List Kd->List (List T)
 | []=>[]
 | k :: ks=>k.all :: Kd.alls ks
end
theorem Kd.alls_map:∀ ks:List Kd,Kd.alls ks=ks.map Kd.all
 | []=>by simp only [Kd.alls,List.map_nil]
 | k :: ks=>by simp only [Kd.alls,List.map_cons,Kd.alls_map ks]
def prd:List Nat->Nat
 | []=>1
 | n :: r=>n*prd r
theorem WI:∀ {ns:List Nat},(∀ n∈ns,1<=n)->1<=prd ns
 | [],_=>Nat.le_refl _
 | n :: ns,h=>Nat.mul_pos (h n List.mem_cons_self) (WI fun m hm=>h m (List.mem_cons_of_mem _ hm))
theorem wm {α β:Type} (f:α->List β) (n:Nat):∀ as:List α,(∀ a∈as,(f a).length=n)->(as.flatMap f).length=as.length*n
 | [],_=>by simp
 | a :: as,h=>by
  rw [List.flatMap_cons,List.length_append,h a List.mem_cons_self,wm f n as fun b hb=>h b (List.mem_cons_of_mem _ hb),List.length_cons,Nat.add_mul,Nat.one_mul,Nat.add_comm]
theorem uG:∀ (ls:List (List T)) (made:List (List T)),(JS made ls).length=made.length*prd (ls.map (·.length))
 | [],made=>by simp [JS,prd]
 | l :: ls,made=>by
  rw [JS,uG ls,wm _ l.length made fun a _=>List.length_map ..,List.map_cons,prd,Nat.mul_assoc]
abbrev Vo:En->RS:=yO 3 (zQ (ZW (vE 2)) (zw 0) (Zc) (ze zt (vE 1) (ZC (z9 (vE 0) (zg)))) 1 [4])
theorem y3 {L M:T} {l:List T} (hl:l.length<=bnd):∀ (as:List (List T)) (acc:List T) (x:Sl),(∀ a∈as,a.length<=1000)->acc.length+as.length*l.length<=bnd->
  ∃ y,j5 (zw 4) Vo (as.map T.tup) [.vl L, .vl M, .vl (.lst l), .ow acc,x]= .nx [.vl L, .vl M, .vl (.lst l), .ow (acc++(as.flatMap fun a=>l.map fun x=>a++[x]).map T.tup),y]
 | [],acc,x,_,_=>⟨x,by simp [j5]⟩
 | a :: as,acc,x,ha,hb=>by
  have ha1:=ha a List.mem_cons_self
  have hb1:bnd=16777216:=rfl
  rw [List.length_cons,Nat.add_mul,Nat.one_mul] at hb
  have ec:zG (zw 0) Zc (ze zt (vE 1) (ZC (z9 (vE 0) (zg)))) 1 [4] [.vl L, .vl M, .vl (.lst l), .ow acc, .vl (.tup a)] l= .ok (l.map fun x=>T.tup (a++[x])):=
   zX (h:=fun x=>T.tup (a++[x])) l hl fun x hx=>by
    show ze zt (vE 1) (ZC (z9 (vE 0) (zg))) [.vl x, .vl (.tup a)]=_
    rw [zl,v1,bOk,KQ v0,bOk]
    exact JB (by rw [List.length_singleton]; omega)
  have eb:Vo [.vl L, .vl M, .vl (.lst l), .ow acc, .vl (.tup a)]= .nx [.vl L, .vl M, .vl (.lst l), .ow (acc++l.map fun x=>T.tup (a++[x])), .vl (.tup a)]:=by
   show ((zQ _ _ _ _ _ _ _).s fun t=>match t with | .lst us=>if acc.length+us.length<=bnd then RS.nx _ else .bad | _=> .bad)=_
   rw [zI,ZP,v2,bOk]
   show (((zG _ _ _ _ _ _ l).bind _).s _)=_
   rw [ec,bOk,Za]
   show (if _ then _ else _)=_
   rw [if_pos (by rw [List.length_map]; omega)]
   rfl
  obtain ⟨y,ih⟩:=y3 hl as (acc++l.map fun x=>T.tup (a++[x])) (.vl (.tup a)) (fun b hb=>ha b (List.mem_cons_of_mem _ hb)) (by rw [List.length_append,List.length_map]; omega)
  refine ⟨y, ?_⟩
  have e:j5 (zw 4) Vo ((a :: as).map T.tup) [.vl L, .vl M, .vl (.lst l), .ow acc,x]=match Vo [.vl L, .vl M, .vl (.lst l), .ow acc, .vl (.tup a)] with
   | .nx ρ2=>j5 (zw 4) Vo (as.map T.tup) ρ2
   | .ct ρ2=>j5 (zw 4) Vo (as.map T.tup) ρ2
   | .bk ρ2=> .nx ρ2
   | r=>r:=rfl
  rw [e,eb]
  dsimp only
  rw [ih,List.flatMap_cons,List.map_append,List.map_map,List.append_assoc]
  rfl
abbrev uH:En->RS:=(zz (U1 3 (zg))
  (zz (ju (ZW (vE 1)) (zw 4) Vo)
  (mvS 1 3)))
theorem uI {L:T} (m:Nat):∀ (ls:List (List T)) (made:List (List T)) (k:Nat) (x y z:Sl),(∀ a∈made,a.length<=k)->k+ls.length<=1000->(∀ l∈ls,1<=l.length)->made.length*prd (ls.map (·.length))<=bnd->1<=made.length->
  ∃ x' y' z',j5 (zw 2) uH (ls.map T.lst) [.vl L, .vl (.lst (made.map T.tup)),x,y,z]= .nx [.vl L, .vl (.lst ((JS made ls).map T.tup)),x',y',z']
 | [],made,k,x,y,z,_,_,_,_,_=>⟨x,y,z,by simp [j5,JS]⟩
 | l :: ls,made,k,x,y,z,hk,hkl,hpos,hb,hm=>by
  have hpr:1<=prd (ls.map (·.length)):=WI fun n hn=>by
   obtain ⟨l',hl',rfl⟩:=List.mem_map.mp hn
   exact hpos l' (List.mem_cons_of_mem _ hl')
  rw [List.map_cons,prd,← Nat.mul_assoc] at hb
  have hb1:made.length*l.length<=bnd:=Nat.le_trans (Nat.le_mul_of_pos_right _ hpr) hb
  have hll:l.length<=bnd:=Nat.le_trans (Nat.le_mul_of_pos_left _ hm) hb1
  rw [List.length_cons] at hkl
  obtain ⟨w,er⟩:=y3 (L:=L) (M:= .lst (made.map T.tup)) hll made [] z (fun a ha=>Nat.le_trans (hk a ha) (by omega)) (by rw [List.length_nil]; omega)
  rw [List.nil_append] at er
  have es:uH [.vl L, .vl (.lst (made.map T.tup)), .vl (.lst l),y,z]= .nx [.vl L, .vl (.lst ((made.flatMap fun a=>l.map fun x=>a++[x]).map T.tup)), .vl (.lst l), .vl (.lst ((made.flatMap fun a=>l.map fun x=>a++[x]).map T.tup)),w]:=by
   have e0:U1 3 (zg) [.vl L, .vl (.lst (made.map T.tup)), .vl (.lst l),y,z]= .nx [.vl L, .vl (.lst (made.map T.tup)), .vl (.lst l), .ow [],z]:=rfl
   have e1:ju (ZW (vE 1)) (zw 4) Vo [.vl L, .vl (.lst (made.map T.tup)), .vl (.lst l), .ow [],z]= .nx [.vl L, .vl (.lst (made.map T.tup)), .vl (.lst l), .ow ((made.flatMap fun a=>l.map fun x=>a++[x]).map T.tup),w]:=er
   unfold uH
   rw [zE,e0]
   dsimp only
   rw [zE,e1]
   rfl
  obtain ⟨x',y',z',ih⟩:=uI (L:=L) m ls (made.flatMap fun a=>l.map fun x=>a++[x]) (k+1) (.vl (.lst l)) (.vl (.lst ((made.flatMap fun a=>l.map fun x=>a++[x]).map T.tup))) w (fun a ha=>by
   obtain ⟨b,hb,hx⟩:=List.mem_flatMap.mp ha
   obtain ⟨u,_,rfl⟩:=List.mem_map.mp hx
   have:=hk b hb
   rw [List.length_append,List.length_singleton]; omega) (by omega) (fun l' hl' =>hpos l' (List.mem_cons_of_mem _ hl')) (by
    rw [wm _ l.length made fun a _=>List.length_map ..]; exact hb) (by
    rw [wm _ l.length made fun a _=>List.length_map ..]; exact Nat.mul_pos hm (hpos l List.mem_cons_self))
  refine ⟨x',y',z', ?_⟩
  have e:j5 (zw 2) uH ((l :: ls).map T.lst) [.vl L, .vl (.lst (made.map T.tup)),x,y,z]=match uH [.vl L, .vl (.lst (made.map T.tup)), .vl (.lst l),y,z] with
   | .nx ρ2=>j5 (zw 2) uH (ls.map T.lst) ρ2
   | .ct ρ2=>j5 (zw 2) uH (ls.map T.lst) ρ2
   | .bk ρ2=> .nx ρ2
   | r=>r:=rfl
  rw [e,es]
  exact ih
theorem qL (ls:List (List T)) (hl:ls.length<=1000) (hpos:∀ l∈ls,1<=l.length) (hb:prd (ls.map (·.length))<=bnd):f_f [.lst (ls.map T.lst)]= .ok (.lst (uF ls)):=by
 obtain ⟨x',y',z',er⟩:=uI (L:= .lst (ls.map T.lst)) 0 ls [[]] 0 .un .un .un (fun a ha=>by rw [List.mem_singleton.mp ha]; exact Nat.le_refl _) (by omega) hpos (by rw [List.length_singleton,Nat.one_mul]; exact hb) (Nat.le_refl _)
 have e:f_f [.lst (ls.map T.lst)]=zo (b_f [.vl (.lst (ls.map T.lst)), .un, .un, .un, .un]):=rfl
 have e0:zJ 1 (ZD (z9 (ZC (zg)) (zg))) [.vl (.lst (ls.map T.lst)), .un, .un, .un, .un]= .nx [.vl (.lst (ls.map T.lst)), .vl (.lst [.tup []]), .un, .un, .un]:=rfl
 have e1:ju (ZW (vE 0)) (zw 2) uH [.vl (.lst (ls.map T.lst)), .vl (.lst [.tup []]), .un, .un, .un]= .nx [.vl (.lst (ls.map T.lst)), .vl (.lst (uF ls)),x',y',z']:=er
 rw [e,b_f,zE,e0]
 dsimp only
 rw [zE,e1]
 rfl
theorem WJ (n:Nat):∀ m:Nat,prd (List.replicate m n)=n ^ m
 | 0=>rfl
 | m+1=>by rw [List.replicate_succ,prd,WJ n m,Nat.pow_succ,Nat.mul_comm]
theorem WK (ls:List (List T)):(uF ls).length=prd (ls.map (·.length)):=by
 unfold uF
 rw [List.length_map,uG,List.length_singleton,Nat.one_mul]
def pw (n lo hi:Nat):Nat:=((List.range (hi+1 - lo)).map fun i=>n ^ (lo+i)).sum
theorem wn (k:Kd) (lo hi:Nat):(Kd.many k lo hi).all.length=pw k.all.length lo hi:=by
 rw [Kd.all,List.length_flatMap,pw]
 congr 1
 refine List.map_congr_left fun i _=> ?_
 rw [WK,List.map_replicate,WJ]
theorem WL (ks:List Kd):(Kd.row ks).all.length=prd (ks.map fun k=>k.all.length):=by
 rw [Kd.all,WK,Kd.alls_map,List.map_map]; rfl
theorem JC (lo hi:Int):(Kd.whole lo hi).all.length=(hi+1 - lo).toNat:=by
 rw [Kd.all,List.length_map,List.length_range]
theorem WM (cs:List (Str×Int)):(Kd.pick cs).all.length=cs.length:=by
 rw [Kd.all,List.length_map]
theorem X6 {lo hi:Nat} (h:lo<=hi) (h3:hi<=3):(lo=0/\hi=0)\/(lo=0/\hi=1)\/(lo=0/\hi=2)\/(lo=0/\hi=3)\/(lo=1/\hi=1)\/(lo=1/\hi=2)\/(lo=1/\hi=3)\/(lo=2/\hi=2)\/(lo=2/\hi=3)\/(lo=3/\hi=3):=by omega
def iv (b:Bool):Nat:=if b then 1 else 0
theorem X7 (n:Nat) {lo hi:Nat} (h:lo<=hi) (h3:hi<=3):pw n lo hi=iv (lo == 0)+n*iv (decide (lo<=1) && decide (1<=hi))+n*n*iv (decide (lo<=2) && decide (2<=hi))+n*n*n*iv (hi == 3):=by
 rcases X6 h h3 with ⟨rfl,rfl⟩ | ⟨rfl,rfl⟩ | ⟨rfl,rfl⟩ | ⟨rfl,rfl⟩ | ⟨rfl,rfl⟩ | ⟨rfl,rfl⟩ | ⟨rfl,rfl⟩ | ⟨rfl,rfl⟩ | ⟨rfl,rfl⟩ | ⟨rfl,rfl⟩ <;>
  simp [pw,List.range_succ,iv,Nat.pow_succ]
 all_goals omega
theorem K9 {n:Nat} (hn:1<=n) {lo hi:Nat} (h:lo<=hi) (h3:hi<=3):1<=pw n lo hi:=by
 have h2:1<=n*n:=Nat.mul_pos hn hn
 have h1:1<=n*n*n:=Nat.mul_pos h2 hn
 rw [X7 n h h3]
 rcases X6 h h3 with ⟨rfl,rfl⟩ | ⟨rfl,rfl⟩ | ⟨rfl,rfl⟩ | ⟨rfl,rfl⟩ | ⟨rfl,rfl⟩ | ⟨rfl,rfl⟩ | ⟨rfl,rfl⟩ | ⟨rfl,rfl⟩ | ⟨rfl,rfl⟩ | ⟨rfl,rfl⟩ <;>
  simp [iv] <;> omega
theorem Gc {n N:Nat} (hn:n<=N) {lo hi:Nat} (h:lo<=hi) (h3:hi<=3):pw n lo hi<=1+N+N*N+N*N*N:=by
 have h2:n*n<=N*N:=Nat.mul_le_mul hn hn
 have h1:n*n*n<=N*N*N:=Nat.mul_le_mul h2 hn
 rw [X7 n h h3]
 rcases X6 h h3 with ⟨rfl,rfl⟩ | ⟨rfl,rfl⟩ | ⟨rfl,rfl⟩ | ⟨rfl,rfl⟩ | ⟨rfl,rfl⟩ | ⟨rfl,rfl⟩ | ⟨rfl,rfl⟩ | ⟨rfl,rfl⟩ | ⟨rfl,rfl⟩ | ⟨rfl,rfl⟩ <;>
  simp [iv] <;> omega
theorem Vp {N:Nat} (hN:1<=N):∀ (ns:List Nat),(∀ n∈ns,n<=N)->prd ns<=N ^ ns.length
 | [],_=>Nat.le_refl _
 | n :: ns,h=>by
  rw [prd,List.length_cons,Nat.pow_succ,Nat.mul_comm]
  exact Nat.mul_le_mul (Vp hN ns fun m hm=>h m (List.mem_cons_of_mem _ hm)) (h n List.mem_cons_self)
theorem Jn:∀ (d:Nat) (k:Kd),k.Ok d->1<=k.all.length
 | 0,_,h=>h.elim
 | d+1, .whole lo hi,h=>by
  obtain ⟨_,h2,_⟩:=h
  rw [JC]; omega
 | d+1, .pick cs,h=>by
  rw [WM]; exact h.1
 | d+1, .row ks,h=>by
  rw [WL]
  refine WI fun n hn=> ?_
  obtain ⟨k,hk,rfl⟩:=List.mem_map.mp hn
  exact Jn d k (h.2.2 k hk)
 | d+1, .many k lo hi,h=>by
  rw [wn]
  exact K9 (Jn d k h.2.2) h.1 h.2.1
def mx:Nat->Nat
 | 0=>0
 | 1=>41
 | d+1=>1+mx d+mx d*mx d+mx d*mx d*mx d
theorem Vq (d:Nat):41<=mx (d+1):=by
 induction d with
 | zero=>exact Nat.le_refl _
 | succ d ih=>
  show 41<=1+mx (d+1)+mx (d+1)*mx (d+1)+mx (d+1)*mx (d+1)*mx (d+1)
  omega
theorem qM (d:Nat) (n:Nat) (h:n<=41):n<=mx (d+1):=Nat.le_trans h (Vq d)
theorem X8 {N m:Nat} (hN:1<=N) (h:m<=3):N ^ m<=1+N+N*N+N*N*N:=by
 have:m=0\/m=1\/m=2\/m=3:=by omega
 rcases this with rfl | rfl | rfl | rfl <;> simp [Nat.pow_succ] <;> omega
theorem Wg:∀ (d:Nat) (k:Kd),k.Ok d->k.all.length<=mx d
 | 0,_,h=>h.elim
 | d+1, .whole lo hi,h=>by
  obtain ⟨h1,h2,h3⟩:=h
  rw [JC]; exact qM d _ (by omega)
 | d+1, .pick cs,h=>by
  rw [WM]; exact qM d _ (Nat.le_trans h.2.1 (by omega))
 | 1, .row ks,h=>by
  obtain ⟨h1,h2,h3⟩:=h
  match ks,h1,h3 with
  | k :: _,_,h3=>exact (h3 k List.mem_cons_self).elim
 | d+2, .row ks,h=>by
  obtain ⟨h1,h2,h3⟩:=h
  rw [WL]
  have hp:=Nat.le_trans (by omega:1<=41) (Vq d)
  have:=Vp hp (ks.map fun k=>k.all.length) fun n hn=>by
   obtain ⟨k,hk,rfl⟩:=List.mem_map.mp hn
   exact Wg (d+1) k (h3 k hk)
  rw [List.length_map] at this
  exact Nat.le_trans this (X8 hp h2)
 | 1, .many k lo hi,h=>h.2.2.elim
 | d+2, .many k lo hi,h=>by
  rw [wn]
  exact Gc (Wg (d+1) k h.2.2) h.1 h.2.1
theorem zk {f g:En->RS} {ρ ρ' :En} (h:f ρ= .nx ρ'):zz f g ρ=g ρ' :=by rw [zE,h]
theorem cs0 {x w:Str} {r:List T} {ρ:En}:zx eqC (ze ixT (vE 0) (cE (.int 0))) (cE (.str w)) (.vl (.tup (.str x :: r)) :: ρ)= .ok (x == w):=by
 rw [zL,zl,v0,bOk,Zg,bOk,at0,bOk,Zg,bOk,eqS]; rfl
theorem wO {a b:T} {r:List T} {ρ:En}:ze ixT (vE 0) (cE (.int 1)) (.vl (.tup (a :: b :: r)) :: ρ)= .ok b:=by
 rw [zl,v0,bOk,Zg,bOk,at1]
theorem y6 {a b c:T} {r:List T} {ρ:En}:ze ixT (vE 0) (cE (.int 2)) (.vl (.tup (a :: b :: c :: r)) :: ρ)= .ok c:=by
 rw [zl,v0,bOk,Zg,bOk,at2]
theorem Ka {a b c d:T} {r:List T} {ρ:En}:ze ixT (vE 0) (cE (.int 3)) (.vl (.tup (a :: b :: c :: d :: r)) :: ρ)= .ok d:=by
 rw [zl,v0,bOk,Zg,bOk,at3]
theorem Ut {f:En->R T} {ρ:En} {i:Int} (h:f ρ= .ok (.int i)):ze zt f (cE (.int 1)) ρ= .ok (.int (i+1)):=by
 rw [zl,h,bOk,Zg,bOk,Zl]
theorem WN {f g:En->R T} {ρ:En} {i j:Int} (hf:f ρ= .ok (.int i)) (hg:g ρ= .ok (.int j)) (h: -1000000 < i/\i < 1000000/\ -1000000 < j/\j < 1000000):wb f g ρ= .ok (rng i (j - i).toNat):=by
 unfold wb
 rw [hf,bOk,hg,bOk]
 exact if_pos h
theorem Uu:∀ (cs:List (Str×Int)) (x y:Sl),zZ (Zt 0 1) Zc (vE 0) (cs.map J8) [x,y]= .ok (cs.map fun c=>T.str c.1)
 | [],_,_=>rfl
 | c :: cs,x,y=>by
  have e:zZ (Zt 0 1) Zc (vE 0) ((c :: cs).map J8) [x,y]=(zZ (Zt 0 1) Zc (vE 0) (cs.map J8) [.vl (.str c.1), .vl (.int c.2)]).bind fun vs=> .ok (.str c.1 :: vs):=rfl
  rw [e,Uu cs]; rfl
theorem uJ {x:T} {m:Nat} (h:m<=3):Zi (.lst [x]) (.int (m:Int))= .ok (.lst (List.replicate m [x]).flatten):=by
 unfold Zi
 dsimp only
 have c:0<=(m:Int)/\(m:Int) < 1000000/\[x].length*(m:Int).toNat<=bnd:=by
  have hb:3<=bnd:=by decide
  refine ⟨by omega,by omega, ?_⟩
  rw [List.length_singleton,Int.toNat_natCast,Nat.one_mul]
  exact Nat.le_trans h hb
 rw [if_pos c,Int.toNat_natCast]
theorem J9 {α:Type} (x:α):∀ m:Nat,(List.replicate m [x]).flatten=List.replicate m x
 | 0=>rfl
 | m+1=>by rw [List.replicate_succ,List.replicate_succ,List.flatten_cons,J9 x m]; rfl
abbrev W1 (ca cr:List T->R T):En->RS:=yO 1 (zc 1 cr (z9 (ze Zi (ZD (z9 (zc 1 ca (z9 (ze ixT (vE 0) (cE (.int 1))) (zg))) (zg))) (vE 2)) (zg)))
theorem X9 {f:En->R T} {ρ:En} {x:T} (hf:f ρ= .ok x):ZD (z9 f zg) ρ= .ok (.lst [x]):=by
 unfold ZD z9 zg
 rw [hf]; rfl
theorem uK {ca:List T->R T} {k:Kd} {t:T} {lo:Nat} {ws:List T} (hw:ca [t]= .ok (.lst ws)) (hpos:1<=ws.length) {a b c:T}:∀ (js:List Nat) (acc:List T) (x:Sl),(∀ j∈js,lo+j<=3)->acc.length+(js.map fun j=>ws.length ^ (lo+j)).sum<=bnd->
  ∃ y,j5 (zw 2) (W1 ca f_f) (js.map fun (j:Nat)=>T.int ((lo:Int)+(j:Int))) [.vl (.tup [a,t,b,c]), .ow acc,x]= .nx [.vl (.tup [a,t,b,c]), .ow (acc++js.flatMap fun j=>uF (List.replicate (lo+j) ws)),y]
 | [],acc,x,_,_=>⟨x,by simp [j5]⟩
 | j :: js,acc,x,hj,hb=>by
  have hj1:=hj j List.mem_cons_self
  have hb1:bnd=16777216:=rfl
  rw [List.map_cons,List.sum_cons] at hb
  have er:f_f [.lst ((List.replicate (lo+j) ws).map T.lst)]= .ok (.lst (uF (List.replicate (lo+j) ws))):=qL _ (by rw [List.length_replicate]; omega) (fun l hl=>by rw [List.eq_of_mem_replicate hl]; exact hpos) (by rw [List.map_replicate,WJ]; omega)
  have hlen:(uF (List.replicate (lo+j) ws)).length=ws.length ^ (lo+j):=by rw [WK,List.map_replicate,WJ]
  have em:Zi (.lst [.lst ws]) (.int ((lo:Int)+(j:Int)))= .ok (.lst ((List.replicate (lo+j) ws).map T.lst)):=by
   have e1:(lo:Int)+(j:Int)=((lo+j:Nat):Int):=by omega
   rw [e1,uJ (by omega),J9,List.map_replicate]
  have eb:W1 ca f_f [.vl (.tup [a,t,b,c]), .ow acc, .vl (.int ((lo:Int)+(j:Int)))]= .nx [.vl (.tup [a,t,b,c]), .ow (acc++uF (List.replicate (lo+j) ws)), .vl (.int ((lo:Int)+(j:Int)))]:=by
   have e1:zc 1 f_f (z9 (ze Zi (ZD (z9 (zc 1 ca (z9 (ze ixT (vE 0) (cE (.int 1))) (zg))) (zg))) (vE 2)) (zg)) [.vl (.tup [a,t,b,c]), .ow acc, .vl (.int ((lo:Int)+(j:Int)))]= .ok (.lst (uF (List.replicate (lo+j) ws))):=by
    have e0:zc 1 ca (z9 (ze ixT (vE 0) (cE (.int 1))) (zg)) [.vl (.tup [a,t,b,c]), .ow acc, .vl (.int ((lo:Int)+(j:Int)))]= .ok (.lst ws):=by
     rw [j1,wO,bOk,hw]
    rw [j1,zl,X9 e0,bOk,v2,bOk,em,bOk,er]
   show ((zc 1 f_f _ _).s fun t=>match t with | .lst us=>if acc.length+us.length<=bnd then RS.nx _ else .bad | _=> .bad)=_
   rw [e1,Za]
   show (if _ then _ else _)=_
   rw [if_pos (by rw [hlen]; omega)]
   rfl
  obtain ⟨y,ih⟩:=uK (k:=k) hw hpos (a:=a) (b:=b) (c:=c) js (acc++uF (List.replicate (lo+j) ws)) (.vl (.int ((lo:Int)+(j:Int)))) (fun i hi=>hj i (List.mem_cons_of_mem _ hi)) (by rw [List.length_append,hlen]; omega)
  refine ⟨y, ?_⟩
  have e:j5 (zw 2) (W1 ca f_f) ((j :: js).map fun (j:Nat)=>T.int ((lo:Int)+(j:Int))) [.vl (.tup [a,t,b,c]), .ow acc,x]=match W1 ca f_f [.vl (.tup [a,t,b,c]), .ow acc, .vl (.int ((lo:Int)+(j:Int)))] with
   | .nx ρ2=>j5 (zw 2) (W1 ca f_f) (js.map fun (j:Nat)=>T.int ((lo:Int)+(j:Int))) ρ2
   | .ct ρ2=>j5 (zw 2) (W1 ca f_f) (js.map fun (j:Nat)=>T.int ((lo:Int)+(j:Int))) ρ2
   | .bk ρ2=> .nx ρ2
   | r=>r:=rfl
  rw [e,eb]
  dsimp only
  rw [ih,List.flatMap_cons,List.append_assoc]
theorem vF {ca:List T->R T} {a t:T} {lo hi:Nat} (h1:lo<=hi) (h2:hi<=3) {x:Sl} {acc:List T} {r:RS}
  (el:j5 (zw 2) (W1 ca f_f) ((List.range (hi+1 - lo)).map fun (j:Nat)=>T.int ((lo:Int)+(j:Int))) [.vl (.tup [a,t, .int (lo:Int), .int (hi:Int)]), .ow acc,x]=r):
  ju (wb (ze ixT (vE 0) (cE (.int 2))) (ze zt (ze ixT (vE 0) (cE (.int 3))) (cE (.int 1)))) (zw 2) (W1 ca f_f) [.vl (.tup [a,t, .int (lo:Int), .int (hi:Int)]), .ow acc,x]=r:=by
 have hn:((hi:Int)+1 - (lo:Int)).toNat=hi+1 - lo:=by omega
 have hc: -1000000 < (lo:Int)/\(lo:Int) < 1000000/\ -1000000 < (hi:Int)+1/\(hi:Int)+1 < 1000000:=by omega
 have e:ju (wb (ze ixT (vE 0) (cE (.int 2))) (ze zt (ze ixT (vE 0) (cE (.int 3))) (cE (.int 1)))) (zw 2) (W1 ca f_f) [.vl (.tup [a,t, .int (lo:Int), .int (hi:Int)]), .ow acc,x]=(wb (ze ixT (vE 0) (cE (.int 2))) (ze zt (ze ixT (vE 0) (cE (.int 3))) (cE (.int 1))) [.vl (.tup [a,t, .int (lo:Int), .int (hi:Int)]), .ow acc,x]).s fun ts=>j5 (zw 2) (W1 ca f_f) ts [.vl (.tup [a,t, .int (lo:Int), .int (hi:Int)]), .ow acc,x]:=rfl
 rw [e,WN y6 (Ut Ka) hc,Za,hn]
 exact el
theorem Kb {n L lo hi:Nat} (e:L=pw n lo hi) (h:L<=1000000):([]:List T).length+((List.range (hi+1 - lo)).map fun j=>n ^ (lo+j)).sum<=bnd:=by
 have h' :pw n lo hi<=bnd:=Nat.le_trans (e ▸ h) (by decide)
 unfold pw at h'
 rw [List.length_nil,Nat.zero_add]
 exact h'
theorem qN {ca:List T->R T} (d:Nat) (lo hi:Int) (h:(Kd.whole lo hi).Ok (d+1)) (hl:(Kd.whole lo hi).all.length<=1000000) (H:∀ k' :Kd,k'.Ok d->ca [k'.t]= .ok (.lst k'.all)):zo (b_5 ca f_f (en0 3 [(Kd.whole lo hi).t]))= .ok (.lst (Kd.whole lo hi).all):=by
 have hb1:bnd=16777216:=rfl
 have e:zo (b_5 ca f_f (en0 3 [(Kd.whole lo hi).t]))=zo (b_5 ca f_f [.vl (Kd.whole lo hi).t, .un, .un]):=rfl
 rw [e,b_5,zE,ZJ]
 obtain ⟨h1,h2,h3⟩:=h
 simp only [Kd.t]
 rw [cs0,Za,show (("whole":Str) == "whole")=true from rfl,if_pos rfl,Z7,j2,JO,JO,jt]
 unfold KC
 rw [WN wO (Ut y6) ⟨by omega,by omega,by omega,by omega⟩]
 rw [Kd.all]
 rfl
theorem vG {ca:List T->R T} (d:Nat) (cs:List (Str×Int)) (h:(Kd.pick cs).Ok (d+1)) (hl:(Kd.pick cs).all.length<=1000000) (H:∀ k' :Kd,k'.Ok d->ca [k'.t]= .ok (.lst k'.all)):zo (b_5 ca f_f (en0 3 [(Kd.pick cs).t]))= .ok (.lst (Kd.pick cs).all):=by
 have hb1:bnd=16777216:=rfl
 have e:zo (b_5 ca f_f (en0 3 [(Kd.pick cs).t]))=zo (b_5 ca f_f [.vl (Kd.pick cs).t, .un, .un]):=rfl
 rw [e,b_5,zE,ZJ]
 simp only [Kd.t]
 rw [cs0,Za,show (("pick":Str) == "whole")=false from rfl,if_neg Bool.false_ne_true,Wf]
 dsimp only
 rw [zE,ZJ,cs0,Za,show (("pick":Str) == "pick")=true from rfl,if_pos rfl,Z7,j2,JO,JO,jt,zI,ZP,wO,bOk]
 have hc:cs.length<=4:=h.2.1
 have ec:zG (Zt 0 1) Zc (vE 0) 2 [] [.vl (.tup [.str "pick", .tup (cs.map J8)]), .un, .un] (cs.map J8)= .ok (cs.map fun c=>T.str c.1):=by
  unfold zG
  rw [if_pos (by rw [List.length_map]; omega)]
  show quiet (zZ (Zt 0 1) Zc (vE 0) (cs.map J8) [.un, .un])=_
  rw [Uu]; rfl
 show zo (match ((((R.ok (cs.map J8)).bind fun ts=>(zG (Zt 0 1) Zc (vE 0) 2 [] [.vl (.tup [.str "pick", .tup (cs.map J8)]), .un, .un] ts).bind fun vs=> .ok (.lst vs))).s fun t=> .rt t) with | .nx ρ' =>_ | r=>r)=_
 rw [bOk,ec]
 rw [Kd.all]
 rfl
theorem Xa {ca:List T->R T} (d:Nat) (ks:List Kd) (h:(Kd.row ks).Ok (d+1)) (hl:(Kd.row ks).all.length<=1000000) (H:∀ k' :Kd,k'.Ok d->ca [k'.t]= .ok (.lst k'.all)):zo (b_5 ca f_f (en0 3 [(Kd.row ks).t]))= .ok (.lst (Kd.row ks).all):=by
 have hb1:bnd=16777216:=rfl
 have e:zo (b_5 ca f_f (en0 3 [(Kd.row ks).t]))=zo (b_5 ca f_f [.vl (Kd.row ks).t, .un, .un]):=rfl
 rw [e,b_5,zE,ZJ]
 obtain ⟨h1,h2,h3⟩:=h
 simp only [Kd.t]
 rw [cs0,Za,show (("row":Str) == "whole")=false from rfl,if_neg Bool.false_ne_true,Wf]
 dsimp only
 rw [zE,ZJ,cs0,Za,show (("row":Str) == "pick")=false from rfl,if_neg Bool.false_ne_true,Wf]
 dsimp only
 rw [zE,ZJ,cs0,Za,show (("row":Str) == "row")=true from rfl,if_pos rfl,Z7,j2,JO,JO,jt,j1,zI,ZP,wO,bOk,Kd.ts_map]
 have ec:zG (zw 0) Zc (zc 1 ca (z9 (vE 0) (zg))) 1 [] [.vl (.tup [.str "row", .tup (ks.map Kd.t)]), .un, .un] (ks.map Kd.t)= .ok ((ks.map Kd.all).map T.lst):=by
  unfold zG
  rw [if_pos (by rw [List.length_map]; omega)]
  show quiet (zZ (zw 0) Zc _ (ks.map Kd.t) [.un])=_
  have:∀ (ks:List Kd) (x:Sl),(∀ k∈ks,k.Ok d)->zZ (zw 0) Zc (zc 1 ca (z9 (vE 0) (zg))) (ks.map Kd.t) [x]= .ok ((ks.map Kd.all).map T.lst):=by
   intro ks
   induction ks with
   | nil=>intro _ _; rfl
   | cons k ks ih=>
    intro x hk
    have e1:zZ (zw 0) Zc (zc 1 ca (z9 (vE 0) (zg))) ((k :: ks).map Kd.t) [x]=(zc 1 ca (z9 (vE 0) (zg)) [.vl k.t]).bind fun v=>(zZ (zw 0) Zc (zc 1 ca (z9 (vE 0) (zg))) (ks.map Kd.t) [.vl k.t]).bind fun vs=> .ok (v :: vs):=rfl
    rw [e1,j1,v0,bOk,H k (hk k List.mem_cons_self),bOk,ih _ fun k' hk' =>hk k' (List.mem_cons_of_mem _ hk')]
    rfl
  rw [this ks .un h3]; rfl
 have hrow:=WL ks
 have er:f_f [.lst ((ks.map Kd.all).map T.lst)]= .ok (.lst (uF (ks.map Kd.all))):=qL _ (by rw [List.length_map]; omega) (fun l hl=>by
  obtain ⟨k,hk,rfl⟩:=List.mem_map.mp hl
  exact Jn d k (h3 k hk)) (by
  rw [List.map_map]
  show prd (ks.map fun k=>k.all.length)<=bnd
  omega)
 show zo (match ((((R.ok (ks.map Kd.t)).bind fun ts=>(zG (zw 0) Zc (zc 1 ca (z9 (vE 0) (zg))) 1 [] [.vl (.tup [.str "row", .tup (ks.map Kd.t)]), .un, .un] ts).bind fun vs=> .ok (.lst vs)).bind fun x=>f_f [x]).s fun t=> .rt t) with | .nx ρ' =>_ | r=>r)=_
 rw [bOk,ec,bOk,bOk,er,Kd.all,Kd.alls_map]
 rfl
theorem vH {ca:List T->R T} (d:Nat) (k:Kd) (lo hi:Nat) (h:(Kd.many k lo hi).Ok (d+1)) (hl:(Kd.many k lo hi).all.length<=1000000) (H:∀ k' :Kd,k'.Ok d->ca [k'.t]= .ok (.lst k'.all)):zo (b_5 ca f_f (en0 3 [(Kd.many k lo hi).t]))= .ok (.lst (Kd.many k lo hi).all):=by
 have hb1:bnd=16777216:=rfl
 have e:zo (b_5 ca f_f (en0 3 [(Kd.many k lo hi).t]))=zo (b_5 ca f_f [.vl (Kd.many k lo hi).t, .un, .un]):=rfl
 rw [e,b_5,zE,ZJ]
 obtain ⟨h1,h2,h3⟩:=h
 have hml:=wn k lo hi
 simp only [Kd.t]
 rw [cs0,Za,show (("many":Str) == "whole")=false from rfl,if_neg Bool.false_ne_true,Wf]
 dsimp only
 rw [zE,ZJ,cs0,Za,show (("many":Str) == "pick")=false from rfl,if_neg Bool.false_ne_true,Wf]
 dsimp only
 rw [zE,ZJ,cs0,Za,show (("many":Str) == "row")=false from rfl,if_neg Bool.false_ne_true,Wf]
 dsimp only
 have e0:U1 1 (zg) [.vl (.tup [.str "many",k.t, .int (lo:Int), .int (hi:Int)]), .un, .un]= .nx [.vl (.tup [.str "many",k.t, .int (lo:Int), .int (hi:Int)]), .ow [], .un]:=rfl
 rw [zE,e0]
 dsimp only
 obtain ⟨y,el⟩:=uK (k:=k) (lo:=lo) (H k h3) (Jn d k h3) (a:= .str "many") (b:= .int (lo:Int)) (c:= .int (hi:Int)) (List.range (hi+1 - lo)) [] .un (fun j hj=>by have:=List.mem_range.mp hj; omega) (Kb hml hl)
 have e1:=vF (ca:=ca) (t:=k.t) h1 h2 el
 rw [List.nil_append] at e1
 rw [zk e1,Kd.all]
 rfl
theorem vI {ca:List T->R T} (d:Nat) (k:Kd) (h:k.Ok (d+1)) (hl:k.all.length<=1000000) (H:∀ k' :Kd,k'.Ok d->ca [k'.t]= .ok (.lst k'.all)):zo (b_5 ca f_f (en0 3 [k.t]))= .ok (.lst k.all):=by
 cases k with
 | whole lo hi=>exact qN d lo hi h hl H
 | pick cs=>exact vG d cs h hl H
 | row ks=>exact Xa d ks h hl H
 | many k lo hi=>exact vH d k lo hi h hl H
theorem qO:∀ (d n:Nat),d<=n->d<=3->∀ k:Kd,k.Ok d->k.all.length<=1000000->S_5 n 0 [k.t]= .ok (.lst k.all)
 | 0,_,_,_,_,h,_=>h.elim
 | d+1,0,hn,_,_,_,_=>by omega
 | d+1,n+1,hn,hd,k,h,hl=>by
  have e:S_5 (n+1) 0 [k.t]=zo (b_5 (S_5 n 0) f_f (en0 3 [k.t])):=rfl
  rw [e]
  refine vI d k h hl fun k' hk' =>qO d n (by omega) (by omega) k' hk' ?_
  have h1:=Wg d k' hk'
  have:mx d<=1000000:=by
   have:d=0\/d=1\/d=2:=by omega
   rcases this with rfl | rfl | rfl <;> decide
  omega
theorem in2 {x a b:Str} {r:List T} {ρ:En}:zx inC (ze ixT (vE 0) (cE (.int 0))) (ZC (z9 (cE (.str a)) (z9 (cE (.str b)) (zg)))) (.vl (.tup (.str x :: r)) :: ρ)=inC (.str x) (.tup [.str a, .str b]):=by
 rw [zL,zl,v0,bOk,Zg,bOk,at0,bOk,vt Zg Zg,bOk]
theorem Y3 {g:En->R Bool} {f1 f2:En->RS} {ρ:En} (h:g ρ= .ok true):ifS g f1 f2 ρ=f1 ρ:=by rw [ZJ,h,Za,if_pos rfl]
theorem if_f {g:En->R Bool} {f1 f2:En->RS} {ρ:En} (h:g ρ= .ok false):ifS g f1 f2 ρ=f2 ρ:=by rw [ZJ,h,Za,if_neg Bool.false_ne_true]
theorem jh {g:En->R Bool} {f1:En->RS} {ρ:En} (h:g ρ= .ok false):ifS g f1 nxS ρ= .nx ρ:=by rw [if_f h]; rfl
theorem zV {i:Nat} {f:En->R T} {ρ:En} {t:T} (h:f ρ= .ok t):zJ i f ρ= .nx (ρ.set i (.vl t)):=by rw [j3,h,Za]
theorem zR {f:En->R T} {ρ:En} {t:T} (h:f (frz ρ)= .ok t):zN f ρ= .rt t:=by rw [Z7,h,Za]
theorem wP {g:T->En->R En} {fb:En->RS} {t:T} {ts:List T} {ρ ρ1 ρ2:En} (hg:g t ρ= .ok ρ1) (hb:fb ρ1= .nx ρ2):j5 g fb (t :: ts) ρ=j5 g fb ts ρ2:=by
 rw [j5,hg]
 dsimp only
 rw [hb]
theorem ZQ {f g:En->RS} {ρ:En} {t:T} (h:f ρ= .rt t):zz f g ρ= .rt t:=by rw [zE,h]
theorem Vr {i j:Nat} (h:i < 2 ^ 60):Zi (.int (i:Int)) (.int (j:Int))= .ok (.int ((i*j:Nat):Int)):=by
 rw [qA _ _ (.inl ⟨by omega,by omega⟩),Int.natCast_mul]
theorem Gd {d n:Nat} (h:n<=mx d) (hd:d<=3):n < 2 ^ 60:=by
 have:d=0\/d=1\/d=2\/d=3:=by omega
 have h3:mx 3 < 2 ^ 60:=by decide
 have h2:mx 2 < 2 ^ 60:=by decide
 have h1:mx 1 < 2 ^ 60:=by decide
 have h0:mx 0 < 2 ^ 60:=by decide
 rcases this with rfl | rfl | rfl | rfl <;> omega
theorem y7 {a b:Sl}:∀ (ns:List Nat) (m:Nat) (x y:Sl),(∀ n∈ns,1<=n)->m*prd ns < 2 ^ 60->∃ x',j5 (zw 3) (zJ 2 (ze Zi (vE 2) (vE 3))) (ns.map fun (n:Nat)=>T.int (n:Int)) [a,b, .vl (.int (m:Int)),x,y]= .nx [a,b, .vl (.int ((m*prd ns:Nat):Int)),x',y]
 | [],m,x,y,_,_=>⟨x,by simp [j5,prd]⟩
 | n :: ns,m,x,y,hp,hb=>by
  have hpr:=WI (ns:=ns) fun k hk=>hp k (List.mem_cons_of_mem _ hk)
  have hn:=hp n List.mem_cons_self
  have hmm:m<=m*prd (n :: ns):=Nat.le_mul_of_pos_right _ (Nat.mul_pos hn hpr)
  have hb2:m < 2 ^ 60:=Nat.lt_of_le_of_lt hmm hb
  rw [prd,← Nat.mul_assoc] at hb
  obtain ⟨x',ih⟩:=y7 (a:=a) (b:=b) ns (m*n) (.vl (.int (n:Int))) y (fun k hk=>hp k (List.mem_cons_of_mem _ hk)) hb
  refine ⟨x', ?_⟩
  have es:zJ 2 (ze Zi (vE 2) (vE 3)) [a,b, .vl (.int (m:Int)), .vl (.int (n:Int)),y]= .nx [a,b, .vl (.int ((m*n:Nat):Int)), .vl (.int (n:Int)),y]:=by
   rw [j3,zl,v2,bOk,v3,bOk,Vr hb2,Za]; rfl
  have s3:zw 3 (T.int (n:Int)) [a,b, .vl (.int (m:Int)),x,y]= .ok [a,b, .vl (.int (m:Int)), .vl (.int (n:Int)),y]:=rfl
  rw [List.map_cons,wP s3 es,prd,← Nat.mul_assoc]
  exact ih
theorem y8:∀ (d:Nat) (lo hi:Int),(Kd.whole lo hi).Ok (d+1)->(Kd.whole lo hi).Ok 1
 | _,_,_,h=>h
theorem y9:∀ (d:Nat) (cs:List (Str×Int)),(Kd.pick cs).Ok (d+1)->(Kd.pick cs).Ok 1
 | _,_,h=>h
theorem uL {cs:List T->R T} (k:Kd) (h:k.Ok 1) {x:Str} {r:List T} (ht:k.t= .tup (.str x :: r)) (hx:inC (.str x) (.tup [.str "whole", .str "pick"])= .ok true):zo (b_9 (f_5 8) cs (en0 5 [k.t]))= .ok (.int (k.all.length:Int)):=by
 have ha:f_5 8 [k.t]= .ok (.lst k.all):=qO 1 8 (by omega) (by omega) k h (Nat.le_trans (Wg 1 k h) (by decide))
 have e:zo (b_9 (f_5 8) cs (en0 5 [k.t]))=zo (b_9 (f_5 8) cs [.vl k.t, .un, .un, .un, .un]):=rfl
 have e1:zx inC (ze ixT (vE 0) (cE (.int 0))) (ZC (z9 (cE (.str "whole")) (z9 (cE (.str "pick")) (zg)))) [.vl k.t, .un, .un, .un, .un]= .ok true:=by
  rw [ht,in2,hx]
 have e2:zN (ap1 Z0 (zc 1 (f_5 8) (z9 (vE 0) (zg)))) [.vl k.t, .un, .un, .un, .un]= .rt (.int (k.all.length:Int)):=by
  refine zR ?_
  rw [j2,Zn,j1,v0,bOk,ha,bOk,yT]
 rw [e,b_9,ZQ (by rw [Y3 e1,e2])]
 rfl
theorem Ge (b:Bool):b2 b=(iv b:Int):=by cases b <;> rfl
theorem vJ {cs:List T->R T} {d:Nat} (hd:d+1<=3) (ks:List Kd) (h:(Kd.row ks).Ok (d+1)) (H:∀ k:Kd,k.Ok d->cs [k.t]= .ok (.int (k.all.length:Int))):zo (b_9 (f_5 8) cs (en0 5 [(Kd.row ks).t]))= .ok (.int ((Kd.row ks).all.length:Int)):=by
 have hlt:=Gd (Wg (d+1) (.row ks) h) hd
 rw [WL] at hlt ⊢
 obtain ⟨h1,h2,h3⟩:=h
 simp only [Kd.t,Kd.ts_map]
 have e:zo (b_9 (f_5 8) cs (en0 5 [.tup [.str "row", .tup (ks.map Kd.t)]]))=zo (b_9 (f_5 8) cs [.vl (.tup [.str "row", .tup (ks.map Kd.t)]), .un, .un, .un, .un]):=rfl
 have e1:zx inC (ze ixT (vE 0) (cE (.int 0))) (ZC (z9 (cE (.str "whole")) (z9 (cE (.str "pick")) (zg)))) [.vl (.tup [.str "row", .tup (ks.map Kd.t)]), .un, .un, .un, .un]= .ok false:=by
  rw [in2]; rfl
 have ec:zG (zw 0) Zc (zc 1 cs (z9 (vE 0) (zg))) 1 [] [.vl (.tup [.str "row", .tup (ks.map Kd.t)]), .un, .un, .un, .un] (ks.map Kd.t)= .ok ((ks.map fun k=>k.all.length).map fun (n:Nat)=>T.int (n:Int)):=by
  unfold zG
  rw [if_pos (by rw [List.length_map]; exact Nat.le_trans h2 (by decide))]
  have:∀ (ks:List Kd) (x:Sl),(∀ k∈ks,k.Ok d)->zZ (zw 0) Zc (zc 1 cs (z9 (vE 0) (zg))) (ks.map Kd.t) [x]= .ok ((ks.map fun k=>k.all.length).map fun (n:Nat)=>T.int (n:Int)):=by
   intro ks
   induction ks with
   | nil=>intro _ _; rfl
   | cons k ks ih=>
    intro x hk
    have e1:zZ (zw 0) Zc (zc 1 cs (z9 (vE 0) (zg))) ((k :: ks).map Kd.t) [x]=(zc 1 cs (z9 (vE 0) (zg)) [.vl k.t]).bind fun v=>(zZ (zw 0) Zc (zc 1 cs (z9 (vE 0) (zg))) (ks.map Kd.t) [.vl k.t]).bind fun vs=> .ok (v :: vs):=rfl
    rw [e1,j1,v0,bOk,H k (hk k List.mem_cons_self),bOk,ih _ fun k' hk' =>hk k' (List.mem_cons_of_mem _ hk')]
    rfl
  show quiet (zZ (zw 0) Zc _ (ks.map Kd.t) [.un])=_
  rw [this ks .un h3]; rfl
 have e2:ifE (zx eqC (ze ixT (vE 0) (cE (.int 0))) (cE (.str "row"))) (zQ (ZW (ze ixT (vE 0) (cE (.int 1)))) (zw 0) (Zc) (zc 1 cs (z9 (vE 0) (zg))) 1 []) (ZD (zg)) [.vl (.tup [.str "row", .tup (ks.map Kd.t)]), .un, .un, .un, .un]= .ok (.lst ((ks.map fun k=>k.all.length).map fun (n:Nat)=>T.int (n:Int))):=by
  unfold ifE
  rw [cs0,bOk,show (("row":Str) == "row")=true from rfl,if_pos rfl,zI,ZP,wO,bOk]
  show ((R.ok (ks.map Kd.t)).bind _)=_
  rw [bOk,ec,bOk]
 obtain ⟨x',el⟩:=y7 (a:= .vl (.tup [.str "row", .tup (ks.map Kd.t)])) (b:= .vl (.lst ((ks.map fun k=>k.all.length).map fun (n:Nat)=>T.int (n:Int)))) (ks.map fun k=>k.all.length) 1 .un .un (fun n hn=>by
  obtain ⟨k,hk,rfl⟩:=List.mem_map.mp hn
  exact Jn d k (h3 k hk)) (by rw [Nat.one_mul]; exact hlt)
 rw [Nat.one_mul] at el
 have e3:ju (ZW (vE 1)) (zw 3) (zJ 2 (ze Zi (vE 2) (vE 3))) [.vl (.tup [.str "row", .tup (ks.map Kd.t)]), .vl (.lst ((ks.map fun k=>k.all.length).map fun (n:Nat)=>T.int (n:Int))), .vl (.int 1), .un, .un]=_:=el
 have e4:zx eqC (ze ixT (vE 0) (cE (.int 0))) (cE (.str "many")) [.vl (.tup [.str "row", .tup (ks.map Kd.t)]), .vl (.lst ((ks.map fun k=>k.all.length).map fun (n:Nat)=>T.int (n:Int))), .vl (.int ((prd (ks.map fun k=>k.all.length):Nat):Int)),x', .un]= .ok false:=by
  rw [cs0]; rfl
 rw [e,b_9,zk (jh e1),zk (zV e2)]
 have s1:([.vl (.tup [.str "row", .tup (ks.map Kd.t)]), .un, .un, .un, .un]:En).set 1 (.vl (.lst ((ks.map fun k=>k.all.length).map fun (n:Nat)=>T.int (n:Int))))=[.vl (.tup [.str "row", .tup (ks.map Kd.t)]), .vl (.lst ((ks.map fun k=>k.all.length).map fun (n:Nat)=>T.int (n:Int))), .un, .un, .un]:=rfl
 rw [s1,zk (zV Zg)]
 have s2:([.vl (.tup [.str "row", .tup (ks.map Kd.t)]), .vl (.lst ((ks.map fun k=>k.all.length).map fun (n:Nat)=>T.int (n:Int))), .un, .un, .un]:En).set 2 (.vl (.int 1))=[.vl (.tup [.str "row", .tup (ks.map Kd.t)]), .vl (.lst ((ks.map fun k=>k.all.length).map fun (n:Nat)=>T.int (n:Int))), .vl (.int 1), .un, .un]:=rfl
 rw [s2,zk e3,zk (jh e4)]
 rfl
theorem Kc {f g:En->R T} {ρ:En} {i j c:Int} (hf:f ρ= .ok (.int i)) (hg:g ρ= .ok (.int j)):chE leC leC f (cE (.int c)) g ρ= .ok (.bl (decide (i<=c) && decide (c<=j))):=by
 rw [vn,hf,bOk,Zg,bOk,Ug,bOk,hg]
 cases decide (i<=c) <;> rfl
theorem uM (a b:Nat):decide ((a:Int)<=(b:Int))=decide (a<=b):=by
 by_cases h:a<=b
 ·rw [decide_eq_true h]; exact decide_eq_true (by omega)
 ·rw [decide_eq_false h]; exact decide_eq_false (by omega)
theorem qP (a b:Nat):((a:Int) == (b:Int))=(a == b):=by
 by_cases h:a=b
 ·subst h; simp
 ·rw [beq_eq_false_iff_ne.mpr h,beq_eq_false_iff_ne]; omega
theorem KR {f:En->R T} {ρ:En} {b:Bool} (h:f ρ= .ok (.bl b)):ap1 u0 f ρ= .ok (.int ((iv b:Nat):Int)):=by
 rw [Zn,h,bOk]
 show R.ok (T.int (b2 b))=_
 rw [Ge]
theorem qQ {f g:En->R T} {ρ:En} {i j:Nat} (hf:f ρ= .ok (.int (i:Int))) (hg:g ρ= .ok (.int (j:Int))):ze zt f g ρ= .ok (.int ((i+j:Nat):Int)):=by
 rw [zl,hf,bOk,hg,bOk,Zl,Int.natCast_add]
theorem JT {f g:En->R T} {ρ:En} {i j:Nat} (h:i < 2 ^ 60) (hf:f ρ= .ok (.int (i:Int))) (hg:g ρ= .ok (.int (j:Int))):ze Zi f g ρ= .ok (.int ((i*j:Nat):Int)):=by
 rw [zl,hf,bOk,hg,bOk,Vr h]
theorem Xb {d n:Nat} (h:n<=mx d) (hd:d+1<=3) (h0:1<=d):n*n*n < 2 ^ 60/\n*n < 2 ^ 60/\n < 2 ^ 60:=by
 have h1:n<=70644:=by
  have:d=1\/d=2:=by omega
  have h2:mx 2=70644:=by decide
  have h1:mx 1=41:=by decide
  rcases this with rfl | rfl <;> omega
 have h2:n*n<=70644*70644:=Nat.mul_le_mul h1 h1
 have h3:n*n*n<=70644*70644*70644:=Nat.mul_le_mul h2 h1
 have h4:70644*70644*70644 < 2 ^ 60:=by decide
 have h5:70644*70644 < 2 ^ 60:=by decide
 have h6:70644 < 2 ^ 60:=by decide
 exact ⟨Nat.lt_of_le_of_lt h3 h4,Nat.lt_of_le_of_lt h2 h5,Nat.lt_of_le_of_lt h1 h6⟩
abbrev mt (t:T) (lo hi:Nat):T:= .tup [.str "many",t, .int (lo:Int), .int (hi:Int)]
theorem v4' {t:T} {a b c d:Sl} {ρ:En}:vE 4 (a :: b :: c :: d :: .vl t :: ρ)= .ok t:=rfl
theorem qR {t:T} {a x:Sl} {lo hi n:Nat} (h3:n*n*n < 2 ^ 60) (h2:n*n < 2 ^ 60) (h1:n < 2 ^ 60):
  zz (zJ 2 (ze zt (ap1 u0 (w9 eqC (ze ixT (vE 0) (cE (.int 2))) (cE (.int 0)))) (ze Zi (vE 4) (ap1 u0 (chE leC leC (ze ixT (vE 0) (cE (.int 2))) (cE (.int 1)) (ze ixT (vE 0) (cE (.int 3))))))))
  (zz (zJ 2 (ze zt (vE 2) (ze Zi (ze Zi (vE 4) (vE 4)) (ap1 u0 (chE leC leC (ze ixT (vE 0) (cE (.int 2))) (cE (.int 2)) (ze ixT (vE 0) (cE (.int 3))))))))
  (zJ 2 (ze zt (vE 2) (ze Zi (ze Zi (ze Zi (vE 4) (vE 4)) (vE 4)) (ap1 u0 (w9 eqC (ze ixT (vE 0) (cE (.int 3))) (cE (.int 3))))))))
  [.vl (mt t lo hi),a, .vl (.int 1),x, .vl (.int (n:Int))]= .nx [.vl (mt t lo hi),a, .vl (.int ((iv (lo == 0)+n*iv (decide (lo<=1) && decide (1<=hi))+n*n*iv (decide (lo<=2) && decide (2<=hi))+n*n*n*iv (hi == 3):Nat):Int)),x, .vl (.int (n:Int))]:=by
 have le1:∀ {p q r s:Sl},ap1 u0 (chE leC leC (ze ixT (vE 0) (cE (.int 2))) (cE (.int 1)) (ze ixT (vE 0) (cE (.int 3)))) [.vl (mt t lo hi),p,q,r,s]= .ok (.int ((iv (decide (lo<=1) && decide (1<=hi)):Nat):Int)):=fun {p q r s}=>KR (by
  rw [Kc (c:=1) y6 Ka]
  rw [show decide ((lo:Int)<=1)=decide (lo<=1) from uM lo 1,show decide ((1:Int)<=(hi:Int))=decide (1<=hi) from uM 1 hi])
 have le2:∀ {p q r s:Sl},ap1 u0 (chE leC leC (ze ixT (vE 0) (cE (.int 2))) (cE (.int 2)) (ze ixT (vE 0) (cE (.int 3)))) [.vl (mt t lo hi),p,q,r,s]= .ok (.int ((iv (decide (lo<=2) && decide (2<=hi)):Nat):Int)):=fun {p q r s}=>KR (by
  rw [Kc (c:=2) y6 Ka]
  rw [show decide ((lo:Int)<=2)=decide (lo<=2) from uM lo 2,show decide ((2:Int)<=(hi:Int))=decide (2<=hi) from uM 2 hi])
 have eq0:∀ {p q r s:Sl},ap1 u0 (w9 eqC (ze ixT (vE 0) (cE (.int 2))) (cE (.int 0))) [.vl (mt t lo hi),p,q,r,s]= .ok (.int ((iv (lo == 0):Nat):Int)):=fun {p q r s}=>KR (by
  rw [jB,y6,bOk,Zg,bOk,eqI,bOk,show ((lo:Int) == 0)=(lo == 0) from qP lo 0])
 have eq3:∀ {p q r s:Sl},ap1 u0 (w9 eqC (ze ixT (vE 0) (cE (.int 3))) (cE (.int 3))) [.vl (mt t lo hi),p,q,r,s]= .ok (.int ((iv (hi == 3):Nat):Int)):=fun {p q r s}=>KR (by
  rw [jB,Ka,bOk,Zg,bOk,eqI,bOk,show ((hi:Int) == 3)=(hi == 3) from qP hi 3])
 have a1:=zV (i:=2) (qQ (eq0 (p:=a) (q:= .vl (.int 1)) (r:=x) (s:= .vl (.int (n:Int)))) (JT h1 v4' le1))
 have a1:zJ 2 (ze zt (ap1 u0 (w9 eqC (ze ixT (vE 0) (cE (.int 2))) (cE (.int 0)))) (ze Zi (vE 4) (ap1 u0 (chE leC leC (ze ixT (vE 0) (cE (.int 2))) (cE (.int 1)) (ze ixT (vE 0) (cE (.int 3))))))) [.vl (mt t lo hi),a, .vl (.int 1),x, .vl (.int (n:Int))]= .nx [.vl (mt t lo hi),a, .vl (.int ((iv (lo == 0)+n*iv (decide (lo<=1) && decide (1<=hi)):Nat):Int)),x, .vl (.int (n:Int))]:=a1
 rw [zk a1]
 generalize iv (lo == 0)+n*iv (decide (lo<=1) && decide (1<=hi))=m1
 have a2:=zV (i:=2) (qQ (v2 (t:= .int (m1:Int)) (a:= .vl (mt t lo hi)) (b:=a) (ρ:=[x, .vl (.int (n:Int))])) (JT h2 (JT h1 v4' v4') le2))
 have a2:zJ 2 (ze zt (vE 2) (ze Zi (ze Zi (vE 4) (vE 4)) (ap1 u0 (chE leC leC (ze ixT (vE 0) (cE (.int 2))) (cE (.int 2)) (ze ixT (vE 0) (cE (.int 3))))))) [.vl (mt t lo hi),a, .vl (.int (m1:Int)),x, .vl (.int (n:Int))]= .nx [.vl (mt t lo hi),a, .vl (.int ((m1+n*n*iv (decide (lo<=2) && decide (2<=hi)):Nat):Int)),x, .vl (.int (n:Int))]:=a2
 rw [zk a2]
 generalize m1+n*n*iv (decide (lo<=2) && decide (2<=hi))=m2
 have a3:=zV (i:=2) (qQ (v2 (t:= .int (m2:Int)) (a:= .vl (mt t lo hi)) (b:=a) (ρ:=[x, .vl (.int (n:Int))])) (JT h3 (JT h2 (JT h1 v4' v4') v4') eq3))
 exact a3
theorem qS {cs:List T->R T} {d:Nat} (hd:d+1<=3) (k:Kd) (lo hi:Nat) (h:(Kd.many k lo hi).Ok (d+1)) (H:∀ k:Kd,k.Ok d->cs [k.t]= .ok (.int (k.all.length:Int))):zo (b_9 (f_5 8) cs (en0 5 [(Kd.many k lo hi).t]))= .ok (.int ((Kd.many k lo hi).all.length:Int)):=by
 obtain ⟨h1,h2,h3⟩:=h
 have hd0:1<=d:=by
  cases d with
  | zero=>exact h3.elim
  | succ d=>omega
 obtain ⟨c3,c2,c1⟩:=Xb (Wg d k h3) hd hd0
 rw [wn,X7 _ h1 h2]
 simp only [Kd.t]
 have hk:=H k h3
 generalize k.all.length=n at*
 generalize k.t=t at*
 have e:zo (b_9 (f_5 8) cs (en0 5 [mt t lo hi]))=zo (b_9 (f_5 8) cs [.vl (mt t lo hi), .un, .un, .un, .un]):=rfl
 have e1:zx inC (ze ixT (vE 0) (cE (.int 0))) (ZC (z9 (cE (.str "whole")) (z9 (cE (.str "pick")) (zg)))) [.vl (mt t lo hi), .un, .un, .un, .un]= .ok false:=by
  rw [in2]; rfl
 have e2:ifE (zx eqC (ze ixT (vE 0) (cE (.int 0))) (cE (.str "row"))) (zQ (ZW (ze ixT (vE 0) (cE (.int 1)))) (zw 0) (Zc) (zc 1 cs (z9 (vE 0) (zg))) 1 []) (ZD (zg)) [.vl (mt t lo hi), .un, .un, .un, .un]= .ok (.lst []):=by
  unfold ifE
  rw [cs0,bOk,show (("many":Str) == "row")=false from rfl,if_neg Bool.false_ne_true]
  rfl
 have s1:([.vl (mt t lo hi), .un, .un, .un, .un]:En).set 1 (.vl (.lst []))=[.vl (mt t lo hi), .vl (.lst []), .un, .un, .un]:=rfl
 have s2:([.vl (mt t lo hi), .vl (.lst []), .un, .un, .un]:En).set 2 (.vl (.int 1))=[.vl (mt t lo hi), .vl (.lst []), .vl (.int 1), .un, .un]:=rfl
 have e3:ju (ZW (vE 1)) (zw 3) (zJ 2 (ze Zi (vE 2) (vE 3))) [.vl (mt t lo hi), .vl (.lst []), .vl (.int 1), .un, .un]= .nx [.vl (mt t lo hi), .vl (.lst []), .vl (.int 1), .un, .un]:=rfl
 have e4:zx eqC (ze ixT (vE 0) (cE (.int 0))) (cE (.str "many")) [.vl (mt t lo hi), .vl (.lst []), .vl (.int 1), .un, .un]= .ok true:=by
  rw [cs0]; rfl
 have e5:zc 1 cs (z9 (ze ixT (vE 0) (cE (.int 1))) (zg)) [.vl (mt t lo hi), .vl (.lst []), .vl (.int 1), .un, .un]= .ok (.int (n:Int)):=by
  rw [j1,wO,bOk,hk]
 have s5:([.vl (mt t lo hi), .vl (.lst []), .vl (.int 1), .un, .un]:En).set 4 (.vl (.int (n:Int)))=[.vl (mt t lo hi), .vl (.lst []), .vl (.int 1), .un, .vl (.int (n:Int))]:=rfl
 have e6:=qR (t:=t) (a:= .vl (.lst [])) (x:= .un) (lo:=lo) (hi:=hi) c3 c2 c1
 rw [e,b_9,zk (jh e1),zk (zV e2),s1,zk (zV Zg),s2,zk e3]
 have e7:∀ (P:En->RS),ifS (zx eqC (ze ixT (vE 0) (cE (.int 0))) (cE (.str "many"))) (zz (zJ 4 (zc 1 cs (z9 (ze ixT (vE 0) (cE (.int 1))) (zg)))) P) nxS [.vl (mt t lo hi), .vl (.lst []), .vl (.int 1), .un, .un]=P [.vl (mt t lo hi), .vl (.lst []), .vl (.int 1), .un, .vl (.int (n:Int))]:=fun P=>by
  rw [Y3 e4,zk (zV e5),s5]
 rw [zk (Eq.trans (e7 _) e6)]
 rfl
theorem qT:∀ (d n:Nat),d<=n->d<=3->∀ k:Kd,k.Ok d->S_9 n 0 [k.t]= .ok (.int (k.all.length:Int))
 | 0,_,_,_,_,h=>h.elim
 | d+1,0,hn,_,_,_=>by omega
 | d+1,n+1,hn,hd,k,h=>by
  have e:S_9 (n+1) 0 [k.t]=zo (b_9 (f_5 8) (S_9 n 0) (en0 5 [k.t])):=rfl
  rw [e]
  have H:∀ k:Kd,k.Ok d->S_9 n 0 [k.t]= .ok (.int (k.all.length:Int)):=fun k' hk' =>qT d n (by omega) (by omega) k' hk'
  cases k with
  | whole lo hi=>exact uL (.whole lo hi) (y8 d lo hi h) (x:="whole") (r:=[.int lo, .int hi]) (by simp only [Kd.t]) rfl
  | pick cs=>exact uL (.pick cs) (y9 d cs h) (x:="pick") (r:=[.tup (cs.map J8)]) (by simp only [Kd.t]) rfl
  | row ks=>exact vJ (by omega) ks h H
  | many k lo hi=>exact qS (by omega) k lo hi h H
theorem Ok.mono:∀ (d:Nat) (k:Kd),k.Ok d->k.Ok (d+1)
 | 0,_,h=>h.elim
 | d+1, .whole _ _,h=>h
 | d+1, .pick _,h=>h
 | d+1, .row ks,h=>⟨h.1,h.2.1,fun k hk=>Ok.mono d k (h.2.2 k hk)⟩
 | d+1, .many k _ _,h=>⟨h.1,h.2.1,Ok.mono d k h.2.2⟩
theorem Xc (j:Int):Zi (.int 700) (.int j)= .ok (.int (700*j)):=qA _ _ (.inl ⟨by decide,by decide⟩)
theorem Ke (ns:List Int) (d:Nat) (h1:1<=d) (h8:d<=8) (k:Int) (h0:0<=k):∃ q:Kd,f_g 8 [scr ns, .int k, .int (d:Int)]= .ok q.t/\q.Ok d:=by
 obtain ⟨t,ht,hi⟩:=Ul ns d 8 h8 h1 k h0
 obtain ⟨q,rfl,hq⟩:=Us d t hi
 exact ⟨q,ht,hq⟩
abbrev smB:En->RS:=zz (ifS (zx leC (zc 1 (f_9 8) (z9 (vE 3) (zg))) (vB 2)) (zN (vE 3)) (nxS))
  (zJ 3 (zc 3 (f_g 8) (z9 (vE 0) (z9 (ze zt (ze zt (vE 1) (cE (.int 500))) (ze Zi (cE (.int 700)) (vE 4))) (z9 (cE (.int 2)) (zg))))))
abbrev en5 (ns:List Int) (a:Int) (m:Nat) (k:Kd) (x:Sl):En:=[.vl (scr ns), .vl (.int a), .vl (.int (m:Int)), .vl k.t,x]
theorem qU {ns:List Int} {a:Int} {m:Nat} {k:Kd} {x:Sl} (hk:k.Ok 3):zx leC (zc 1 (f_9 8) (z9 (vE 3) (zg))) (vB 2) (en5 ns a m k x)= .ok (decide (k.all.length<=m)):=by
 have e:f_9 8 [k.t]= .ok (.int (k.all.length:Int)):=qT 3 8 (by omega) (by omega) k hk
 rw [zL,j1,v3,bOk,e,bOk,w2,bOk,Ug,uM]
theorem Xd (ns:List Int) {a:Int} {m:Nat} (ha:0<=a) {k:Kd} (hk:k.Ok 3) (j:Nat):(k.all.length<=m/\smB (en5 ns a m k (.vl (.int (0+(j:Int)))))= .rt k.t)\/∃ k' :Kd,k'.Ok 3/\smB (en5 ns a m k (.vl (.int (0+(j:Int)))))= .nx (en5 ns a m k' (.vl (.int (0+(j:Int))))):=by
 by_cases h:k.all.length<=m
 ·refine .inl ⟨h, ?_⟩
  unfold smB
  refine ZQ ?_
  rw [Y3 (by rw [qU hk,decide_eq_true h])]
  exact zR rfl
 ·obtain ⟨q,hq,ho⟩:=Ke ns 2 (by omega) (by omega) (a+500+700*(0+(j:Int))) (by omega)
  refine .inr ⟨q,Ok.mono 2 q ho, ?_⟩
  unfold smB
  rw [zk (jh (by rw [qU hk,decide_eq_false h]))]
  have hq:f_g 8 [scr ns, .int (a+500+700*(0+(j:Int))), .int 2]= .ok q.t:=hq
  have e:zc 3 (f_g 8) (z9 (vE 0) (z9 (ze zt (ze zt (vE 1) (cE (.int 500))) (ze Zi (cE (.int 700)) (vE 4))) (z9 (cE (.int 2)) (zg)))) (en5 ns a m k (.vl (.int (0+(j:Int)))))= .ok q.t:=by
   rw [Zq,v0,bOk,zl,zl,v1,bOk,Zg,bOk,Zl,bOk,zl,Zg,bOk,v4,bOk,Xc,bOk,Zl,bOk,Zg,bOk,hq]
  rw [zV e]
  rfl
theorem Kf {g:T->En->R En} {fb:En->RS} {t:T} {ts:List T} {ρ ρ1:En} {r:T} (hg:g t ρ= .ok ρ1) (hb:fb ρ1= .rt r):j5 g fb (t :: ts) ρ= .rt r:=by
 rw [j5,hg]
 dsimp only
 rw [hb]
theorem qV (ns:List Int) {a:Int} {m:Nat} (ha:0<=a):∀ (js:List Nat) (k:Kd) (x:Sl),k.Ok 3->(∃ k' :Kd,k'.Ok 3/\k'.all.length<=m/\j5 (zw 4) smB (js.map fun (j:Nat)=>T.int (0+(j:Int))) (en5 ns a m k x)= .rt k'.t)\/
  ∃ (k' :Kd) (x' :Sl),k'.Ok 3/\j5 (zw 4) smB (js.map fun (j:Nat)=>T.int (0+(j:Int))) (en5 ns a m k x)= .nx (en5 ns a m k' x')
 | [],k,x,hk=> .inr ⟨k,x,hk,rfl⟩
 | j :: js,k,x,hk=>by
  have s3:zw 4 (T.int (0+(j:Int))) (en5 ns a m k x)= .ok (en5 ns a m k (.vl (.int (0+(j:Int))))):=rfl
  rw [List.map_cons]
  rcases Xd ns ha (m:=m) hk j with ⟨h1,h2⟩ | ⟨k',h1,h2⟩
  ·exact .inl ⟨k,hk,h1,Kf s3 h2⟩
  ·rw [wP s3 h2]
   exact qV ns ha js k' _ h1
theorem vK (ns:List Int) (a:Int) (ha:0<=a) (m:Nat) (hm:4<=m):∃ k:Kd,k.Ok 3/\k.all.length<=m/\f_w [scr ns, .int a, .int (m:Int)]= .ok k.t:=by
 obtain ⟨q,hq,ho⟩:=Ke ns 3 (by omega) (by omega) a ha
 have hq:f_g 8 [scr ns, .int a, .int 3]= .ok q.t:=hq
 have e:f_w [scr ns, .int a, .int (m:Int)]=zo (b_w (f_g 8) (f_9 8) [.vl (scr ns), .vl (.int a), .vl (.int (m:Int)), .un, .un]):=rfl
 have e1:zc 3 (f_g 8) (z9 (vE 0) (z9 (vE 1) (z9 (cE (.int 3)) (zg)))) [.vl (scr ns), .vl (.int a), .vl (.int (m:Int)), .un, .un]= .ok q.t:=by
  rw [Zq,v0,bOk,v1,bOk,Zg,bOk,hq]
 have s1:([.vl (scr ns), .vl (.int a), .vl (.int (m:Int)), .un, .un]:En).set 3 (.vl q.t)=en5 ns a m q .un:=rfl
 rw [e,b_w,zk (zV e1),s1]
 rcases qV ns ha (m:=m) (List.range 3) q .un ho with ⟨k,h1,h2,h3⟩ | ⟨k,x,h1,h3⟩
 ·refine ⟨k,h1,h2, ?_⟩
  have e2:ju (Zd (cE (.int 3))) (zw 4) smB (en5 ns a m q .un)= .rt k.t:=h3
  rw [ZQ e2]
  rfl
 ·have e2:ju (Zd (cE (.int 3))) (zw 4) smB (en5 ns a m q .un)= .nx (en5 ns a m k x):=h3
  rw [zk e2]
  have ec:zx leC (zc 1 (f_9 8) (z9 (vE 3) (zg))) (vB 2) (frz (en5 ns a m k x))= .ok (decide (k.all.length<=m)):=qU (x:=Wa x) h1
  by_cases h:k.all.length<=m
  ·refine ⟨k,h1,h, ?_⟩
   rw [zR (t:=k.t)]
   ·rfl
   ·unfold ifE
    rw [ec,bOk,decide_eq_true h,if_pos rfl]
    rfl
  ·refine ⟨.whole (-1) 2,⟨by omega,by omega,by omega⟩,by rw [JC]; exact hm, ?_⟩
   rw [zR (t:=(Kd.whole (-1) 2).t)]
   ·rfl
   ·unfold ifE
    rw [ec,bOk,decide_eq_false h,if_neg Bool.false_ne_true,Kd.t]
    rfl
mutual
def Kd.has:Kd->T->Bool
 | .whole lo hi=>fun t=>inR lo hi t
 | .pick cs=>fun t=>match t with | .str x=>cs.any fun c=>c.1 == x | _=>false
 | .row ks=>fun t=>match t with | .tup xs=>xs.length == ks.length && Kd.hass ks xs | _=>false
 | .many k lo hi=>fun t=>match t with | .tup xs=>decide (lo<=xs.length) && decide (xs.length<=hi) && xs.all k.has | _=>false
def Kd.hass:List Kd->List T->Bool
 | []=>fun _=>true
 | k :: ks=>fun xs=>match xs with | []=>true | x :: xs=>k.has x && Kd.hass ks xs
end
theorem WO:∀ (ks:List Kd) (xs:List T),Kd.hass ks xs=(ks.zip xs).all fun q=>q.1.has q.2
 | [],_=>by simp [Kd.hass]
 | k :: ks,[]=>by simp [Kd.hass]
 | k :: ks,x :: xs=>by simp [Kd.hass,WO ks xs]
def Y4:List (List T)->List T->Prop
 | [],[]=>True
 | l :: ls,x :: xs=>x∈l/\Y4 ls xs
 | _,_=>False
theorem wQ:∀ (ls made:List (List T)) (xs:List T),xs∈JS made ls↔∃ a∈made,∃ b,Y4 ls b/\xs=a++b
 | [],made,xs=>by
  rw [JS]
  constructor
  ·exact fun h=>⟨xs,h,[],trivial,by simp⟩
  ·rintro ⟨a,ha,b,hb,rfl⟩
   cases b with
   | nil=>simpa using ha
   | cons=>exact hb.elim
 | l :: ls,made,xs=>by
  rw [JS,wQ ls]
  constructor
  ·rintro ⟨a',ha',b,hb,rfl⟩
   obtain ⟨a,ha,hx⟩:=List.mem_flatMap.mp ha'
   obtain ⟨x,hl,e⟩:=List.mem_map.mp hx
   exact ⟨a,ha,x :: b,⟨hl,hb⟩,by rw [← e]; simp⟩
  ·rintro ⟨a,ha,b,hb,rfl⟩
   cases b with
   | nil=>exact hb.elim
   | cons x b=>exact ⟨a++[x],List.mem_flatMap.mpr ⟨a,ha,List.mem_map.mpr ⟨x,hb.1,rfl⟩⟩,b,hb.2,by simp⟩
theorem JD (ls:List (List T)) (t:T):t∈uF ls↔∃ xs,Y4 ls xs/\t= .tup xs:=by
 unfold uF
 rw [List.mem_map]
 constructor
 ·rintro ⟨xs,h,rfl⟩
  obtain ⟨a,ha,b,hb,rfl⟩:=(wQ ls [[]] xs).mp h
  rw [List.mem_singleton.mp ha]
  exact ⟨b,hb,rfl⟩
 ·rintro ⟨xs,h,rfl⟩
  exact ⟨xs,(wQ ls [[]] xs).mpr ⟨[],List.mem_singleton.mpr rfl,xs,h,rfl⟩,rfl⟩
theorem JE (l:List T):∀ (m:Nat) (xs:List T),Y4 (List.replicate m l) xs↔xs.length=m/\∀ x∈xs,x∈l
 | 0,[]=>by simp [Y4]
 | 0,x :: xs=>by simp [Y4]
 | m+1,[]=>by simp [Y4,List.replicate_succ]
 | m+1,x :: xs=>by
  rw [List.replicate_succ]
  show x∈l/\Y4 _ xs↔_
  rw [JE l m xs]
  simp
  constructor
  ·rintro ⟨a,b,c⟩; exact ⟨b,a,c⟩
  ·rintro ⟨a,b,c⟩; exact ⟨b,a,c⟩
theorem uN:∀ (ks:List Kd),(∀ k∈ks,∀ x,x∈k.all↔k.has x=true)->∀ xs,Y4 (ks.map Kd.all) xs↔(xs.length == ks.length && Kd.hass ks xs)=true
 | [],_,[]=>by simp [Y4,Kd.hass]
 | [],_,x :: xs=>by simp [Y4]
 | k :: ks,h,[]=>by simp [Y4]
 | k :: ks,h,x :: xs=>by
  show x∈k.all/\Y4 (ks.map Kd.all) xs↔_
  rw [uN ks (fun k' hk' =>h k' (List.mem_cons_of_mem _ hk')) xs,h k List.mem_cons_self x]
  simp [Kd.hass]
  constructor
  ·rintro ⟨a,b,c⟩; exact ⟨b,a,c⟩
  ·rintro ⟨a,b,c⟩; exact ⟨b,a,c⟩
mutual
theorem ji:∀ (k:Kd) (x:T),x∈k.all↔k.has x=true
 | .whole lo hi,x=>by
  rw [Kd.all,Kd.has,List.mem_map]
  constructor
  ·rintro ⟨i,hi',rfl⟩
   rw [List.mem_range] at hi'
   simp [inR]; omega
  ·intro h
   obtain ⟨i,rfl⟩:=WD h
   simp [inR] at h
   exact ⟨(i - lo).toNat,by rw [List.mem_range]; omega,by congr 1; omega⟩
 | .pick cs,x=>by
  rw [Kd.all,Kd.has,List.mem_map]
  constructor
  ·rintro ⟨c,hc,rfl⟩
   simp only [List.any_eq_true]
   exact ⟨c,hc,by simp⟩
  ·intro h
   dsimp only at h
   split at h
   ·rw [List.any_eq_true] at h
    obtain ⟨c,hc,e⟩:=h
    exact ⟨c,hc,by rw [eq_of_beq e]⟩
   ·cases h
 | .row ks,x=>by
  rw [Kd.all,Kd.has,JD,Kd.alls_map]
  have:=uN ks (ya ks)
  constructor
  ·rintro ⟨xs,h,rfl⟩
   exact (this xs).mp h
  ·intro h
   dsimp only at h
   split at h
   ·rename_i xs
    exact ⟨xs,(this xs).mpr h,rfl⟩
   ·cases h
 | .many k lo hi,x=>by
  rw [Kd.all,Kd.has,List.mem_flatMap]
  constructor
  ·rintro ⟨i,hi',h⟩
   rw [JD] at h
   obtain ⟨xs,h,rfl⟩:=h
   rw [JE] at h
   rw [List.mem_range] at hi'
   simp only [Bool.and_eq_true,decide_eq_true_eq,List.all_eq_true]
   exact ⟨⟨by omega,by omega⟩,fun y hy=>(ji k y).mp (h.2 y hy)⟩
  ·intro h
   dsimp only at h
   split at h
   ·rename_i xs
    simp only [Bool.and_eq_true,decide_eq_true_eq,List.all_eq_true] at h
    refine ⟨xs.length - lo,by rw [List.mem_range]; omega, ?_⟩
    rw [JD]
    exact ⟨xs,(JE _ _ _).mpr ⟨by omega,fun y hy=>(ji k y).mpr (h.2 y hy)⟩,rfl⟩
   ·cases h
theorem ya:∀ (ks:List Kd),∀ k∈ks,∀ x,x∈k.all↔k.has x=true
 | [],_,h=>nomatch h
 | k :: ks,k',h=>by
  rcases List.mem_cons.mp h with e | h
  ·intro x
   rw [e]
   exact ji k x
  ·exact ya ks k' h
end
theorem Wh {c:List T->R T}:∀ (qs:List (Kd×T)) (x y:Sl),(∀ q∈qs,c [q.1.t,q.2]= .ok (.bl (q.1.has q.2)))->zZ (Zt 0 1) Zc (zc 2 c (z9 (vE 0) (z9 (vE 1) (zg)))) (qs.map fun q=>T.tup [q.1.t,q.2]) [x,y]= .ok (qs.map fun q=>T.bl (q.1.has q.2))
 | [],_,_,_=>rfl
 | q :: qs,x,y,h=>by
  have e:zc 2 c (z9 (vE 0) (z9 (vE 1) (zg))) [.vl q.1.t, .vl q.2]= .ok (.bl (q.1.has q.2)):=by
   rw [Z3,v0,bOk,v1,bOk,h q List.mem_cons_self]
  have ih:=Wh qs (.vl q.1.t) (.vl q.2) fun r hr=>h r (List.mem_cons_of_mem _ hr)
  have e0:zZ (Zt 0 1) Zc (zc 2 c (z9 (vE 0) (z9 (vE 1) (zg)))) ((q :: qs).map fun q=>T.tup [q.1.t,q.2]) [x,y]=
   (zc 2 c (z9 (vE 0) (z9 (vE 1) (zg))) [.vl q.1.t, .vl q.2]).bind fun v=>(zZ (Zt 0 1) Zc (zc 2 c (z9 (vE 0) (z9 (vE 1) (zg)))) (qs.map fun q=>T.tup [q.1.t,q.2]) [.vl q.1.t, .vl q.2]).bind fun vs=> .ok (v :: vs):=rfl
  rw [e0,e,bOk,ih,bOk,List.map_cons]
theorem yb {α:Type} (p:α->Bool):∀ qs:List α,U0 (qs.map fun q=>T.bl (p q))=some (qs.all p)
 | []=>rfl
 | q :: qs=>by
  have e:U0 ((q :: qs).map fun q=>T.bl (p q))=match U0 (qs.map fun q=>T.bl (p q)) with | some j=>some (p q && j) | none=>none:=rfl
  rw [e,yb p qs]
  rfl
theorem Xe (ks:List Kd) (xs:List T):vc (ks.map Kd.t) xs=(ks.zip xs).map fun q=>T.tup [q.1.t,q.2]:=by
 unfold vc
 rw [List.zip_map_left,List.map_map]
 rfl
theorem yc {c:List T->R T} {s:T} (ks:List Kd) (xs:List T) (hs:wc s= .ok (ks.map Kd.t)) (hl:ks.length<=3) (H:∀ q∈ks.zip xs,c [q.1.t,q.2]= .ok (.bl (q.1.has q.2))):
  zo (kT c (en0 2 [s, .tup xs]))= .ok (.bl ((ks.zip xs).all fun q=>q.1.has q.2)):=by
 have e:en0 2 [s, .tup xs]=[.vl s, .vl (.tup xs)]:=rfl
 have ez:ve (vE 0) (vE 1) [.vl s, .vl (.tup xs)]= .ok ((ks.zip xs).map fun q=>T.tup [q.1.t,q.2]):=by
  show (wc s).bind _=_
  rw [hs,bOk,← Xe]
  rfl
 have hb:((ks.zip xs).map fun q=>T.tup [q.1.t,q.2]).length<=bnd:=by
  rw [List.length_map,List.length_zip]
  exact Nat.le_trans (Nat.min_le_left _ _) (Nat.le_trans hl (by decide))
 have ec:zG (Zt 0 1) Zc (zc 2 c (z9 (vE 0) (z9 (vE 1) (zg)))) 2 [] [.vl s, .vl (.tup xs)] ((ks.zip xs).map fun q=>T.tup [q.1.t,q.2])= .ok ((ks.zip xs).map fun q=>T.bl (q.1.has q.2)):=by
  unfold zG
  rw [if_pos hb]
  show quiet (zZ _ _ _ _ [.un, .un])=_
  rw [Wh _ _ _ H]
  rfl
 rw [e,kT,zR (t:= .bl ((ks.zip xs).all fun q=>q.1.has q.2))]
 ·rfl
 ·show ap1 _ _ [.vl s, .vl (.tup xs)]=_
  rw [Zn,zI,ez,bOk,ec,bOk,bOk]
  show (match U0 ((ks.zip xs).map fun q=>T.bl (q.1.has q.2)) with | some k=>_ | none=>_)=_
  rw [yb]
theorem WP (cs:List (Str×Int)) (h:cs.length<=4):f_k [(Kd.pick cs).t]= .ok (.lst (cs.map fun c=>T.str c.1)):=by
 have e:f_k [(Kd.pick cs).t]=zo (b_k [.vl (.tup [.str "pick", .tup (cs.map J8)])]):=by rw [Kd.t]; rfl
 have hb:(cs.map J8).length<=bnd:=by rw [List.length_map]; exact Nat.le_trans h (by decide)
 have ec:zG (zw 0) Zc (ze ixT (vE 0) (cE (.int 0))) 1 [] [.vl (.tup [.str "pick", .tup (cs.map J8)])] (cs.map J8)= .ok ((cs.map J8).map fun c=>match c with | .tup (w :: _)=>w | _=>c):=
  zX _ hb fun t ht=>by
   obtain ⟨c,_,rfl⟩:=List.mem_map.mp ht
   rfl
 rw [e,b_k,zR (t:= .lst (cs.map fun c=>T.str c.1))]
 ·rfl
 ·show zQ _ _ _ _ _ _ [.vl (.tup [.str "pick", .tup (cs.map J8)])]=_
  rw [zI,ZP,wO,bOk]
  show ((zG _ _ _ _ _ _ (cs.map J8)).bind _)=_
  rw [ec,bOk,List.map_map]
  rfl
theorem yd (t:T):∀ cs:List (Str×Int),uk (fun y=>eqF 30 y t) (cs.map fun c=>T.str c.1)=some ((Kd.pick cs).has t)
 | []=>by rw [Kd.has]; cases t <;> rfl
 | c :: cs=>by
  have ih:=yd t cs
  rw [Kd.has] at ih ⊢
  have e:uk (fun y=>eqF 30 y t) ((c :: cs).map fun c=>T.str c.1)=match eqF 30 (.str c.1) t with
   | none=>none
   | some b=>match uk (fun y=>eqF 30 y t) (cs.map fun c=>T.str c.1) with
    | none=>none
    | some d=>some (b || d):=rfl
  rw [e,ih]
  cases t <;> rfl
abbrev en2 (a b:T):En:=[.vl a, .vl b]
theorem u4 {x w:Str} {r:List T} {b:T} (h:(x == w)=false) {f:En->RS}:ifS (zx eqC (ze ixT (vE 0) (cE (.int 0))) (cE (.str w))) f nxS (en2 (.tup (.str x :: r)) b)= .nx (en2 (.tup (.str x :: r)) b):=
 jh (by rw [cs0,h])
theorem vL {x:Str} {r:List T} {b:T} {f:En->RS}:ifS (zx eqC (ze ixT (vE 0) (cE (.int 0))) (cE (.str x))) f nxS (en2 (.tup (.str x :: r)) b)=f (en2 (.tup (.str x :: r)) b):=
 Y3 (by rw [cs0,beq_self_eq_true])
theorem qW {cp:List T->R T} (lo hi:Int) (x:T):zo (b_h f_m f_d f_k cp (en0 2 [(Kd.whole lo hi).t,x]))= .ok (.bl ((Kd.whole lo hi).has x)):=by
 have e:en0 2 [(Kd.whole lo hi).t,x]=en2 (.tup [.str "whole", .int lo, .int hi]) x:=by rw [Kd.t]; rfl
 rw [e,b_h,ZQ (t:= .bl (inR lo hi x))]
 ·rw [Kd.has]; rfl
 ·rw [vL,zR]
  show Jo _ _ (en2 _ x)=_
  rw [JA,j1,v1,bOk,UT,ZI]
  cases x with
  | int i=>
   rw [show isW (T.int i)=true from rfl,if_pos rfl,vn,wO,bOk,w1,bOk,Ug,bOk,y6,bOk,Ug,bOk]
   show _=R.ok (T.bl (decide (lo<=i) && decide (i<=hi)))
   cases decide (lo<=i) <;> rfl
  | _=>rfl
theorem vM {cp:List T->R T} (cs:List (Str×Int)) (h4:cs.length<=4) (x:T):zo (b_h f_m f_d f_k cp (en0 2 [(Kd.pick cs).t,x]))= .ok (.bl ((Kd.pick cs).has x)):=by
 have e:en0 2 [(Kd.pick cs).t,x]=en2 (.tup [.str "pick", .tup (cs.map J8)]) x:=by rw [Kd.t]; rfl
 have hw:=WP cs h4
 rw [Kd.t] at hw
 rw [e,b_h,zk (u4 (by decide)),ZQ (t:= .bl ((Kd.pick cs).has x))]
 ·rfl
 ·rw [vL,zR]
  show w9 _ _ _ (en2 _ x)=_
  rw [jB,w1,bOk,j1,v0,bOk,hw,bOk]
  show ((match uk (fun y=>eqF 30 y x) (cs.map fun (c:Str×Int)=>T.str c.1) with | some b=>R.ok b | none=> .bad).bind _)=_
  rw [yd]
  rfl
theorem Xf {cp:List T->R T} (ks:List Kd) (h3:ks.length<=3) (x:T) (H:∀ xs,x= .tup xs->cp [.tup (ks.map Kd.t),x]= .ok (.bl ((ks.zip xs).all fun q=>q.1.has q.2))):zo (b_h f_m f_d f_k cp (en0 2 [(Kd.row ks).t,x]))= .ok (.bl ((Kd.row ks).has x)):=by
 have e:en0 2 [(Kd.row ks).t,x]=en2 (.tup [.str "row", .tup (ks.map Kd.t)]) x:=by rw [Kd.t,Kd.ts_map]; rfl
 rw [e,b_h,zk (u4 (by decide)),zk (u4 (by decide)),ZQ (t:= .bl ((Kd.row ks).has x))]
 ·rfl
 ·rw [vL,zR]
  show Jo _ _ (en2 _ x)=_
  have el:ap1 Z0 (ze ixT (vE 0) (cE (.int 1))) (en2 (.tup [.str "row", .tup (ks.map Kd.t)]) x)= .ok (.int (ks.length:Nat)):=by
   rw [Zn,wO,bOk,ZU,List.length_map]
  rw [JA,Zq,v1,bOk,el,bOk,bOk,jf,ZI,Z3,wO,bOk,v1,bOk,Kd.has]
  cases x with
  | tup xs=>
   rw [H xs rfl]
   show (if (decide (ks.length<=xs.length) && decide (xs.length<=ks.length))=true then _ else _)=R.ok (T.bl (xs.length == ks.length && Kd.hass ks xs))
   rw [WO]
   by_cases h:xs.length=ks.length
   ·rw [if_pos (by simp [h])]
    simp [h]
   ·rw [if_neg (by simp; omega)]
    simp [h]
  | _=>rfl
theorem qX (k:Kd):∀ xs:List T,((List.replicate xs.length k).zip xs).all (fun q=>q.1.has q.2)=xs.all k.has
 | []=>rfl
 | x :: xs=>by
  rw [List.length_cons,List.replicate_succ,List.zip_cons_cons,List.all_cons,List.all_cons,qX k xs]
theorem vN {cp:List T->R T} (k:Kd) (lo hi:Nat) (h3:hi<=3) (x:T) (H:∀ xs,x= .tup xs->xs.length<=3->cp [.lst ((List.replicate xs.length k).map Kd.t),x]= .ok (.bl (((List.replicate xs.length k).zip xs).all fun q=>q.1.has q.2))):zo (b_h f_m f_d f_k cp (en0 2 [(Kd.many k lo hi).t,x]))= .ok (.bl ((Kd.many k lo hi).has x)):=by
 have e:en0 2 [(Kd.many k lo hi).t,x]=en2 (.tup [.str "many",k.t, .int (lo:Int), .int (hi:Int)]) x:=by rw [Kd.t]; rfl
 rw [e,b_h,zk (u4 (by decide)),zk (u4 (by decide)),zk (u4 (by decide)),zR (t:= .bl ((Kd.many k lo hi).has x))]
 ·rfl
 ·show Jo _ _ (en2 _ x)=_
  rw [JA,Zq,v1,bOk,y6,bOk,Ka,bOk,jf,ZI,Kd.has]
  cases x with
  | tup xs=>
   show (if (decide (lo<=xs.length) && decide (xs.length<=hi))=true then _ else _)=R.ok (T.bl (decide (lo<=xs.length) && decide (xs.length<=hi) && xs.all k.has))
   cases hh:(decide (lo<=xs.length) && decide (xs.length<=hi)) with
   | false=>rfl
   | true=>
    rw [Bool.and_eq_true,decide_eq_true_eq,decide_eq_true_eq] at hh
    have hx:xs.length<=3:=by omega
    have em:ze Zi (ZD (z9 (ze ixT (vE 0) (cE (.int 1))) (zg))) (ap1 Z0 (vB 1)) (en2 (.tup [.str "many",k.t, .int (lo:Int), .int (hi:Int)]) (.tup xs))= .ok (.lst ((List.replicate xs.length k).map Kd.t)):=by
     rw [zl,X9 wO,bOk,Zn,w1,bOk,ZU,bOk,uJ hx,J9,List.map_replicate]
    rw [if_pos rfl,Z3,em,bOk,v1,bOk,H xs rfl hx,qX]
    rfl
  | _=>rfl
theorem Vs:∀ (d n:Nat),2*d<=n->∀ (k:Kd) (x:T),k.Ok d->S_h n 0 [k.t,x]= .ok (.bl (k.has x))
 | 0,_,_,_,_,h=>h.elim
 | d+1,n+2,hn,k,x,h=>by
  have ih:=Vs d n (by omega)
  have e:S_h (n+2) 0 [k.t,x]=zo (b_h f_m f_d f_k (S_h (n+1) 1) (en0 2 [k.t,x])):=by rw [S_h]
  have e1:∀ s y,S_h (n+1) 1 [s,y]=zo (kT (S_h n 0) (en0 2 [s,y])):=fun s y=>by rw [S_h]; intro h; cases h
  rw [e]
  cases k with
  | whole lo hi=>exact qW lo hi x
  | pick cs=>exact vM cs h.2.1 x
  | row ks=>
   refine Xf ks h.2.1 x fun xs hx=> ?_
   rw [e1,hx,yc ks xs rfl h.2.1 fun q hq=>ih q.1 q.2 (h.2.2 q.1 (List.of_mem_zip hq).1)]
  | many k lo hi=>
   refine vN k lo hi h.2.1 x fun xs hx h3=> ?_
   rw [e1,hx,yc (List.replicate xs.length k) xs rfl (by rw [List.length_replicate]; exact h3) fun q hq=>ih q.1 q.2 (by
    rw [List.eq_of_mem_replicate (List.of_mem_zip hq).1]; exact h.2.2)]
theorem ye:∀ (d:Nat) (k:Kd),k.Ok d->isK d k.t=true
 | 0,_,h=>h.elim
 | d+1, .whole lo hi,h=>by
  have e:isK (d+1) (Kd.whole lo hi).t=(decide (-20<=lo) && decide (lo<=hi) && decide (hi<=20)):=by rw [Kd.t]; rfl
  obtain ⟨h1,h2,h3⟩:=h
  rw [e]; simp; omega
 | d+1, .pick cs,h=>by
  have e:isK (d+1) (Kd.pick cs).t=(decide (1<=(cs.map J8).length) && decide ((cs.map J8).length<=4) && (cs.map J8).all zq && decide ((dd [] ((cs.map J8).map Z2)).length=(cs.map J8).length)):=by rw [Kd.t]; rfl
  obtain ⟨h1,h2,h3,h4⟩:=h
  have e1:(cs.map J8).map Z2=cs.map (·.1):=by rw [List.map_map]; rfl
  have e2:=(wJ (cs.map (·.1)) []).mpr fun k w hw=>by simpa using h4 k w hw
  rw [e,e1,e2,List.length_map,List.length_map]
  simp only [Bool.and_eq_true,decide_eq_true_eq,List.all_eq_true]
  refine ⟨⟨⟨h1,h2⟩,fun c hc=> ?_⟩,by simp⟩
  obtain ⟨p,hp,rfl⟩:=List.mem_map.mp hc
  obtain ⟨a,b,c⟩:=h3 p hp
  show (Zp (.str p.1) && decide (1<=p.2) && decide (p.2<=20))=true
  rw [a]; simp; omega
 | d+1, .row ks,h=>by
  have e:isK (d+1) (Kd.row ks).t=(decide (1<=(ks.map Kd.t).length) && decide ((ks.map Kd.t).length<=3) && (ks.map Kd.t).all (isK d)):=by rw [Kd.t,Kd.ts_map]; rfl
  obtain ⟨h1,h2,h3⟩:=h
  rw [e,List.length_map]
  simp only [Bool.and_eq_true,decide_eq_true_eq,List.all_eq_true]
  refine ⟨⟨h1,h2⟩,fun c hc=> ?_⟩
  obtain ⟨k,hk,rfl⟩:=List.mem_map.mp hc
  exact ye d k (h3 k hk)
 | d+1, .many k lo hi,h=>by
  have e:isK (d+1) (Kd.many k lo hi).t=((decide ((0:Int)<=(lo:Int)) && decide ((lo:Int)<=(hi:Int)) && decide ((hi:Int)<=3)) && isK d k.t):=by rw [Kd.t]; rfl
  obtain ⟨h1,h2,h3⟩:=h
  rw [e,ye d k h3]; simp; omega
theorem WQ:∀ (ks:List Kd) (xs:List T),xs.length=ks.length->Kd.hass ks xs=true->∀ x∈xs,∃ k∈ks,k.has x=true
 | [],[],_,_,_,h=>nomatch h
 | k :: ks,[],h,_,_,_=>by cases h
 | [],x :: xs,h,_,_,_=>by cases h
 | k :: ks,x :: xs,hl,h,y,hy=>by
  rw [Kd.hass] at h
  have h:(k.has x && Kd.hass ks xs)=true:=h
  rw [Bool.and_eq_true] at h
  rcases List.mem_cons.mp hy with rfl | hy
  ·exact ⟨k,List.mem_cons_self,h.1⟩
  ·obtain ⟨k',hk,hh⟩:=WQ ks xs (by simpa using hl) h.2 y hy
   exact ⟨k',List.mem_cons_of_mem _ hk,hh⟩
theorem qY {d:Nat} {xs:List T} (h:∀ x∈xs,Fit d (4 ^ d) x) (h3:xs.length<=3):Fit (d+1) (4 ^ (d+1)) (.tup xs):=by
 obtain ⟨a,b,c⟩:=KP h
 have hp:1<=4 ^ d:=Nat.pow_pos (by omega)
 have h3:4 ^ d*xs.length<=4 ^ d*3:=Nat.mul_le_mul_left _ h3
 refine ⟨?_, ?_, ?_⟩
 ·simp only [sOk]; exact a
 ·simp only [dep]; omega
 ·simp only [siz,Nat.pow_succ]; omega
theorem wR:∀ (d:Nat) (k:Kd) (x:T),k.Ok d->k.has x=true->Fit d (4 ^ d) x
 | 0,_,_,h,_=>h.elim
 | d+1, .whole lo hi,x,h,hx=>by
  rw [Kd.has] at hx
  obtain ⟨i,rfl⟩:=WD hx
  have hp:1<=4 ^ (d+1):=Nat.pow_pos (by omega)
  exact ⟨by simp only [sOk],by simp only [dep]; omega,by simp only [siz]; omega⟩
 | d+1, .pick cs,x,h,hx=>by
  rw [Kd.has] at hx
  have hp:1<=4 ^ (d+1):=Nat.pow_pos (by omega)
  dsimp only at hx
  split at hx
  ·rename_i y
   rw [List.any_eq_true] at hx
   obtain ⟨c,hc,e⟩:=hx
   have hw:(decide (1<=c.1.length) && decide (c.1.length<=3) && c.1.cps.toList.all Zf)=true:=(h.2.2.1 c hc).1
   rw [Bool.and_eq_true,Bool.and_eq_true,decide_eq_true_eq,decide_eq_true_eq] at hw
   rw [← eq_of_beq e]
   exact ⟨by simp only [sOk]; exact Nat.le_trans hw.1.2 (by decide),by simp only [dep]; omega,by simp only [siz]; omega⟩
  ·cases hx
 | d+1, .row ks,x,h,hx=>by
  rw [Kd.has] at hx
  dsimp only at hx
  split at hx
  ·rename_i xs
   rw [Bool.and_eq_true,beq_iff_eq] at hx
   refine qY (fun y hy=> ?_) (by rw [hx.1]; exact h.2.1)
   obtain ⟨k,hk,hh⟩:=WQ ks xs hx.1 hx.2 y hy
   exact wR d k y (h.2.2 k hk) hh
  ·cases hx
 | d+1, .many k lo hi,x,h,hx=>by
  rw [Kd.has] at hx
  dsimp only at hx
  split at hx
  ·rename_i xs
   rw [Bool.and_eq_true,Bool.and_eq_true,decide_eq_true_eq,decide_eq_true_eq,List.all_eq_true] at hx
   exact qY (fun y hy=>wR d k y h.2.2 (hx.2 y hy)) (Nat.le_trans hx.1.2 h.2.1)
  ·cases hx
theorem w4 (t:T) (ht:sOk t):Vg [t]=if isK 3 t=true then .ok .non else .ex 0:=by
 have e:Vg [t]=zo (KJ f_2 [.vl t]):=rfl
 have ec:Jv (jb (zc 1 f_2 (z9 (vE 0) (zg)))) [.vl t]= .ok (!isK 3 t):=by
  rw [JW,jS,j1,v0,bOk,yV t ht,bOk,ZO,bOk]
 rw [e,KJ,ZJ,ec,Za]
 cases isK 3 t <;> rfl
theorem Uv (k:Kd) (hk:k.Ok 3) (x:T):f_u [k.t,x]= .ok (.bl (k.has x)):=by
 have hi:=ye 3 k hk
 have e:f_u [k.t,x]=zo (b_u Vg (f_h 20) (en2 k.t x)):=rfl
 have e1:wX (zc 1 Vg (z9 (vE 0) (zg))) (en2 k.t x)= .nx (en2 k.t x):=by
  show (zc 1 _ _ _).s _=_
  rw [j1,v0,bOk,w4 _ (wk 3 _ hi).so,hi,if_pos rfl,Za]
 have hh:f_h 20 [k.t,x]= .ok (.bl (k.has x)):=Vs 3 20 (by omega) k x hk
 rw [e,b_u,zk e1,zR (t:= .bl (k.has x))]
 ·rfl
 ·show zc 2 _ _ (en2 k.t x)=_
  rw [Z3,v0,bOk,v1,bOk,hh]
theorem qZ {f g:En->RS} {ρ:En} {c:Nat} (h:f ρ= .ex c):zz f g ρ= .ex c:=by rw [zE,h]
theorem Uw (t:T) (ht:sOk t) (hi:isK 3 t=false) (x:T):f_u [t,x]= .ex 0:=by
 have e:f_u [t,x]=zo (b_u Vg (f_h 20) (en2 t x)):=rfl
 have e1:wX (zc 1 Vg (z9 (vE 0) (zg))) (en2 t x)= .ex 0:=by
  show (zc 1 _ _ _).s _=_
  rw [j1,v0,bOk,w4 _ ht,hi]; rfl
 rw [e,b_u,qZ e1]
 rfl
theorem Jh {α:Type} {xs:List α} {i:Nat} (h:i < xs.length):∃ x,xs[i]? =some x:=⟨_,List.getElem?_eq_getElem h⟩
theorem Wp (k:Kd) (m:Nat):((List.replicate m k).map fun k=>k.all.length)=List.replicate m k.all.length:=by rw [List.map_replicate]
theorem v5' {t:T} {a b c d e:Sl} {ρ:En}:vE 5 (a :: b :: c :: d :: e :: .vl t :: ρ)= .ok t:=rfl
theorem Kg {i:Nat} {f:En->R T} {ρ:En} {ts:List T} {t:T} (hi:ρ[i]? =some (.ow ts)) (hl:ts.length < bnd) (h:f ρ= .ok t):V8 i f ρ= .nx (ρ.set i (.ow (ts++[t]))):=by
 unfold V8; rw [hi]; dsimp only; rw [h,Za,if_pos hl]
theorem Q0 (x:Str):∀ cs:List (Str×Int),eqs (.str x) (cs.map fun c=>T.str c.1)=some (cs.map fun c=>c.1 == x)
 | []=>rfl
 | c :: cs=>by
  show (match eqF 30 (.str c.1) (.str x) with
   | none=>none
   | some b=>match eqs (.str x) (cs.map fun (c:Str×Int)=>T.str c.1) with
    | none=>none
    | some bs=>some (b :: bs))=_
  rw [Q0 x cs]; rfl
theorem uO:∀ (bs:List Bool) (i:Nat),bs[i]? =some true->(∀ j,j < i->bs[j]? =some false)->bs.idxOf true=i
 | [],i,h,_=>by simp at h
 | b :: bs,0,h,_=>by
  have:b=true:=by simpa using h
  subst this; rfl
 | b :: bs,i+1,h,hj=>by
  have h0:b=false:=by simpa using hj 0 (by omega)
  subst h0
  have:=uO bs i (by simpa using h) fun j h' =>by simpa using hj (j+1) (by omega)
  rw [List.idxOf_cons,this]; rfl
theorem vO {cs:List (Str×Int)} (hd:Dst (cs.map (·.1))) {i:Nat} {c:Str×Int} (h:cs[i]? =some c):QA (.str c.1) (cs.map fun c=>T.str c.1)= .ok (.int (i:Int)):=by
 unfold QA
 rw [Q0]
 dsimp only
 have hi:=(List.getElem?_eq_some_iff.mp h).1
 have h1:(cs.map fun d=>d.1 == c.1)[i]? =some true:=by rw [List.getElem?_map,h]; simp
 rw [if_pos (List.mem_of_getElem? h1),uO _ i h1 fun j hj=> ?_]
 rw [List.getElem?_map]
 cases hc:cs[j]? with
 | none=>rw [List.getElem?_eq_none_iff] at hc; omega
 | some d=>
  have hw:=hd i c.1 (by rw [List.getElem?_map,h]; rfl)
  have:d.1 ≠ c.1:=fun e=>hw (by
   rw [← e]
   refine List.mem_of_getElem? (i:=j) ?_
   rw [List.getElem?_take_of_lt hj,List.getElem?_map,hc]; rfl)
  show some (d.1 == c.1)=some false
  rw [beq_eq_false_iff_ne.mpr this]
def Pl:Nat->T->Prop
 | 0,_=>False
 | n+1, .tup xs=>∀ x∈xs,Pl n x
 | n+1, .lst xs=>∀ x∈xs,Pl n x
 | _+1, .fz _=>False
 | _+1,_=>True
theorem wo {f:T->T->Option Bool}:∀ (xs ys:List T),(∀ x∈xs,∀ y,∃ b,f x y=some b)->∃ b,eqL f xs ys=some b
 | [],[],_=>⟨_,rfl⟩
 | [],_ :: _,_=>⟨_,rfl⟩
 | _ :: _,[],_=>⟨_,rfl⟩
 | x :: xs,y :: ys,h=>by
  obtain ⟨b,hb⟩:=h x List.mem_cons_self y
  obtain ⟨c,hc⟩:=wo xs ys fun z hz=>h z (List.mem_cons_of_mem _ hz)
  exact ⟨b && c,by unfold eqL; rw [hb,hc]⟩
theorem ZV {f:T->T->Option Bool}:∀ (xs:List T),(∀ x∈xs,f x x=some true)->eqL f xs xs=some true
 | [],_=>rfl
 | x :: xs,h=>by
  unfold eqL
  rw [h x List.mem_cons_self,ZV xs fun z hz=>h z (List.mem_cons_of_mem _ hz)]
  rfl
theorem wp:∀ (n:Nat) (y x:T),Pl n y->∃ b,eqF n y x=some b
 | 0,_,_,h=>h.elim
 | n+1,y,x,h=>by
  cases y with
  | tup xs=>
   have h:∀ x∈xs,Pl n x:=h
   cases x with
   | tup ys=>rw [eqF]; exact wo xs ys fun z hz u=>wp n z u (h z hz)
   | _=>exact ⟨false,by rw [eqF] <;> intros <;> first | rfl | contradiction | (intro z; cases z)⟩
  | lst xs=>
   have h:∀ x∈xs,Pl n x:=h
   cases x with
   | lst ys=>rw [eqF]; exact wo xs ys fun z hz u=>wp n z u (h z hz)
   | fz ys=>rw [eqF]; exact wo xs ys fun z hz u=>wp n z u (h z hz)
   | _=>exact ⟨false,by rw [eqF] <;> intros <;> first | rfl | contradiction | (intro z; cases z)⟩
  | fz xs=>exact h.elim
  | non=>cases x <;> exact ⟨_,rfl⟩
  | bl b=>cases x <;> exact ⟨_,rfl⟩
  | int i=>cases x <;> exact ⟨_,rfl⟩
  | str i=>cases x <;> exact ⟨_,rfl⟩
theorem Zz:∀ (n:Nat) (y:T),Pl n y->eqF n y y=some true
 | 0,_,h=>h.elim
 | n+1,y,h=>by
  cases y with
  | tup xs=>rw [eqF]; exact ZV xs fun z hz=>Zz n z ((show ∀ x∈xs,Pl n x from h) z hz)
  | lst xs=>rw [eqF]; exact ZV xs fun z hz=>Zz n z ((show ∀ x∈xs,Pl n x from h) z hz)
  | fz xs=>exact h.elim
  | non=>rfl
  | bl b=>show some (b == b)=_; simp
  | int i=>show some (i == i)=_; simp
  | str i=>show some (i == i)=_; simp
theorem Pl.up:∀ (n:Nat) (y:T),Pl n y->Pl (n+1) y
 | 0,_,h=>h.elim
 | n+1,y,h=>by
  cases y with
  | tup xs=>exact fun z hz=>Pl.up n z ((show ∀ x∈xs,Pl n x from h) z hz)
  | lst xs=>exact fun z hz=>Pl.up n z ((show ∀ x∈xs,Pl n x from h) z hz)
  | fz xs=>exact h.elim
  | _=>exact trivial
theorem Pl.le {n m:Nat} {y:T} (hm:n<=m) (h:Pl n y):Pl m y:=by
 obtain ⟨j,rfl⟩:∃ j,m=n+j:=⟨m - n,by omega⟩
 clear hm
 induction j with
 | zero=>exact h
 | succ j ih=>exact Pl.up _ _ ih
theorem Y5:∀ (d:Nat) (k:Kd) (x:T),k.Ok d->k.has x=true->Pl d x
 | 0,_,_,h,_=>h.elim
 | d+1, .whole lo hi,x,h,hx=>by
  rw [Kd.has] at hx
  obtain ⟨i,rfl⟩:=WD hx
  trivial
 | d+1, .pick cs,x,h,hx=>by
  rw [Kd.has] at hx
  dsimp only at hx
  split at hx
  ·trivial
  ·cases hx
 | d+1, .row ks,x,h,hx=>by
  rw [Kd.has] at hx
  dsimp only at hx
  split at hx
  ·rename_i xs
   rw [Bool.and_eq_true,beq_iff_eq] at hx
   intro y hy
   obtain ⟨k,hk,hh⟩:=WQ ks xs hx.1 hx.2 y hy
   exact Y5 d k y (h.2.2 k hk) hh
  ·cases hx
 | d+1, .many k lo hi,x,h,hx=>by
  rw [Kd.has] at hx
  dsimp only at hx
  split at hx
  ·rename_i xs
   rw [Bool.and_eq_true,List.all_eq_true] at hx
   exact fun y hy=>Y5 d k y h.2.2 (hx.2 y hy)
  ·cases hx
theorem Q1 {t:T} (h:Pl 30 t):neC t t= .ok false:=by unfold neC; rw [Zz 30 t h]; rfl
theorem uP {f:T->Option Bool}:∀ (ts:List T),(∀ t∈ts,∃ b,f t=some b)->∃ b,uk f ts=some b/\(b=false->∀ t∈ts,f t=some false)
 | [],_=>⟨false,rfl,fun _ _ h=>nomatch h⟩
 | t :: ts,h=>by
  obtain ⟨b,hb⟩:=h t List.mem_cons_self
  obtain ⟨c,hc,h'⟩:=uP ts fun u hu=>h u (List.mem_cons_of_mem _ hu)
  refine ⟨b || c,by unfold uk; rw [hb,hc],fun e u hu=> ?_⟩
  rw [Bool.or_eq_false_iff] at e
  rcases List.mem_cons.mp hu with rfl | hu
  ·rw [hb,e.1]
  ·exact h' e.2 u hu
theorem Q2 {k:Kd} (hk:k.Ok 3) (x:T):∃ b,ul x (.lst k.all)= .ok b/\(b=true->k.has x=false):=by
 obtain ⟨b,hb,h⟩:=uP (f:=fun y=>eqF 30 y x) k.all fun y hy=>wp 30 y x ((Y5 3 k y hk ((ji k y).mp hy)).le (by omega))
 refine ⟨!b, ?_,fun e=> ?_⟩
 ·show ((match uk (fun y=>eqF 30 y x) k.all with | some b=>R.ok b | none=> .bad).bind fun b=> .ok (!b))=_
  rw [hb]; rfl
 ·have hf:b=false:=by simpa using e
  cases hh:k.has x with
  | false=>rfl
  | true=>
   have h1:=h hf x ((ji k x).mpr hh)
   have h2:=Zz 30 x ((Y5 3 k x hk hh).le (by omega))
   have h1:eqF 30 x x=some false:=h1
   rw [h2] at h1; cases h1
theorem Q3 {f:En->R T} {ρ:En} {t:T} (h:f ρ= .ok t):wX f ρ= .nx ρ:=by unfold wX; rw [h,Za]
theorem Q4 {f:En->R T} {ρ:En} {c:Nat} (h:f ρ= .ex c):wX f ρ= .ex c:=by unfold wX; rw [h]; rfl
theorem jC {k:Kd} (hk:k.Ok 3) (x:T):f_o [k.t,x]=if k.has x=true then .ok .non else .ex 1:=by
 show zo (b_o f_u (en2 k.t x))=_
 have ec:Jv (jb (zc 2 f_u (z9 (vE 0) (z9 (vE 1) (zg))))) (en2 k.t x)= .ok (!k.has x):=by
  rw [JW,jS,Z3,v0,bOk,v1,bOk,Uv k hk x,bOk,ZO,bOk]
 rw [b_o,ZJ,ec,Za]
 cases k.has x <;> rfl
theorem WR {t:T} (ht:sOk t) (hi:isK 3 t=false) (x:T):f_o [t,x]= .ex 0:=by
 show zo (b_o f_u (en2 t x))=_
 have ec:Jv (jb (zc 2 f_u (z9 (vE 0) (z9 (vE 1) (zg))))) (en2 t x)= .ex 0:=by
  rw [JW,jS,Z3,v0,bOk,v1,bOk,Uw t ht hi x]; rfl
 rw [b_o,ZJ,ec]
 rfl
theorem Ux {f:En->R T} {ρ:En} {j:Int} (hf:f ρ= .ok (.int j)) (h: -1000000 < j/\j < 1000000):Zd f ρ= .ok (rng 0 j.toNat):=by
 unfold Zd
 rw [hf,bOk]
 exact if_pos h
abbrev en6 (w t x:T) (a:T):En:=[.vl w, .vl t, .vl x, .vl .non, .vl a, .un]
theorem Gf:f_8 0= .ok (.str "no kind"):=by rfl
theorem Gg:f_8 1= .ok (.str "no worth"):=by rfl
theorem Vt {i j:Int} {t x a:T} (b:Bool) (h:(i == j)=b):zx eqC (vB 0) (cE (.int j)) (en6 (.int i) t x a)= .ok b:=by
 rw [zL,w0,bOk,Zg,bOk]
 show R.ok (i == j)=_
 rw [h]
theorem Vu {i:Nat} {f:En->R T} {ρ:En} {c:Nat} (h:f ρ= .ex c):zJ i f ρ= .ex c:=by rw [j3,h]; rfl
theorem set4 {w t x v:T} {f:En->R T} (h:f (en6 w t x .non)= .ok v):zJ 4 f (en6 w t x .non)= .nx (en6 w t x v):=by rw [zV h]; rfl
theorem Gh {g:En->R Bool} {f f' :En->R T} {ρ:En} (h:g ρ= .ok true):ifE g f f' ρ=f ρ:=by unfold ifE; rw [h]; rfl
theorem Gi {g:En->R Bool} {f f' :En->R T} {ρ:En} (h:g ρ= .ok false):ifE g f f' ρ=f' ρ:=by unfold ifE; rw [h]; rfl
theorem Kh {i:Int}:neC (.int i) (.int i)= .ok false:=by show R.ok (!(i == i))=_; simp
def jG (lo hi:Int):Int:=if hi < (if lo > 0 then lo else 0) then hi else (if lo > 0 then lo else 0)
def jH (i:Int):Int:=if i < 0 then -i else i
def wtz:List (T->Int)->List T->Int
 | f :: fs,x :: xs=>f x+wtz fs xs
 | _,_=>0
def plz (fs:List (T->List T)) (xs:List T):List (List T):=(List.range xs.length).flatMap fun i=>match fs[i]?,xs[i]? with
 | some f,some x=>(f x).map fun y=>xs.set i y
 | _,_=>[]
def shl (xs:List T):List (List T):=(List.range xs.length).map fun i=>xs.take i++xs.drop (i+1)
mutual
def Kd.wt:Kd->T->Int
 | .whole lo hi=>fun t=>match t with | .int i=>jH (i - jG lo hi) | _=>0
 | .pick cs=>fun t=>match t with | .str x=>((cs.map (·.1)).idxOf x:Nat) | _=>0
 | .row ks=>fun t=>match t with | .tup xs=>wtz (Kd.wtF ks) xs | _=>0
 | .many k lo hi=>fun t=>match t with | .tup xs=>wtz (List.replicate xs.length k.wt) xs+(xs.length:Int) - (lo:Int) | _=>0
def Kd.wtF:List Kd->List (T->Int)
 | []=>[]
 | k :: ks=>k.wt :: Kd.wtF ks
end
mutual
def Kd.less:Kd->T->List T
 | .whole lo hi=>fun t=>match t with | .int i=>if i=jG lo hi then [] else if i > jG lo hi then [.int (i - 1)] else [.int (i+1)] | _=>[]
 | .pick cs=>fun t=>match t with | .str x=>(match (cs.map (·.1)).idxOf x with | 0=>[] | j+1=>match cs[j]? with | some c=>[.str c.1] | none=>[]) | _=>[]
 | .row ks=>fun t=>match t with | .tup xs=>(plz (Kd.lessF ks) xs).map T.tup | _=>[]
 | .many k lo hi=>fun t=>match t with | .tup xs=>(if xs.length=lo then [] else (shl xs).map T.tup)++(plz (List.replicate xs.length k.less) xs).map T.tup | _=>[]
def Kd.lessF:List Kd->List (T->List T)
 | []=>[]
 | k :: ks=>k.less :: Kd.lessF ks
end
theorem Kd.wtF_map:∀ ks:List Kd,Kd.wtF ks=ks.map Kd.wt
 | []=>by simp only [Kd.wtF,List.map_nil]
 | k :: ks=>by simp only [Kd.wtF,List.map_cons,Kd.wtF_map ks]
theorem Kd.lessF_map:∀ ks:List Kd,Kd.lessF ks=ks.map Kd.less
 | []=>by simp only [Kd.lessF,List.map_nil]
 | k :: ks=>by simp only [Kd.lessF,List.map_cons,Kd.lessF_map ks]
structure Lss (k:Kd):Prop where
 pos:∀ x,k.has x=true->0<=k.wt x
 dn:∀ x y,k.has x=true->y∈k.less x->k.has y=true/\k.wt y < k.wt x
 one:∀ x,k.has x=true->k.wt x ≠ 0->∃ y∈k.less x,k.wt y=k.wt x - 1
 uniq:∀ x y,k.has x=true->k.has y=true->k.wt x=0->k.wt y=0->x=y
theorem wS {lo hi:Int} (h:lo<=hi):lo<=jG lo hi/\jG lo hi<=hi:=by
 unfold jG; split <;> split at* <;> omega
theorem ZR {lo hi:Int} {x:T}:inR lo hi x=true↔∃ i,x= .int i/\lo<=i/\i<=hi:=by
 constructor
 ·intro h
  obtain ⟨i,rfl⟩:=WD h
  simp [inR] at h
  exact ⟨i,rfl,h⟩
 ·rintro ⟨i,rfl,h⟩
  simp [inR]; exact h
theorem Q5 {lo hi:Int} (h:lo<=hi):Lss (.whole lo hi):=by
 obtain ⟨n1,n2⟩:=wS h
 refine ⟨fun x hx=> ?_,fun x y hx hy=> ?_,fun x hx hw=> ?_,fun x y hx hy h1 h2=> ?_⟩
 ·simp only [Kd.has] at hx; obtain ⟨i,rfl,hi⟩:=ZR.mp hx
  simp only [Kd.wt,jH]; split <;> omega
 ·simp only [Kd.has] at hx; obtain ⟨i,rfl,hi'⟩:=ZR.mp hx
  simp only [Kd.less] at hy
  split at hy
  ·cases hy
  ·split at hy
   ·simp at hy; subst hy
    simp only [Kd.has,Kd.wt,jH]
    refine ⟨ZR.mpr ⟨_,rfl,by omega,by omega⟩, ?_⟩
    split <;> split <;> omega
   ·simp at hy; subst hy
    simp only [Kd.has,Kd.wt,jH]
    refine ⟨ZR.mpr ⟨_,rfl,by omega,by omega⟩, ?_⟩
    split <;> split <;> omega
 ·simp only [Kd.has] at hx; obtain ⟨i,rfl,hi'⟩:=ZR.mp hx
  simp only [Kd.wt,jH] at hw ⊢
  simp only [Kd.less]
  by_cases e:i=jG lo hi
  ·exfalso; apply hw; split <;> omega
  ·rw [if_neg e]
   by_cases g:i > jG lo hi
   ·rw [if_pos g]; refine ⟨_,List.mem_singleton.mpr rfl, ?_⟩
    simp only [Kd.wt,jH]; split <;> split <;> omega
   ·rw [if_neg g]; refine ⟨_,List.mem_singleton.mpr rfl, ?_⟩
    simp only [Kd.wt,jH]; split <;> split <;> omega
 ·simp only [Kd.has] at hx hy; obtain ⟨i,rfl,hi'⟩:=ZR.mp hx; obtain ⟨j,rfl,hj'⟩:=ZR.mp hy
  simp only [Kd.wt,jH] at h1 h2
  have:i=j:=by split at h1 <;> split at h2 <;> omega
  rw [this]
theorem ZA {cs:List (Str×Int)} {x:T}:(Kd.pick cs).has x=true↔∃ w,x= .str w/\w∈cs.map (·.1):=by
 have key:∀ w:Str,(cs.any fun c=>c.1 == w)=true↔w∈cs.map (·.1):=fun w=>by
  rw [List.any_eq_true,List.mem_map]
  exact ⟨fun ⟨c,a,b⟩=>⟨c,a,beq_iff_eq.mp b⟩,fun ⟨c,a,b⟩=>⟨c,a,beq_iff_eq.mpr b⟩⟩
 constructor
 ·intro h
  cases x with
  | str w=>exact ⟨w,rfl,(key w).mp h⟩
  | _=>cases h
 ·rintro ⟨w,rfl,h⟩
  exact (key w).mpr h
theorem Wi {ws:List Str} {w:Str} (h:w∈ws):ws.idxOf w < ws.length:=List.idxOf_lt_length_iff.mpr h
theorem yf {ws:List Str} {w:Str} (h:w∈ws):ws[ws.idxOf w]? =some w:=by
 rw [List.getElem?_eq_getElem (Wi h),List.getElem_idxOf (Wi h)]
theorem Q6 {ws:List Str} (h:Dst ws) {i j:Nat} {w:Str} (hi:ws[i]? =some w) (hj:ws[j]? =some w):i=j:=by
 have key:∀ {i j:Nat},ws[i]? =some w->ws[j]? =some w->¬ i < j:=fun {i j} hi hj hl=>by
  refine h j w hj (List.mem_of_getElem? (i:=i) ?_)
  rw [List.getElem?_take_of_lt hl]; exact hi
 have a:=key hi hj
 have b:=key hj hi
 omega
theorem yg {ws:List Str} (h:Dst ws) {i:Nat} {w:Str} (hi:ws[i]? =some w):ws.idxOf w=i:=Q6 h (yf (List.mem_of_getElem? hi)) hi
theorem vP {cs:List (Str×Int)} (h:Dst (cs.map (·.1))):Lss (.pick cs):=by
 refine ⟨fun x hx=> ?_,fun x y hx hy=> ?_,fun x hx hw=> ?_,fun x y hx hy h1 h2=> ?_⟩
 ·obtain ⟨w,rfl,hw⟩:=ZA.mp hx
  simp only [Kd.wt]; omega
 ·obtain ⟨w,rfl,hw⟩:=ZA.mp hx
  simp only [Kd.less] at hy
  split at hy
  ·cases hy
  ·rename_i j e
   split at hy
   ·rename_i c ec
    simp at hy; subst hy
    have hc:(cs.map (·.1))[j]? =some c.1:=by rw [List.getElem?_map,ec]; rfl
    refine ⟨ZA.mpr ⟨_,rfl,List.mem_of_getElem? hc⟩, ?_⟩
    simp only [Kd.wt]
    rw [yg h hc,e]; omega
   ·cases hy
 ·obtain ⟨w,rfl,hw'⟩:=ZA.mp hx
  simp only [Kd.wt] at hw ⊢
  simp only [Kd.less]
  have hl:=Wi hw'
  cases e:(cs.map (·.1)).idxOf w with
  | zero=>rw [e] at hw; exact absurd rfl hw
  | succ j=>
   rw [e] at hl
   have hj:j < cs.length:=Nat.lt_of_succ_lt (by simpa using hl)
   obtain ⟨c,hc⟩:=Jh hj
   dsimp only
   rw [hc]
   refine ⟨_,List.mem_singleton.mpr rfl, ?_⟩
   have hc' :(cs.map (·.1))[j]? =some c.1:=by rw [List.getElem?_map,hc]; rfl
   simp only [Kd.wt]
   rw [yg h hc']; omega
 ·obtain ⟨w,rfl,hw⟩:=ZA.mp hx
  obtain ⟨v,rfl,hv⟩:=ZA.mp hy
  simp only [Kd.wt] at h1 h2
  have a:=yf hw
  have b:=yf hv
  rw [show (cs.map (·.1)).idxOf w=0 by omega] at a
  rw [show (cs.map (·.1)).idxOf v=0 by omega,a] at b
  rw [Option.some.inj b]
def Hs (ks:List Kd) (xs:List T):Prop:=xs.length=ks.length/\∀ (i:Nat) (k:Kd) (x:T),ks[i]? =some k->xs[i]? =some x->k.has x=true
theorem Uy:∀ (fs:List (T->Int)) (xs:List T) (i:Nat) (f:T->Int) (x y:T),fs[i]? =some f->xs[i]? =some x->wtz fs (xs.set i y)=wtz fs xs - f x+f y
 | [],_,i,_,_,_,h,_=>by simp at h
 | _ :: _,[],i,_,_,_,_,h=>by simp at h
 | f :: fs,x :: xs,0,g,u,y,h,h' =>by
  simp at h h'; subst h h'
  simp only [List.set_cons_zero,wtz]; omega
 | f :: fs,x :: xs,i+1,g,u,y,h,h' =>by
  have ih:=Uy fs xs i g u y (by simpa using h) (by simpa using h')
  simp only [List.set_cons_succ,wtz,ih]; omega
theorem WS {k:Kd} {ks:List Kd} {x:T} {xs:List T}:Hs (k :: ks) (x :: xs)↔k.has x=true/\Hs ks xs:=by
 constructor
 ·rintro ⟨h1,h2⟩
  exact ⟨h2 0 k x rfl rfl,by simpa using h1,fun i k' x' a b=>h2 (i+1) k' x' (by simpa using a) (by simpa using b)⟩
 ·rintro ⟨h0,h1,h2⟩
  refine ⟨by simp [h1],fun i k' x' a b=> ?_⟩
  cases i with
  | zero=>simp at a b; subst a b; exact h0
  | succ i=>exact h2 i k' x' (by simpa using a) (by simpa using b)
theorem jV:∀ (ks:List Kd) (xs:List T),(∀ k∈ks,Lss k)->Hs ks xs->0<=wtz (ks.map Kd.wt) xs
 | [],[],_,_=>by simp [wtz]
 | [],_ :: _,_,h=>by simp [Hs] at h
 | _ :: _,[],_,h=>by simp [wtz]
 | k :: ks,x :: xs,hk,h=>by
  obtain ⟨h0,h1⟩:=WS.mp h
  have a:=(hk k List.mem_cons_self).pos x h0
  have b:=jV ks xs (fun q hq=>hk q (List.mem_cons_of_mem _ hq)) h1
  simp only [List.map_cons,wtz]; omega
theorem WT:∀ (ks:List Kd) (xs ys:List T),(∀ k∈ks,Lss k)->Hs ks xs->Hs ks ys->wtz (ks.map Kd.wt) xs=0->wtz (ks.map Kd.wt) ys=0->xs=ys
 | [],xs,ys,_,h,h',_,_=>by
  have a:=List.eq_nil_of_length_eq_zero h.1
  have b:=List.eq_nil_of_length_eq_zero h'.1
  rw [a,b]
 | k :: ks,[],_,_,h,_,_,_=>by simp [Hs] at h
 | k :: ks,_ :: _,[],_,_,h,_,_=>by simp [Hs] at h
 | k :: ks,x :: xs,y :: ys,hk,h,h',e,e' =>by
  obtain ⟨h0,h1⟩:=WS.mp h
  obtain ⟨g0,g1⟩:=WS.mp h'
  have hk' :∀ q∈ks,Lss q:=fun q hq=>hk q (List.mem_cons_of_mem _ hq)
  have L:=hk k List.mem_cons_self
  have a:=L.pos x h0
  have a' :=L.pos y g0
  have b:=jV ks xs hk' h1
  have b' :=jV ks ys hk' g1
  simp only [List.map_cons,wtz] at e e'
  rw [L.uniq x y h0 g0 (by omega) (by omega),WT ks xs ys hk' h1 g1 (by omega) (by omega)]
theorem Q7:∀ (ks:List Kd) (xs:List T),(∀ k∈ks,Lss k)->Hs ks xs->wtz (ks.map Kd.wt) xs ≠ 0->∃ (i:Nat) (k:Kd) (x:T),ks[i]? =some k/\xs[i]? =some x/\k.wt x ≠ 0
 | [],xs,_,_,h=>absurd (by simp [wtz]) h
 | k :: ks,[],_,_,h=>absurd (by simp [wtz]) h
 | k :: ks,x :: xs,hk,h,hw=>by
  obtain ⟨h0,h1⟩:=WS.mp h
  by_cases e:k.wt x=0
  ·simp only [List.map_cons,wtz,e,Int.zero_add] at hw
   obtain ⟨i,k',x',a,b,c⟩:=Q7 ks xs (fun q hq=>hk q (List.mem_cons_of_mem _ hq)) h1 hw
   exact ⟨i+1,k',x',by simpa using a,by simpa using b,c⟩
  ·exact ⟨0,k,x,rfl,rfl,e⟩
theorem Q8 {ks:List Kd} {xs ys:List T}:ys∈plz (ks.map Kd.less) xs↔∃ (i:Nat) (k:Kd) (x y:T),ks[i]? =some k/\xs[i]? =some x/\y∈k.less x/\ys=xs.set i y:=by
 unfold plz
 rw [List.mem_flatMap]
 constructor
 ·rintro ⟨i,hi,h⟩
  rw [List.getElem?_map] at h
  cases e:ks[i]? with
  | none=>rw [e] at h; simp at h
  | some k=>
   rw [e] at h
   cases e' :xs[i]? with
   | none=>rw [e'] at h; simp at h
   | some x=>
    rw [e'] at h
    obtain ⟨y,hy,rfl⟩:=List.mem_map.mp h
    exact ⟨i,k,x,y,e,e',hy,rfl⟩
 ·rintro ⟨i,k,x,y,e,e',hy,rfl⟩
  have hi:=(List.getElem?_eq_some_iff.mp e').1
  refine ⟨i,List.mem_range.mpr hi, ?_⟩
  rw [List.getElem?_map,e,e']
  exact List.mem_map.mpr ⟨y,hy,rfl⟩
theorem Ki {ks:List Kd} {xs:List T} {i:Nat} {k:Kd} {y:T} (h:Hs ks xs) (hk:ks[i]? =some k) (hy:k.has y=true):Hs ks (xs.set i y):=by
 refine ⟨by rw [List.length_set]; exact h.1,fun j k' x' a b=> ?_⟩
 by_cases e:i=j
 ·subst e
  have hi:i < xs.length:=by have:=(List.getElem?_eq_some_iff.mp b).1; simpa using this
  rw [List.getElem?_set_self hi] at b
  rw [hk] at a; cases a; cases b; exact hy
 ·rw [List.getElem?_set_ne e] at b
  exact h.2 j k' x' a b
theorem Zh {α:Type} {l:List α} {i:Nat} {a:α} (h:l[i]? =some a):a∈l:=List.mem_of_getElem? h
theorem Q9 {ks:List Kd} {xs ys:List T} (hk:∀ k∈ks,Lss k) (h:Hs ks xs) (hy:ys∈plz (ks.map Kd.less) xs):Hs ks ys/\wtz (ks.map Kd.wt) ys < wtz (ks.map Kd.wt) xs:=by
 obtain ⟨i,k,x,y,a,b,c,rfl⟩:=Q8.mp hy
 obtain ⟨d1,d2⟩:=(hk k (Zh a)).dn x y (h.2 i k x a b) c
 refine ⟨Ki h a d1, ?_⟩
 rw [Uy (ks.map Kd.wt) xs i k.wt x y (by rw [List.getElem?_map,a]; rfl) b]; omega
theorem Qa {ks:List Kd} {xs:List T} (hk:∀ k∈ks,Lss k) (h:Hs ks xs) (hw:wtz (ks.map Kd.wt) xs ≠ 0):∃ ys∈plz (ks.map Kd.less) xs,wtz (ks.map Kd.wt) ys=wtz (ks.map Kd.wt) xs - 1:=by
 obtain ⟨i,k,x,a,b,c⟩:=Q7 ks xs hk h hw
 obtain ⟨y,hy,e⟩:=(hk k (Zh a)).one x (h.2 i k x a b) c
 refine ⟨xs.set i y,Q8.mpr ⟨i,k,x,y,a,b,hy,rfl⟩, ?_⟩
 rw [Uy (ks.map Kd.wt) xs i k.wt x y (by rw [List.getElem?_map,a]; rfl) b]; omega
theorem Vv {ks:List Kd} {xs:List T}:(xs.length == ks.length && Kd.hass ks xs)=true↔Hs ks xs:=by
 rw [Bool.and_eq_true,beq_iff_eq,WO,List.all_eq_true]
 constructor
 ·rintro ⟨h1,h2⟩
  refine ⟨h1,fun i k x a b=>h2 (k,x) (List.mem_of_getElem? (i:=i) ?_)⟩
  rw [List.getElem?_zip_eq_some]; exact ⟨a,b⟩
 ·rintro ⟨h1,h2⟩
  refine ⟨h1,fun q hq=> ?_⟩
  obtain ⟨i,hi⟩:=List.mem_iff_getElem?.mp hq
  obtain ⟨a,b⟩:=List.getElem?_zip_eq_some.mp hi
  exact h2 i q.1 q.2 a b
theorem Wj {k:Kd} {xs:List T}:xs.all k.has=true↔Hs (List.replicate xs.length k) xs:=by
 rw [List.all_eq_true]
 constructor
 ·intro h
  refine ⟨by simp,fun i k' x a b=> ?_⟩
  obtain rfl:k=k' :=(List.mem_replicate.mp (Zh a)).2.symm
  exact h x (Zh b)
 ·rintro ⟨_,h⟩ x hx
  obtain ⟨i,hi⟩:=List.mem_iff_getElem?.mp hx
  have hl:=(List.getElem?_eq_some_iff.mp hi).1
  exact h i k x (by rw [List.getElem?_replicate,if_pos hl]) hi
theorem jj {ks:List Kd} {t:T} (h:(Kd.row ks).has t=true):∃ xs,t= .tup xs/\Hs ks xs:=by
 simp only [Kd.has] at h
 split at h
 ·exact ⟨_,rfl,Vv.mp h⟩
 ·cases h
theorem ZS {k:Kd} {lo hi:Nat} {t:T} (h:(Kd.many k lo hi).has t=true):∃ xs,t= .tup xs/\lo<=xs.length/\xs.length<=hi/\Hs (List.replicate xs.length k) xs:=by
 simp only [Kd.has] at h
 split at h
 ·rw [Bool.and_eq_true,Bool.and_eq_true,decide_eq_true_eq,decide_eq_true_eq] at h
  exact ⟨_,rfl,h.1.1,h.1.2,Wj.mp h.2⟩
 ·cases h
theorem Xg {ks:List Kd} {xs:List T} (h:Hs ks xs):(Kd.row ks).has (.tup xs)=true:=by simp only [Kd.has]; exact Vv.mpr h
theorem yh {k:Kd} {lo hi:Nat} {xs:List T} (h1:lo<=xs.length) (h2:xs.length<=hi) (h:Hs (List.replicate xs.length k) xs):(Kd.many k lo hi).has (.tup xs)=true:=by
 simp only [Kd.has]; rw [Bool.and_eq_true,Bool.and_eq_true,decide_eq_true_eq,decide_eq_true_eq]; exact ⟨⟨h1,h2⟩,Wj.mpr h⟩
theorem Xh {ks:List Kd} (hk:∀ k∈ks,Lss k):Lss (.row ks):=by
 refine ⟨fun x hx=> ?_,fun x y hx hy=> ?_,fun x hx hw=> ?_,fun x y hx hy h1 h2=> ?_⟩
 ·obtain ⟨xs,rfl,h⟩:=jj hx
  simp only [Kd.wt,Kd.wtF_map]; exact jV ks xs hk h
 ·obtain ⟨xs,rfl,h⟩:=jj hx
  simp only [Kd.less,Kd.lessF_map] at hy
  obtain ⟨ys,hys,rfl⟩:=List.mem_map.mp hy
  obtain ⟨a,b⟩:=Q9 hk h hys
  simp only [Kd.wt,Kd.wtF_map]
  exact ⟨Xg a,b⟩
 ·obtain ⟨xs,rfl,h⟩:=jj hx
  simp only [Kd.wt,Kd.wtF_map] at hw ⊢
  obtain ⟨ys,h1,h2⟩:=Qa hk h hw
  refine ⟨.tup ys,by simp only [Kd.less,Kd.lessF_map]; exact List.mem_map.mpr ⟨ys,h1,rfl⟩, ?_⟩
  simp only [Kd.wtF_map]; exact h2
 ·obtain ⟨xs,rfl,h⟩:=jj hx
  obtain ⟨ys,rfl,h'⟩:=jj hy
  simp only [Kd.wt,Kd.wtF_map] at h1 h2
  rw [WT ks xs ys hk h h' h1 h2]
theorem WU {k:Kd}:∀ (xs:List T) (i:Nat) (x:T),xs[i]? =some x->wtz (List.replicate (xs.take i++xs.drop (i+1)).length k.wt) (xs.take i++xs.drop (i+1))=wtz (List.replicate xs.length k.wt) xs - k.wt x
 | [],i,x,h=>by simp at h
 | y :: ys,0,x,h=>by
  simp at h; subst h
  simp only [List.take_zero,List.nil_append,Nat.zero_add,List.drop_succ_cons,List.drop_zero,List.length_cons,List.replicate_succ,wtz]; omega
 | y :: ys,i+1,x,h=>by
  have ih:=WU (k:=k) ys i x (by simpa using h)
  simp only [List.take_succ_cons,List.drop_succ_cons,List.cons_append,List.length_cons,List.replicate_succ,wtz,ih]; omega
theorem Qb {xs:List T} {i:Nat} (h:i < xs.length):(xs.take i++xs.drop (i+1)).length=xs.length - 1:=by
 rw [List.length_append,List.length_take,List.length_drop]; omega
theorem Vw {k:Kd} {xs:List T} {i:Nat} (h:Hs (List.replicate xs.length k) xs):Hs (List.replicate (xs.take i++xs.drop (i+1)).length k) (xs.take i++xs.drop (i+1)):=by
 rw [← Wj] at h ⊢
 rw [List.all_eq_true] at h ⊢
 intro x hx
 rcases List.mem_append.mp hx with hx | hx
 ·exact h x (List.mem_of_mem_take hx)
 ·exact h x (List.mem_of_mem_drop hx)
theorem Zy {α β:Type} (f:α->β) (n:Nat) (a:α):List.replicate n (f a)=(List.replicate n a).map f:=by rw [List.map_replicate]
theorem vQ {k:Kd} {lo hi:Nat} (hk:Lss k):Lss (.many k lo hi):=by
 have hr:∀ n,∀ q∈List.replicate n k,Lss q:=fun n q hq=>by obtain rfl:=(List.mem_replicate.mp hq).2; exact hk
 refine ⟨fun x hx=> ?_,fun x y hx hy=> ?_,fun x hx hw=> ?_,fun x y hx hy h1 h2=> ?_⟩
 ·obtain ⟨xs,rfl,h1,h2,h⟩:=ZS hx
  simp only [Kd.wt,Zy]
  have:=jV _ xs (hr _) h; omega
 ·obtain ⟨xs,rfl,h1,h2,h⟩:=ZS hx
  simp only [Kd.less] at hy
  rcases List.mem_append.mp hy with hy | hy
  ·split at hy
   ·cases hy
   ·rename_i hne
    obtain ⟨ys,hys,rfl⟩:=List.mem_map.mp hy
    obtain ⟨i,hi',rfl⟩:=List.mem_map.mp hys
    have hi'' :=List.mem_range.mp hi'
    obtain ⟨x,hx'⟩:=Jh hi''
    have hl:=Qb hi''
    refine ⟨yh (by omega) (by omega) (Vw h), ?_⟩
    simp only [Kd.wt]
    rw [WU xs i x hx',hl]
    have:=hk.pos x (List.all_eq_true.mp (Wj.mpr h) x (Zh hx'))
    omega
  ·rw [Zy] at hy
   obtain ⟨ys,hys,rfl⟩:=List.mem_map.mp hy
   obtain ⟨a,b⟩:=Q9 (hr _) h hys
   have hl:ys.length=xs.length:=by have:=a.1; simpa using this
   refine ⟨yh (by omega) (by omega) (by rw [hl]; exact a), ?_⟩
   simp only [Kd.wt,Zy]
   rw [hl]; omega
 ·obtain ⟨xs,rfl,h1,h2,h⟩:=ZS hx
  simp only [Kd.wt,Zy] at hw ⊢
  by_cases e:wtz ((List.replicate xs.length k).map Kd.wt) xs=0
  ·have hne:xs.length ≠ lo:=by omega
   have h0:0 < xs.length:=by omega
   obtain ⟨x,hx'⟩:=Jh h0
   refine ⟨.tup (xs.take 0++xs.drop (0+1)), ?_, ?_⟩
   ·simp only [Kd.less,if_neg hne]
    exact List.mem_append.mpr (.inl (List.mem_map.mpr ⟨_,List.mem_map.mpr ⟨0,List.mem_range.mpr h0,rfl⟩,rfl⟩))
   ·dsimp only
    rw [← Zy,WU xs 0 x hx',Qb h0,Zy,e]
    have z:k.wt x=0:=by
     have:=WU (k:=k) xs 0 x hx'
     have p:=jV _ _ (hr _) (Vw (i:=0) h)
     have p' :=hk.pos x (List.all_eq_true.mp (Wj.mpr h) x (Zh hx'))
     rw [Zy,Zy,e] at this
     omega
    rw [z]; omega
  ·obtain ⟨ys,a,b⟩:=Qa (hr _) h e
   have hl:ys.length=xs.length:=by have:=(Q9 (hr _) h a).1.1; simpa using this
   refine ⟨.tup ys, ?_, ?_⟩
   ·simp only [Kd.less,Zy]
    exact List.mem_append.mpr (.inr (List.mem_map.mpr ⟨ys,a,rfl⟩))
   ·simp only [Zy]; rw [hl,b]; omega
 ·obtain ⟨xs,rfl,a1,a2,h⟩:=ZS hx
  obtain ⟨ys,rfl,b1,b2,h'⟩:=ZS hy
  simp only [Kd.wt,Zy] at h1 h2
  have p:=jV _ xs (hr _) h
  have p' :=jV _ ys (hr _) h'
  have e1:xs.length=lo:=by omega
  have e2:ys.length=lo:=by omega
  rw [e1] at h h1
  rw [e2] at h' h2
  rw [WT _ xs ys (hr _) h h' (by omega) (by omega)]
theorem lss:∀ (d:Nat) (k:Kd),k.Ok d->Lss k
 | 0,_,h=>h.elim
 | d+1, .whole lo hi,h=>Q5 h.2.1
 | d+1, .pick cs,h=>vP h.2.2.2
 | d+1, .row ks,h=>Xh fun k hk=>lss d k (h.2.2 k hk)
 | d+1, .many k lo hi,h=>vQ (lss d k h.2.2)
theorem Uz {cs:List (Str×Int)} (hd:Dst (cs.map (·.1))) {w:Str} (h:w∈cs.map (·.1)):QA (.str w) (cs.map fun c=>T.str c.1)= .ok (.int (((cs.map (·.1)).idxOf w:Nat):Int)):=by
 obtain ⟨c,hc,rfl⟩:=List.mem_map.mp h
 obtain ⟨i,hi⟩:=List.mem_iff_getElem?.mp hc
 rw [vO hd hi,yg hd (i:=i) (by rw [List.getElem?_map,hi]; rfl)]
theorem Qc (lo hi:Int):f_q [(Kd.whole lo hi).t]= .ok (.int (jG lo hi)):=by
 have e:f_q [(Kd.whole lo hi).t]=zo (b_q [.vl (.tup [.str "whole", .int lo, .int hi])]):=by rw [Kd.t]; rfl
 rw [e,b_q,zR (t:= .int (jG lo hi))]
 ·rfl
 ·show ze _ _ _ [.vl (.tup [.str "whole", .int lo, .int hi])]=_
  rw [zl,zl,Zg,bOk,wO,bOk]
  show ((R.ok _).bind _)=_
  rw [bOk,y6,bOk]; rfl
theorem UA:∀ (ks:List Kd) (xs:List T),wtz (ks.map Kd.wt) xs=((ks.zip xs).map fun q=>q.1.wt q.2).sum
 | [],xs=>by simp [wtz]
 | _ :: _,[]=>by simp [wtz]
 | k :: ks,x :: xs=>by simp only [List.map_cons,wtz,List.zip_cons_cons,List.sum_cons,UA ks xs]
theorem wq {α:Type} (g:α->Int):∀ l:List α,j0 (l.map fun a=>T.int (g a))=some (l.map g)
 | []=>rfl
 | a :: l=>by
  show (match j0 (l.map fun a=>T.int (g a)) with | some l' =>some (g a :: l') | none=>none)=_
  rw [wq g l]; rfl
theorem Xi {α:Type} (g:α->Int) (l:List α):gZ (.lst (l.map fun a=>T.int (g a)))= .ok (.int (l.map g).sum):=by
 show (match j0 (l.map fun a=>T.int (g a)) with | some l=>_ | none=>_)=_
 rw [wq]
theorem wU {c:List T->R T}:∀ (qs:List (Kd×T)) (x y:Sl),(∀ q∈qs,c [q.1.t,q.2]= .ok (.int (q.1.wt q.2)))->zZ (Zt 0 1) Zc (zc 2 c (z9 (vE 0) (z9 (vE 1) (zg)))) (qs.map fun q=>T.tup [q.1.t,q.2]) [x,y]= .ok (qs.map fun q=>T.int (q.1.wt q.2))
 | [],_,_,_=>rfl
 | q :: qs,x,y,h=>by
  have e:zc 2 c (z9 (vE 0) (z9 (vE 1) (zg))) [.vl q.1.t, .vl q.2]= .ok (.int (q.1.wt q.2)):=by
   rw [Z3,v0,bOk,v1,bOk,h q List.mem_cons_self]
  have ih:=wU qs (.vl q.1.t) (.vl q.2) fun r hr=>h r (List.mem_cons_of_mem _ hr)
  have e0:zZ (Zt 0 1) Zc (zc 2 c (z9 (vE 0) (z9 (vE 1) (zg)))) ((q :: qs).map fun q=>T.tup [q.1.t,q.2]) [x,y]=
   (zc 2 c (z9 (vE 0) (z9 (vE 1) (zg))) [.vl q.1.t, .vl q.2]).bind fun v=>(zZ (Zt 0 1) Zc (zc 2 c (z9 (vE 0) (z9 (vE 1) (zg)))) (qs.map fun q=>T.tup [q.1.t,q.2]) [.vl q.1.t, .vl q.2]).bind fun vs=> .ok (v :: vs):=rfl
  rw [e0,e,bOk,ih,bOk,List.map_cons]
theorem uQ {c:List T->R T} {s:T} (ks:List Kd) (xs:List T) (hs:wc s= .ok (ks.map Kd.t)) (hl:ks.length<=3) (H:∀ q∈ks.zip xs,c [q.1.t,q.2]= .ok (.int (q.1.wt q.2))):
  zo (kU c (en0 2 [s, .tup xs]))= .ok (.int (wtz (ks.map Kd.wt) xs)):=by
 have e:en0 2 [s, .tup xs]=[.vl s, .vl (.tup xs)]:=rfl
 have ez:ve (vE 0) (vE 1) [.vl s, .vl (.tup xs)]= .ok ((ks.zip xs).map fun q=>T.tup [q.1.t,q.2]):=by
  show (wc s).bind _=_
  rw [hs,bOk,← Xe]
  rfl
 have hb:((ks.zip xs).map fun q=>T.tup [q.1.t,q.2]).length<=bnd:=by
  rw [List.length_map,List.length_zip]
  exact Nat.le_trans (Nat.min_le_left _ _) (Nat.le_trans hl (by decide))
 have ec:zG (Zt 0 1) Zc (zc 2 c (z9 (vE 0) (z9 (vE 1) (zg)))) 2 [] [.vl s, .vl (.tup xs)] ((ks.zip xs).map fun q=>T.tup [q.1.t,q.2])= .ok ((ks.zip xs).map fun q=>T.int (q.1.wt q.2)):=by
  unfold zG
  rw [if_pos hb]
  show quiet (zZ _ _ _ _ [.un, .un])=_
  rw [wU _ _ _ H]
  rfl
 rw [e,kU,zR (t:= .int (wtz (ks.map Kd.wt) xs))]
 ·rfl
 ·show ap1 _ _ [.vl s, .vl (.tup xs)]=_
  rw [Zn,zI,ez,bOk,ec,bOk,bOk,Xi,UA]
theorem WV {ks:List Kd} {xs:List T} (h:Hs ks xs):∀ q∈ks.zip xs,q.1.has q.2=true:=fun q hq=>by
 obtain ⟨i,hi⟩:=List.mem_iff_getElem?.mp hq
 obtain ⟨a,b⟩:=List.getElem?_zip_eq_some.mp hi
 exact h.2 i q.1 q.2 a b
theorem Vx {i:Int}:vj (.int i)= .ok (.int (jH i)):=rfl
theorem Kj:∀ (d n:Nat),2*d<=n->∀ (k:Kd) (x:T),k.Ok d->k.has x=true->S_j n 0 [k.t,x]= .ok (.int (k.wt x))
 | 0,_,_,_,_,h,_=>h.elim
 | d+1,n+2,hn,k,x,h,hx=>by
  have ih:=Kj d n (by omega)
  have e:S_j (n+2) 0 [k.t,x]=zo (b_j f_k f_q (S_j (n+1) 1) (en0 2 [k.t,x])):=by rw [S_j]
  have e1:∀ s y,S_j (n+1) 1 [s,y]=zo (kU (S_j n 0) (en0 2 [s,y])):=fun s y=>by rw [S_j]; intro h; cases h
  rw [e]
  cases k with
  | whole lo hi=>
   simp only [Kd.has] at hx
   obtain ⟨i,rfl,hi'⟩:=ZR.mp hx
   have e:en0 2 [(Kd.whole lo hi).t, .int i]=en2 (.tup [.str "whole", .int lo, .int hi]) (.int i):=by rw [Kd.t]; rfl
   have hn:=Qc lo hi
   rw [Kd.t] at hn
   rw [e,b_j,ZQ (t:= .int (jH (i - jG lo hi)))]
   ·simp only [Kd.wt]; rfl
   ·rw [vL,zR]
    show ap1 _ _ (en2 _ _)=_
    rw [Zn,zl,v1,bOk,j1,v0,bOk,hn,bOk,jn,bOk,Vx]
  | pick cs=>
   obtain ⟨w,rfl,hw⟩:=ZA.mp hx
   have e:en0 2 [(Kd.pick cs).t, .str w]=en2 (.tup [.str "pick", .tup (cs.map J8)]) (.str w):=by rw [Kd.t]; rfl
   have hw' :=WP cs h.2.1
   rw [Kd.t] at hw'
   rw [e,b_j,zk (u4 (by decide)),ZQ (t:= .int (((cs.map (·.1)).idxOf w:Nat):Int))]
   ·simp only [Kd.wt]; rfl
   ·rw [vL,zR]
    show Y9 _ _ _ (en2 _ _)=_
    unfold Y9
    rw [j1,v0,bOk,hw',bOk]
    dsimp only
    rw [w1,bOk,Uz h.2.2.2 hw]
  | row ks=>
   obtain ⟨xs,rfl,hs⟩:=jj hx
   have e:en0 2 [(Kd.row ks).t, .tup xs]=en2 (.tup [.str "row", .tup (ks.map Kd.t)]) (.tup xs):=by rw [Kd.t,Kd.ts_map]; rfl
   rw [e,b_j,zk (u4 (by decide)),zk (u4 (by decide)),ZQ (t:= .int (wtz (ks.map Kd.wt) xs))]
   ·simp only [Kd.wt,Kd.wtF_map]; rfl
   ·rw [vL,zR]
    show zc _ _ _ (en2 _ _)=_
    rw [Z3,wO,bOk,v1,bOk,e1,uQ ks xs rfl h.2.1 fun q hq=>ih q.1 q.2 (h.2.2 q.1 (List.of_mem_zip hq).1) (WV hs q hq)]
  | many k lo hi=>
   obtain ⟨xs,rfl,h1,h2,hs⟩:=ZS hx
   have h3:xs.length<=3:=Nat.le_trans h2 h.2.1
   have e:en0 2 [(Kd.many k lo hi).t, .tup xs]=en2 (.tup [.str "many",k.t, .int (lo:Int), .int (hi:Int)]) (.tup xs):=by rw [Kd.t]; rfl
   have em:ze Zi (ZD (z9 (ze ixT (vE 0) (cE (.int 1))) (zg))) (ap1 Z0 (vB 1)) (en2 (.tup [.str "many",k.t, .int (lo:Int), .int (hi:Int)]) (.tup xs))= .ok (.lst ((List.replicate xs.length k).map Kd.t)):=by
    rw [zl,X9 wO,bOk,Zn,w1,bOk,ZU,bOk,uJ h3,J9,List.map_replicate]
   rw [e,b_j,zk (u4 (by decide)),zk (u4 (by decide)),zk (u4 (by decide)),zR (t:= .int (wtz ((List.replicate xs.length k).map Kd.wt) xs+(xs.length:Int) - (lo:Int)))]
   ·simp only [Kd.wt,Zy]; rfl
   ·show ze _ _ _ (en2 _ _)=_
    have ec:=uQ (c:=S_j n 0) (s:= .lst ((List.replicate xs.length k).map Kd.t)) (List.replicate xs.length k) xs rfl (by rw [List.length_replicate]; exact h3) fun q hq=>ih q.1 q.2 (by
     rw [List.eq_of_mem_replicate (List.of_mem_zip hq).1]; exact h.2.2) (WV hs q hq)
    rw [zl,zl,Z3,em,bOk,v1,bOk,e1,ec,bOk,Zn,w1,bOk,ZU,bOk,Zl,bOk,y6,bOk,jn]
theorem yi {fx fi fy:En->R T} {ρ:En} {xs:List T} {i:Nat} {y:T} (hx:fx ρ= .ok (.tup xs)) (hi:fi ρ= .ok (.int (i:Int))) (hy:fy ρ= .ok y) (h:i < xs.length) (hl:xs.length<=1000):
  ze zt (ze zt (slE fx noO (zU fi)) (ZC (z9 fy zg))) (slE fx (zU (ze zt fi (cE (.int 1)))) noO) ρ= .ok (.tup (xs.set i y)):=by
 have hb1:bnd=16777216:=rfl
 have e2:ze zt fi (cE (.int 1)) ρ= .ok (.int ((i+1:Nat):Int)):=by rw [Ut hi]; rfl
 rw [zl,zl,JR,hx,bOk,Ya,bOk,jF hi,bOk,uB h,bOk,KQ hy,bOk,JB (by simp; omega),bOk,JR,hx,bOk,jF e2,bOk,Ya,bOk,uC (by omega),bOk,JB (by simp; omega)]
 rw [List.set_eq_take_append_cons_drop,if_pos h,List.append_assoc]; rfl
theorem yj {fx fi:En->R T} {ρ:En} {xs:List T} {i:Nat} (hx:fx ρ= .ok (.tup xs)) (hi:fi ρ= .ok (.int (i:Int))) (h:i < xs.length) (hl:xs.length<=1000):
  ze zt (slE fx noO (zU fi)) (slE fx (zU (ze zt fi (cE (.int 1)))) noO) ρ= .ok (.tup (xs.take i++xs.drop (i+1))):=by
 have hb1:bnd=16777216:=rfl
 have e2:ze zt fi (cE (.int 1)) ρ= .ok (.int ((i+1:Nat):Int)):=by rw [Ut hi]; rfl
 rw [zl,JR,hx,bOk,Ya,bOk,jF hi,bOk,uB h,bOk,JR,hx,bOk,jF e2,bOk,Ya,bOk,uC (by omega),bOk,JB (by simp; omega)]
theorem Qd {fs:List (T->List T)} {xs:List T} {m:Nat} (h:∀ (i:Nat) (f:T->List T) (x:T),fs[i]? =some f->xs[i]? =some x->(f x).length<=m):(plz fs xs).length<=xs.length*m:=by
 unfold plz
 have key:∀ (g:Nat->List (List T)) (js:List Nat),(∀ j∈js,(g j).length<=m)->(js.flatMap g).length<=js.length*m:=fun g js=>by
  induction js with
  | nil=>intro _; simp
  | cons j js ih=>
   intro hj
   rw [List.flatMap_cons,List.length_append,List.length_cons,Nat.succ_mul]
   have a:=hj j List.mem_cons_self
   have b:=ih fun i hi=>hj i (List.mem_cons_of_mem _ hi)
   omega
 have:=key (fun i=>match fs[i]?,xs[i]? with | some f,some x=>(f x).map fun y=>xs.set i y | _,_=>[]) (List.range xs.length) fun i _=>by
  split
  ·rename_i f x e1 e2
   rw [List.length_map]; exact h i f x e1 e2
  ·exact Nat.zero_le _
 rw [List.length_range] at this
 exact this
theorem WW:∀ (d:Nat) (k:Kd) (x:T),k.Ok d->k.has x=true->(k.less x).length<=4 ^ d
 | 0,_,_,h,_=>h.elim
 | d+1, .whole lo hi,x,h,hx=>by
  have:1<=4 ^ (d+1):=Nat.pos_of_ne_zero (by simp)
  simp only [Kd.has] at hx
  obtain ⟨i,rfl,_⟩:=ZR.mp hx
  simp only [Kd.less]
  split
  ·simp
  ·split <;> simp <;> omega
 | d+1, .pick cs,x,h,hx=>by
  have:1<=4 ^ (d+1):=Nat.pos_of_ne_zero (by simp)
  obtain ⟨w,rfl,_⟩:=ZA.mp hx
  simp only [Kd.less]
  split
  ·simp
  ·split <;> simp <;> omega
 | d+1, .row ks,x,h,hx=>by
  obtain ⟨xs,rfl,hs⟩:=jj hx
  simp only [Kd.less,Kd.lessF_map,List.length_map]
  have:=Qd (fs:=ks.map Kd.less) (xs:=xs) (m:=4 ^ d) fun i f x a b=>by
   rw [List.getElem?_map] at a
   cases e:ks[i]? with
   | none=>rw [e] at a; cases a
   | some k=>rw [e] at a; cases a; exact WW d k x (h.2.2 k (Zh e)) (hs.2 i k x e b)
  have hl:xs.length<=3:=by rw [hs.1]; exact h.2.1
  have h3:xs.length*4 ^ d<=3*4 ^ d:=Nat.mul_le_mul_right _ hl
  rw [Nat.pow_succ]; omega
 | 0+1, .many k lo hi,x,h,hx=>h.2.2.elim
 | d+1+1, .many k lo hi,x,h,hx=>by
  obtain ⟨xs,rfl,h1,h2,hs⟩:=ZS hx
  have hl:xs.length<=3:=Nat.le_trans h2 h.2.1
  simp only [Kd.less,List.length_append,List.length_map]
  have:=Qd (fs:=List.replicate xs.length k.less) (xs:=xs) (m:=4 ^ (d+1)) fun i f x a b=>by
   obtain rfl:=(List.mem_replicate.mp (Zh a)).2
   exact WW (d+1) k x h.2.2 (List.all_eq_true.mp (Wj.mpr hs) x (Zh b))
  have h3:xs.length*4 ^ (d+1)<=3*4 ^ (d+1):=Nat.mul_le_mul_right _ hl
  have h4:(if xs.length=lo then ([]:List T) else (shl xs).map T.tup).length<=3:=by
   split
   ·simp
   ·unfold shl; simp; omega
  have h6:1<=4 ^ d:=Nat.pos_of_ne_zero (by simp)
  have h5:4<=4 ^ (d+1):=by rw [Nat.pow_succ]; omega
  rw [Nat.pow_succ 4 (d+1)]; omega
theorem Wk (lo:Int) (n:Nat):(rng lo n).length=n:=by unfold rng; simp
theorem WX {n:Nat} {t:T} (h:t∈rng 0 n):∃ i:Nat,i < n/\t= .int (i:Int):=by
 unfold rng at h
 obtain ⟨i,hi,rfl⟩:=List.mem_map.mp h
 exact ⟨i,List.mem_range.mp hi,by rw [Int.zero_add]⟩
theorem Qe (n:Nat):rng 0 n=(List.range n).map fun (i:Nat)=>T.int (i:Int):=by
 unfold rng
 refine List.map_congr_left fun i _=> ?_
 rw [Int.zero_add]
theorem Gj {f:En->R T} {ρ:En} {xs:List T} (h:f ρ= .ok (.tup xs)):ap1 Z0 f ρ= .ok (.int (xs.length:Int)):=by rw [Zn,h,bOk,ZU]
theorem vR {f:En->R T} {ρ:En} {xs:List T} (h:f ρ= .ok (.tup xs)) (hl:xs.length<=1000):Zd (ap1 Z0 f) ρ= .ok (rng 0 xs.length):=by
 rw [Ux (Gj h) (by omega),Int.toNat_natCast]
theorem uR {g:En->R Bool} {f f' :En->R T} {ρ:En} (h:g ρ= .ok true):ifE g f f' ρ=f ρ:=by unfold ifE; rw [h]; rfl
theorem yk {g:En->R Bool} {f f' :En->R T} {ρ:En} (h:g ρ= .ok false):ifE g f f' ρ=f' ρ:=by unfold ifE; rw [h]; rfl
theorem Qf (lo hi i:Int):kW [(Kd.whole lo hi).t, .int i]= .ok (.lst ((Kd.whole lo hi).less (.int i))):=by
 have e:kW [(Kd.whole lo hi).t, .int i]=zo (KK f_q [.vl (Kd.whole lo hi).t, .vl (.int i), .un]):=rfl
 have e1:zJ 2 (zc 1 f_q (z9 (vE 0) (zg))) [.vl (Kd.whole lo hi).t, .vl (.int i), .un]= .nx [.vl (Kd.whole lo hi).t, .vl (.int i), .vl (.int (jG lo hi))]:=by
  rw [zV (t:= .int (jG lo hi))]; · rfl
  rw [j1,v0,bOk,Qc]
 have ec:zx eqC (vB 1) (vB 2) [.vl (Kd.whole lo hi).t, .vl (.int i), .vl (.int (jG lo hi))]= .ok (i == jG lo hi):=rfl
 have eg:zx gtC (vB 1) (vB 2) [.vl (Kd.whole lo hi).t, .vl (.int i), .vl (.int (jG lo hi))]= .ok (decide (i > jG lo hi)):=rfl
 rw [e,KK,zk e1]
 simp only [Kd.less]
 by_cases h:i=jG lo hi
 ·rw [if_pos h,ZQ (t:= .lst [])]
  ·rfl
  ·rw [Y3 (by rw [ec,beq_iff_eq.mpr h])]; rfl
 ·rw [if_neg h,zk (jh (by rw [ec,beq_eq_false_iff_ne.mpr h]))]
  by_cases g:i > jG lo hi
  ·rw [if_pos g,zR (t:= .lst [.int (i - 1)])]
   ·rfl
   ·show ifE _ _ _ [.vl (Kd.whole lo hi).t, .vl (.int i), .vl (.int (jG lo hi))]=_
    rw [uR (by rw [eg,decide_eq_true g])]; rfl
  ·rw [if_neg g,zR (t:= .lst [.int (i+1)])]
   ·rfl
   ·show ifE _ _ _ [.vl (Kd.whole lo hi).t, .vl (.int i), .vl (.int (jG lo hi))]=_
    rw [yk (by rw [eg,decide_eq_false g])]; rfl
theorem uS {cs:List (Str×Int)} (h4:cs.length<=4) (hd:Dst (cs.map (·.1))) {w:Str} (hw:w∈cs.map (·.1)):kX [(Kd.pick cs).t, .str w]= .ok (.lst ((Kd.pick cs).less (.str w))):=by
 have e:kX [(Kd.pick cs).t, .str w]=zo (KL f_k [.vl (Kd.pick cs).t, .vl (.str w), .un, .un]):=rfl
 have e1:zJ 2 (zc 1 f_k (z9 (vE 0) (zg))) [.vl (Kd.pick cs).t, .vl (.str w), .un, .un]= .nx [.vl (Kd.pick cs).t, .vl (.str w), .vl (.lst (cs.map fun c=>T.str c.1)), .un]:=by
  rw [zV (t:= .lst (cs.map fun c=>T.str c.1))]; · rfl
  rw [j1,v0,bOk,WP cs h4]
 have e2:zJ 3 (Y9 QA (vB 2) (vB 1)) [.vl (Kd.pick cs).t, .vl (.str w), .vl (.lst (cs.map fun c=>T.str c.1)), .un]= .nx [.vl (Kd.pick cs).t, .vl (.str w), .vl (.lst (cs.map fun c=>T.str c.1)), .vl (.int (((cs.map (·.1)).idxOf w:Nat):Int))]:=by
  rw [zV (t:= .int (((cs.map (·.1)).idxOf w:Nat):Int))]; · rfl
  exact Uz hd hw
 have hl:=Wi hw
 rw [e,KL,zk e1,zk e2]
 simp only [Kd.less]
 cases ej:(cs.map (·.1)).idxOf w with
 | zero=>
  rw [zR (t:= .lst [])]
  ·rfl
  ·rfl
 | succ j=>
  rw [ej] at hl
  have hj:j < cs.length:=Nat.lt_of_succ_lt (by simpa using hl)
  obtain ⟨c,hc⟩:=Jh hj
  dsimp only
  rw [hc]
  dsimp only
  rw [zR (t:= .lst [.str c.1])]
  ·rfl
  ·show ifE _ _ _ [.vl (Kd.pick cs).t, .vl (.str w), .vl (.lst (cs.map fun c=>T.str c.1)), .vl (.int ((j+1:Nat):Int))]=_
   rw [uR]
   ·rw [X9]
    have es:ze jK (vE 3) (cE (.int 1)) [.vl (Kd.pick cs).t, .vl (.str w), .vl (.lst (cs.map fun c=>T.str c.1)), .vl (.int ((j+1:Nat):Int))]= .ok (.int (j:Int)):=by
     show R.ok (T.int (((j+1:Nat):Int) - 1))=_
     rw [show ((j+1:Nat):Int) - 1=(j:Int) by omega]
    rw [zl,es]
    show ixT (.lst (cs.map fun c=>T.str c.1)) (.int (j:Int))=_
    exact UV (by rw [List.getElem?_map,hc]; rfl)
   ·show R.ok (decide (((j+1:Nat):Int) > 0))=_
    rw [decide_eq_true (by omega)]
theorem Y6 {k:Kd} {lo hi:Nat} {xs:List T} (h3:xs.length<=3):kY [(Kd.many k lo hi).t, .tup xs]= .ok (.lst (if xs.length=lo then [] else (shl xs).map T.tup)):=by
 have e:kY [(Kd.many k lo hi).t, .tup xs]=zo (KM (en2 (.tup [.str "many",k.t, .int (lo:Int), .int (hi:Int)]) (.tup xs))):=by rw [Kd.t]; rfl
 have ec:zx eqC (ap1 Z0 (vB 1)) (ze ixT (vE 0) (cE (.int 2))) (en2 (.tup [.str "many",k.t, .int (lo:Int), .int (hi:Int)]) (.tup xs))= .ok (xs.length == lo):=by
  rw [zL,Zn,w1,bOk,ZU,bOk,y6,bOk,eqI,qP]
 rw [e,KM]
 by_cases h:xs.length=lo
 ·rw [if_pos h,ZQ (t:= .lst [])]
  ·rfl
  ·rw [Y3 (by rw [ec,beq_iff_eq.mpr h])]; rfl
 ·rw [if_neg h,zk (jh (by rw [ec,beq_eq_false_iff_ne.mpr h])),zR (t:= .lst ((shl xs).map T.tup))]
  ·rfl
  ·show zQ _ _ _ _ _ _ (en2 (.tup [.str "many",k.t, .int (lo:Int), .int (hi:Int)]) (.tup xs))=_
   have ei:Zd (ap1 Z0 (vB 1)) (en2 (.tup [.str "many",k.t, .int (lo:Int), .int (hi:Int)]) (.tup xs))= .ok (rng 0 xs.length):=vR rfl (by omega)
   have em:zG (zw 0) Zc (ze zt (slE (vE 1) (noO) (zU (vE 0))) (slE (vE 1) (zU (ze zt (vE 0) (cE (.int 1)))) (noO))) 1 [1] (en2 (.tup [.str "many",k.t, .int (lo:Int), .int (hi:Int)]) (.tup xs)) (rng 0 xs.length)= .ok ((rng 0 xs.length).map fun t=>match t with | .int i=> .tup (xs.take i.toNat++xs.drop (i.toNat+1)) | y=>y):=
    zX _ (by rw [Wk]; exact Nat.le_trans h3 (by decide)) fun t ht=>by
     obtain ⟨i,hi',rfl⟩:=WX ht
     exact yj (xs:=xs) (i:=i) rfl rfl hi' (by omega)
   rw [zI,ei,bOk,em,bOk,Qe,List.map_map]
   unfold shl
   rw [List.map_map]
   exact congrArg (fun l=>R.ok (T.lst l)) (List.map_congr_left fun i _=>rfl)
abbrev inB:En->RS:=V8 2 (ze zt (ze zt (slE (vE 1) (noO) (zU (vE 3))) (ZC (z9 (vE 5) (zg)))) (slE (vE 1) (zU (ze zt (vE 3) (cE (.int 1)))) (noO)))
theorem Qg {s X4:T} {xs:List T} {i:Nat} (hi:i < xs.length) (hl:xs.length<=3):∀ (ys acc:List T) (z:Sl),acc.length+ys.length<=1000000->∃ z',j5 (zw 5) inB ys [.vl s, .vl (.tup xs), .ow acc, .vl (.int (i:Int)), .vl X4,z]= .nx [.vl s, .vl (.tup xs), .ow (acc++ys.map fun y=>T.tup (xs.set i y)), .vl (.int (i:Int)), .vl X4,z']
 | [],acc,z,_=>⟨z,by rw [List.map_nil,List.append_nil]; rfl⟩
 | y :: ys,acc,z,hb=>by
  have hb' :acc.length+(ys.length+1)<=1000000:=by simpa using hb
  obtain ⟨z',hz⟩:=Qg (s:=s) (X4:=X4) hi hl ys (acc++[.tup (xs.set i y)]) (.vl y) (by simp; omega)
  refine ⟨z', ?_⟩
  have e:inB [.vl s, .vl (.tup xs), .ow acc, .vl (.int (i:Int)), .vl X4, .vl y]= .nx [.vl s, .vl (.tup xs), .ow (acc++[.tup (xs.set i y)]), .vl (.int (i:Int)), .vl X4, .vl y]:=by
   have es:=yi (fx:=vE 1) (fi:=vE 3) (fy:=vE 5) (ρ:=[.vl s, .vl (.tup xs), .ow acc, .vl (.int (i:Int)), .vl X4, .vl y]) (xs:=xs) (i:=i) (y:=y) rfl rfl rfl hi (by omega)
   exact Kg (i:=2) (ts:=acc) rfl (Nat.lt_of_le_of_lt (show acc.length<=1000000 by omega) (by decide)) es
  rw [wP rfl e,hz,List.append_assoc]; rfl
def Vy (ks:List Kd) (xs:List T) (i:Nat):List (List T):=match (ks.map Kd.less)[i]?,xs[i]? with
 | some f,some x=>(f x).map fun y=>xs.set i y
 | _,_=>[]
theorem Qh {ks:List Kd} {xs:List T} {i:Nat} {k:Kd} {x:T} (a:ks[i]? =some k) (b:xs[i]? =some x):Vy ks xs i=(k.less x).map fun y=>xs.set i y:=by
 unfold Vy
 rw [List.getElem?_map,a,b]; rfl
theorem yl (ks:List Kd) (xs:List T):plz (ks.map Kd.less) xs=(List.range xs.length).flatMap (Vy ks xs):=rfl
theorem vS (xs:List T):Jj xs=(List.range xs.length).map fun (i:Nat)=>T.tup [.int (i:Int),(xs[i]?).getD .non]:=by
 refine List.ext_getElem? fun i=> ?_
 unfold Jj
 rw [List.getElem?_map,List.getElem?_zipIdx,List.getElem?_map]
 by_cases h:i < xs.length
 ·rw [List.getElem?_range h,List.getElem?_eq_getElem h]; simp [List.getElem?_eq_getElem h]
 ·rw [List.getElem?_eq_none (by omega),List.getElem?_eq_none (by simpa using h)]; rfl
abbrev plB (c:List T->R T):En->RS:=ju (ZW (zc 2 c (z9 (ze ixT (vE 0) (vE 3)) (z9 (vE 4) (zg))))) (zw 5) inB
theorem Qi {c:List T->R T} {s:T} {ks:List Kd} {xs:List T} (hs:∀ (i:Nat) (k:Kd),ks[i]? =some k->ixT s (.int (i:Int))= .ok k.t) (hl:xs.length<=3) (hlen:xs.length=ks.length)
  (H:∀ (i:Nat) (k:Kd) (x:T),ks[i]? =some k->xs[i]? =some x->c [k.t,x]= .ok (.lst (k.less x))/\(k.less x).length<=1000):∀ (js:List Nat) (acc:List T) (a b z:Sl),(∀ j∈js,j < xs.length)->acc.length+js.length*1000<=1000000->
  ∃ a' b' z',j5 (Zt 3 4) (plB c) (js.map fun (i:Nat)=>T.tup [.int (i:Int),(xs[i]?).getD .non]) [.vl s, .vl (.tup xs), .ow acc,a,b,z]= .nx [.vl s, .vl (.tup xs), .ow (acc++(js.flatMap (Vy ks xs)).map T.tup),a',b',z']
 | [],acc,a,b,z,_,_=>⟨a,b,z,by show RS.nx _=RS.nx _; rw [List.flatMap_nil,List.map_nil,List.append_nil]⟩
 | j :: js,acc,a,b,z,hj,hb=>by
  have hb' :acc.length+(js.length+1)*1000<=1000000:=by simpa using hb
  have hjx:=hj j List.mem_cons_self
  obtain ⟨x,hx⟩:=Jh hjx
  obtain ⟨k,hk⟩:=Jh (show j < ks.length by omega)
  obtain ⟨h1,h2⟩:=H j k x hk hx
  obtain ⟨z1,hz1⟩:=Qg (s:=s) (X4:=x) hjx hl (k.less x) acc z (by omega)
  obtain ⟨a',b',z',ih⟩:=Qi hs hl hlen H js (acc++(k.less x).map fun y=>T.tup (xs.set j y)) (.vl (.int (j:Int))) (.vl x) z1 (fun i hi=>hj i (List.mem_cons_of_mem _ hi)) (by simp; omega)
  refine ⟨a',b',z', ?_⟩
  have eb:plB c [.vl s, .vl (.tup xs), .ow acc, .vl (.int (j:Int)), .vl x,z]= .nx [.vl s, .vl (.tup xs), .ow (acc++(k.less x).map fun y=>T.tup (xs.set j y)), .vl (.int (j:Int)), .vl x,z1]:=by
   have ei:ZW (zc 2 c (z9 (ze ixT (vE 0) (vE 3)) (z9 (vE 4) (zg)))) [.vl s, .vl (.tup xs), .ow acc, .vl (.int (j:Int)), .vl x,z]= .ok (k.less x):=by
    have e3:ze ixT (vE 0) (vE 3) [.vl s, .vl (.tup xs), .ow acc, .vl (.int (j:Int)), .vl x,z]= .ok k.t:=hs j k hk
    rw [ZP,Z3,e3,bOk,v4,bOk,h1]; rfl
   unfold plB ju
   rw [ei,Za]; exact hz1
  have eg:Zt 3 4 (T.tup [.int (j:Int),(xs[j]?).getD .non]) [.vl s, .vl (.tup xs), .ow acc,a,b,z]= .ok [.vl s, .vl (.tup xs), .ow acc, .vl (.int (j:Int)), .vl x,z]:=by rw [hx]; rfl
  rw [List.map_cons,wP eg eb,ih,List.flatMap_cons,Qh hk hx,List.map_append,List.map_map,List.append_assoc]
  rfl
theorem ym {c:List T->R T} {s:T} {ks:List Kd} {xs:List T} (hs:∀ (i:Nat) (k:Kd),ks[i]? =some k->ixT s (.int (i:Int))= .ok k.t) (hl:xs.length<=3) (hlen:xs.length=ks.length)
  (H:∀ (i:Nat) (k:Kd) (x:T),ks[i]? =some k->xs[i]? =some x->c [k.t,x]= .ok (.lst (k.less x))/\(k.less x).length<=1000):zo (b_z c (en0 6 [s, .tup xs]))= .ok (.lst ((plz (ks.map Kd.less) xs).map T.tup)):=by
 obtain ⟨a',b',z',h⟩:=Qi (c:=c) hs hl hlen H (List.range xs.length) [] .un .un .un (fun j hj=>List.mem_range.mp hj) (by simp; omega)
 have e:en0 6 [s, .tup xs]=[.vl s, .vl (.tup xs), .un, .un, .un, .un]:=rfl
 have e1:U1 2 zg [.vl s, .vl (.tup xs), .un, .un, .un, .un]= .nx [.vl s, .vl (.tup xs), .ow [], .un, .un, .un]:=rfl
 have e2:ju (US (vE 1)) (Zt 3 4) (plB c) [.vl s, .vl (.tup xs), .ow [], .un, .un, .un]= .nx [.vl s, .vl (.tup xs), .ow ([]++((List.range xs.length).flatMap (Vy ks xs)).map T.tup),a',b',z']:=by
  have ei:US (vE 1) [.vl s, .vl (.tup xs), .ow [], .un, .un, .un]= .ok ((List.range xs.length).map fun (i:Nat)=>T.tup [.int (i:Int),(xs[i]?).getD .non]):=by rw [← vS]; rfl
  unfold ju
  rw [ei,Za]; exact h
 rw [e,b_z,zk e1,zk e2,zR (t:= .lst ((plz (ks.map Kd.less) xs).map T.tup))]
 ·rfl
 ·rw [yl]; rfl
theorem Kk {xs ys:List T} (h:xs.length+ys.length<=bnd):zt (.lst xs) (.lst ys)= .ok (.lst (xs++ys)):=if_pos h
theorem jx {d:Nat} (hd:d<=3) {k:Kd} {x:T} (h:k.Ok d) (hx:k.has x=true):(k.less x).length<=1000:=by
 have:=WW d k x h hx
 have h4:4 ^ d<=4 ^ 3:=Nat.pow_le_pow_right (by omega) hd
 omega
theorem Vz:∀ (d n:Nat),2*d<=n->d<=3->∀ (k:Kd) (x:T),k.Ok d->k.has x=true->S_i n 0 [k.t,x]= .ok (.lst (k.less x))
 | 0,_,_,_,_,_,h,_=>h.elim
 | d+1,n+2,hn,hd,k,x,h,hx=>by
  have ih:=Vz d n (by omega) (by omega)
  have e:S_i (n+2) 0 [k.t,x]=zo (b_i kW kX kY (S_i (n+1) 1) (en0 2 [k.t,x])):=by rw [S_i]
  have e1:∀ s y,S_i (n+1) 1 [s,y]=zo (b_z (S_i n 0) (en0 6 [s,y])):=fun s y=>by rw [S_i]; intro h; cases h
  rw [e]
  cases k with
  | whole lo hi=>
   simp only [Kd.has] at hx
   obtain ⟨i,rfl,hi'⟩:=ZR.mp hx
   have e:en0 2 [(Kd.whole lo hi).t, .int i]=en2 (.tup [.str "whole", .int lo, .int hi]) (.int i):=by rw [Kd.t]; rfl
   have hn:=Qf lo hi i
   rw [Kd.t] at hn
   rw [e,b_i,ZQ (t:= .lst ((Kd.whole lo hi).less (.int i)))]
   ·rfl
   ·rw [vL,zR]
    show zc _ _ _ (en2 _ _)=_
    rw [Z3,v0,bOk,v1,bOk,hn]
  | pick cs=>
   obtain ⟨w,rfl,hw⟩:=ZA.mp hx
   have e:en0 2 [(Kd.pick cs).t, .str w]=en2 (.tup [.str "pick", .tup (cs.map J8)]) (.str w):=by rw [Kd.t]; rfl
   have hw' :=uS h.2.1 h.2.2.2 hw
   rw [Kd.t] at hw'
   rw [e,b_i,zk (u4 (by decide)),ZQ (t:= .lst ((Kd.pick cs).less (.str w)))]
   ·rfl
   ·rw [vL,zR]
    show zc _ _ _ (en2 _ _)=_
    rw [Z3,v0,bOk,v1,bOk,hw']
  | row ks=>
   obtain ⟨xs,rfl,hs⟩:=jj hx
   have e:en0 2 [(Kd.row ks).t, .tup xs]=en2 (.tup [.str "row", .tup (ks.map Kd.t)]) (.tup xs):=by rw [Kd.t,Kd.ts_map]; rfl
   rw [e,b_i,zk (u4 (by decide)),zk (u4 (by decide)),ZQ (t:= .lst ((Kd.row ks).less (.tup xs)))]
   ·rfl
   ·rw [vL,zR]
    show zc _ _ _ (en2 _ _)=_
    rw [Z3,wO,bOk,v1,bOk,e1,ym (ks:=ks) (fun i k hk=>uz (by rw [List.getElem?_map,hk]; rfl)) (by rw [hs.1]; exact h.2.1) hs.1 fun i k x a b=>⟨ih k x (h.2.2 k (Zh a)) (hs.2 i k x a b),jx (by omega) (h.2.2 k (Zh a)) (hs.2 i k x a b)⟩]
    simp only [Kd.less,Kd.lessF_map]
  | many k lo hi=>
   obtain ⟨xs,rfl,h1,h2,hs⟩:=ZS hx
   have h3:xs.length<=3:=Nat.le_trans h2 h.2.1
   have e:en0 2 [(Kd.many k lo hi).t, .tup xs]=en2 (.tup [.str "many",k.t, .int (lo:Int), .int (hi:Int)]) (.tup xs):=by rw [Kd.t]; rfl
   have em:ze Zi (ZD (z9 (ze ixT (vE 0) (cE (.int 1))) (zg))) (ap1 Z0 (vB 1)) (en2 (.tup [.str "many",k.t, .int (lo:Int), .int (hi:Int)]) (.tup xs))= .ok (.lst ((List.replicate xs.length k).map Kd.t)):=by
    rw [zl,X9 wO,bOk,Zn,w1,bOk,ZU,bOk,uJ h3,J9,List.map_replicate]
   have hsh:=Y6 (k:=k) (lo:=lo) (hi:=hi) h3
   rw [Kd.t] at hsh
   have hb:=jx hd h hx
   rw [e,b_i,zk (u4 (by decide)),zk (u4 (by decide)),zk (u4 (by decide)),zR (t:= .lst ((Kd.many k lo hi).less (.tup xs)))]
   ·rfl
   ·show ze _ _ _ (en2 _ _)=_
    have ec:=ym (c:=S_i n 0) (s:= .lst ((List.replicate xs.length k).map Kd.t)) (ks:=List.replicate xs.length k) (xs:=xs) (fun i k hk=>UV (by rw [List.getElem?_map,hk]; rfl)) h3 (by simp) fun i k' x a b=>by
     obtain rfl:=(List.mem_replicate.mp (Zh a)).2
     exact ⟨ih k' x h.2.2 (hs.2 i k' x a b),jx (by omega) h.2.2 (hs.2 i k' x a b)⟩
    simp only [Kd.less,Zy,List.length_append] at hb ⊢
    rw [zl,Z3,v0,bOk,v1,bOk,hsh,bOk,Z3,em,bOk,v1,bOk,e1,ec,bOk,Kk (Nat.le_trans hb (by decide))]
theorem Ja {α:Type} {p:α->Bool} {z:α}:∀ {l:List α},l.Pairwise (fun a b=>a ≠ b)->z∈l->p z=true->(∀ y∈l,p y=true->y=z)->l.filter p=[z]
 | [],_,h,_,_=>by cases h
 | a :: l,hn,hz,hp,hu=>by
  rw [List.pairwise_cons] at hn
  by_cases e:a=z
  ·subst e
   rw [List.filter_cons_of_pos hp,List.filter_eq_nil_iff.mpr]
   intro y hy hpy
   exact hn.1 y hy (hu y (List.mem_cons_of_mem _ hy) hpy).symm
  ·rw [List.filter_cons_of_neg (fun h=>e (hu a List.mem_cons_self h))]
   refine Ja hn.2 ?_ hp fun y hy=>hu y (List.mem_cons_of_mem _ hy)
   rcases List.mem_cons.mp hz with h | h
   ·exact absurd h.symm e
   ·exact h
theorem UB {α:Type} {p:α->Bool} {l:List α} (h:∀ y∈l,p y ≠ true):l.filter p=[]:=List.filter_eq_nil_iff.mpr h
theorem jy {ft:En->R Bool} {fe:En->R T} {p:T->Bool} {h:T->T} {k:Nat} {js:List Nat} {ρ:En} (ts:List T) (hl:ts.length<=bnd) (H:∀ t∈ts,ft ((wY k js ρ).set 0 (.vl t))= .ok (p t)/\(p t=true->fe ((wY k js ρ).set 0 (.vl t))= .ok (h t))):zG (zw 0) ft fe k js ρ ts= .ok ((ts.filter p).map h):=by
 unfold zG
 rw [if_pos hl,Zk ts _ H]
 rfl
theorem Xj {α:Type} {g:α->Int} {l:List α} {m:Int} (h:∃ a∈l,g a=m) (hm:∀ a∈l,m<=g a):vk (.lst (l.map fun a=>T.int (g a)))= .ok (.int m):=by
 show (match j0 (l.map fun a=>T.int (g a)) with | some (i :: l)=>_ | _=>_)=_
 rw [wq]
 cases l with
 | nil=>obtain ⟨a,ha,_⟩:=h; cases ha
 | cons b l=>
  rw [List.map_cons]
  obtain ⟨h1,h2⟩:=wf (l.map g) (g b)
  have e:jA (fun a b=>decide (a < b)) (g b) (l.map g)=m:=by
   obtain ⟨a,ha,e⟩:=h
   refine Int.le_antisymm ?_ ?_
   ·rw [← e]; refine h2 _ ?_; rw [← List.map_cons]; exact List.mem_map.mpr ⟨a,ha,rfl⟩
   ·rw [← List.map_cons (f:=g)] at h1; obtain ⟨c,hc,ec⟩:=List.mem_map.mp h1
    rw [← ec]; exact hm c hc
  show R.ok (T.int (jA _ (g b) (l.map g)))=_
  rw [e]
theorem Xk {α:Type} {g:α->Int} {l:List α} {m:Int} (h:∃ a∈l,g a=m) (hm:∀ a∈l,g a<=m):yR (.lst (l.map fun a=>T.int (g a)))= .ok (.int m):=by
 show (match j0 (l.map fun a=>T.int (g a)) with | some (i :: l)=>_ | _=>_)=_
 rw [wq]
 cases l with
 | nil=>obtain ⟨a,ha,_⟩:=h; cases ha
 | cons b l=>
  rw [List.map_cons]
  obtain ⟨h1,h2⟩:=we (l.map g) (g b)
  have e:jA (fun a b=>decide (b < a)) (g b) (l.map g)=m:=by
   obtain ⟨a,ha,e⟩:=h
   refine Int.le_antisymm ?_ ?_
   ·rw [← List.map_cons (f:=g)] at h1; obtain ⟨c,hc,ec⟩:=List.mem_map.mp h1
    rw [← ec]; exact hm c hc
   ·rw [← e]; refine h2 _ ?_; rw [← List.map_cons]; exact List.mem_map.mpr ⟨a,ha,rfl⟩
  show R.ok (T.int (jA _ (g b) (l.map g)))=_
  rw [e]
def ins (lo hi:Int):List Int:=(List.range (hi+1 - lo).toNat).map fun (i:Nat)=>lo+(i:Int)
theorem jW {lo hi i:Int}:i∈ins lo hi↔lo<=i/\i<=hi:=by
 unfold ins
 rw [List.mem_map]
 constructor
 ·rintro ⟨j,hj,rfl⟩
  have:=List.mem_range.mp hj; omega
 ·rintro ⟨h1,h2⟩
  exact ⟨(i - lo).toNat,List.mem_range.mpr (by omega),by omega⟩
theorem yn {lo hi:Int}:(ins lo hi).Pairwise (fun a b=>a ≠ b):=by
 unfold ins
 rw [List.pairwise_map]
 exact List.Pairwise.imp (fun h=>by omega) (List.nodup_range (n:=(hi+1 - lo).toNat))
theorem UC {lo hi:Int}:rng lo (hi+1 - lo).toNat=(ins lo hi).map T.int:=by unfold rng ins; rw [List.map_map]; rfl
theorem UD {lo hi:Int}:(Kd.whole lo hi).all=(ins lo hi).map T.int:=by rw [Kd.all,← UC]; rfl
theorem Qj {lo hi:Int} (h1: -20<=lo) (h3:hi<=20):((ins lo hi).map T.int).length<=bnd:=by
 have hb1:bnd=16777216:=rfl
 rw [List.length_map]; unfold ins; rw [List.length_map,List.length_range]; omega
theorem yo {lo hi i:Int} (h1:lo<=i) (h2:i<=hi):jH (jG lo hi)<=jH i/\(jH i=jH (jG lo hi)->i=jG lo hi):=by
 unfold jH jG; constructor
 ·split <;> split <;> split at* <;> omega
 ·intro h; split at h <;> split at h <;> split at* <;> split at* <;> omega
theorem vT {d:Nat} {lo hi:Int} (h:(Kd.whole lo hi).Ok (d+1)):f_x [(Kd.whole lo hi).t]= .ok (.int (jH (jG lo hi))):=by
 obtain ⟨h1,h2,h3⟩:=h
 have e:f_x [(Kd.whole lo hi).t]=zo (b_x [.vl (.tup [.str "whole", .int lo, .int hi])]):=by rw [Kd.t]; rfl
 rw [e,b_x,zR (t:= .int (jH (jG lo hi)))]
 ·rfl
 ·show ap1 _ _ [.vl (.tup [.str "whole", .int lo, .int hi])]=_
  rw [Zn,zI,WN wO (Ut y6) ⟨by omega,by omega,by omega,by omega⟩,bOk,UC,
   zX (h:=fun t=>match t with | .int i=> .int (jH i) | y=>y) _ (Qj h1 h3) (fun t ht=>by obtain ⟨i,_,rfl⟩:=List.mem_map.mp ht; rfl),bOk,bOk,List.map_map]
  obtain ⟨n1,n2⟩:=wS h2
  exact Xj (g:=jH) ⟨jG lo hi,jW.mpr ⟨n1,n2⟩,rfl⟩ fun a ha=>(yo (jW.mp ha).1 (jW.mp ha).2).1
theorem vU {cw:List T->R T} {d:Nat} {lo hi i:Int} (h:(Kd.whole lo hi).Ok (d+1)) (hi1:lo<=i) (hi2:i<=hi):zo (b_6 cw f_x (en0 6 [(Kd.whole lo hi).t, .int i]))= .ok (.int ((Kd.whole lo hi).wt (.int i))):=by
 have hn:=vT h
 obtain ⟨h1,h2,h3⟩:=h
 obtain ⟨n1,n2⟩:=wS h2
 rw [Kd.t] at hn
 have e:en0 6 [(Kd.whole lo hi).t, .int i]=[.vl (.tup [.str "whole", .int lo, .int hi]), .vl (.int i), .un, .un, .un, .un]:=by rw [Kd.t]; rfl
 rw [e,b_6,ZQ (t:= .int (jH (i - jG lo hi)))]
 ·simp only [Kd.wt]; rfl
 ·rw [Y3 (by rw [cs0,beq_self_eq_true]),zR]
  show ap1 _ _ [.vl (.tup [.str "whole", .int lo, .int hi]), .vl (.int i), .un, .un, .un, .un]=_
  have ef:(ins lo hi).filter (fun j=>jH j == jH (jG lo hi))=[jG lo hi]:=Ja yn (jW.mpr ⟨n1,n2⟩) (by simp) fun y hy hp=>(yo (jW.mp hy).1 (jW.mp hy).2).2 (beq_iff_eq.mp hp)
  rw [Zn,zI,WN wO (Ut y6) ⟨by omega,by omega,by omega,by omega⟩,bOk,UC,
   jy (p:=fun t=>match t with | .int j=>jH j == jH (jG lo hi) | _=>false) (h:=fun t=>match t with | .int j=> .int (jH (i - j)) | y=>y) _ (Qj h1 h3) (fun t ht=>by
    obtain ⟨j,_,rfl⟩:=List.mem_map.mp ht
    refine ⟨?_,fun _=>rfl⟩
    show zx eqC _ _ [.vl (.int j), .vl (.tup [.str "whole", .int lo, .int hi]), .vl (.int i)]=_
    rw [zL,Zn,w0,bOk,Vx,bOk,j1,v1,bOk,hn,bOk,eqI]),bOk,bOk,List.filter_map]
  have eg:(ins lo hi).filter ((fun t=>match t with | T.int j=>jH j == jH (jG lo hi) | _=>false) ∘ T.int)=[jG lo hi]:=ef
  rw [eg]
  rfl
theorem Xl {cw:List T->R T} {d:Nat} {cs:List (Str×Int)} (h:(Kd.pick cs).Ok (d+1)) {w:Str} (hw:w∈cs.map (·.1)):zo (b_6 cw f_x (en0 6 [(Kd.pick cs).t, .str w]))= .ok (.int ((Kd.pick cs).wt (.str w))):=by
 have e:en0 6 [(Kd.pick cs).t, .str w]=[.vl (.tup [.str "pick", .tup (cs.map J8)]), .vl (.str w), .un, .un, .un, .un]:=by rw [Kd.t]; rfl
 rw [e,b_6,zk (jh (by rw [cs0]; rfl)),ZQ (t:= .int (((cs.map (·.1)).idxOf w:Nat):Int))]
 ·simp only [Kd.wt]; rfl
 ·rw [Y3 (by rw [cs0,beq_self_eq_true]),zR]
  show Y9 _ _ _ [.vl (.tup [.str "pick", .tup (cs.map J8)]), .vl (.str w), .un, .un, .un, .un]=_
  have ec:zG (Zt 0 1) Zc (vE 0) 2 [] [.vl (.tup [.str "pick", .tup (cs.map J8)]), .vl (.str w), .un, .un, .un, .un] (cs.map J8)= .ok (cs.map fun c=>T.str c.1):=by
   unfold zG
   rw [if_pos (by rw [List.length_map]; exact Nat.le_trans h.2.1 (by decide))]
   show quiet (zZ (Zt 0 1) Zc (vE 0) (cs.map J8) [.un, .un])=_
   rw [Uu]; rfl
  unfold Y9
  rw [zI,ZP,wO,bOk]
  show ((R.bind (R.bind (R.ok (cs.map J8)) _) _))=_
  rw [bOk,ec,bOk,bOk]
  exact Uz h.2.2.2 hw
abbrev lwB (c:List T->R T):En->RS:=zJ 3 (ze zt (vE 3) (zc 2 c (z9 (vE 4) (z9 (vE 5) (zg)))))
theorem Qk {c:List T->R T} {K X S:Sl}:∀ (qs:List (Kd×T)) (m:Int) (a b:Sl),(∀ q∈qs,c [q.1.t,q.2]= .ok (.int (q.1.wt q.2)))->∃ a' b',j5 (Zt 4 5) (lwB c) (qs.map fun q=>T.tup [q.1.t,q.2]) [K,X,S, .vl (.int m),a,b]= .nx [K,X,S, .vl (.int (m+(qs.map fun q=>q.1.wt q.2).sum)),a',b']
 | [],m,a,b,_=>⟨a,b,by show RS.nx _=RS.nx _; rw [List.map_nil,List.sum_nil,Int.add_zero]⟩
 | q :: qs,m,a,b,h=>by
  obtain ⟨a',b',ih⟩:=Qk (K:=K) (X:=X) (S:=S) qs (m+q.1.wt q.2) (.vl q.1.t) (.vl q.2) fun r hr=>h r (List.mem_cons_of_mem _ hr)
  refine ⟨a',b', ?_⟩
  have e:lwB c [K,X,S, .vl (.int m), .vl q.1.t, .vl q.2]= .nx [K,X,S, .vl (.int (m+q.1.wt q.2)), .vl q.1.t, .vl q.2]:=by
   unfold lwB
   rw [zV (t:= .int (m+q.1.wt q.2))]
   ·rfl
   ·rw [zl,v3,bOk,Z3,v4,bOk,v5',bOk,h q List.mem_cons_self,bOk,Zl]
  rw [List.map_cons,wP rfl e,ih,List.map_cons,List.sum_cons,Int.add_assoc]
theorem yq {c:List T->R T} {K:T} {s:T} {m:Int} (ks:List Kd) (xs:List T) (hs:wc s= .ok (ks.map Kd.t)) (H:∀ q∈ks.zip xs,c [q.1.t,q.2]= .ok (.int (q.1.wt q.2))):
  zo (zz (ju (ve (vE 2) (vE 1)) (Zt 4 5) (lwB c)) (zN (vE 3)) [.vl K, .vl (.tup xs), .vl s, .vl (.int m), .un, .un])= .ok (.int (m+wtz (ks.map Kd.wt) xs)):=by
 obtain ⟨a',b',h⟩:=Qk (K:= .vl K) (X:= .vl (.tup xs)) (S:= .vl s) (ks.zip xs) m .un .un H
 have ez:ve (vE 2) (vE 1) [.vl K, .vl (.tup xs), .vl s, .vl (.int m), .un, .un]= .ok ((ks.zip xs).map fun q=>T.tup [q.1.t,q.2]):=by
  show (wc s).bind _=_
  rw [hs,bOk,← Xe]
  rfl
 have e2:ju (ve (vE 2) (vE 1)) (Zt 4 5) (lwB c) [.vl K, .vl (.tup xs), .vl s, .vl (.int m), .un, .un]= .nx [.vl K, .vl (.tup xs), .vl s, .vl (.int (m+wtz (ks.map Kd.wt) xs)),a',b']:=by
  unfold ju
  rw [ez,Za,h,UA]
 rw [zk e2,zR (t:= .int (m+wtz (ks.map Kd.wt) xs))]
 ·rfl
 ·rfl
theorem Kl:∀ (d n:Nat),d<=n->∀ (k:Kd) (x:T),k.Ok d->k.has x=true->S_6 n 0 [k.t,x]= .ok (.int (k.wt x))
 | 0,_,_,_,_,h,_=>h.elim
 | d+1,n+1,hn,k,x,h,hx=>by
  have ih:=Kl d n (by omega)
  have e:S_6 (n+1) 0 [k.t,x]=zo (b_6 (S_6 n 0) f_x (en0 6 [k.t,x])):=by rw [S_6]
  rw [e]
  cases k with
  | whole lo hi=>
   simp only [Kd.has] at hx
   obtain ⟨i,rfl,hi'⟩:=ZR.mp hx
   exact vU h hi'.1 hi'.2
  | pick cs=>
   obtain ⟨w,rfl,hw⟩:=ZA.mp hx
   exact Xl h hw
  | row ks=>
   obtain ⟨xs,rfl,hs⟩:=jj hx
   have e:en0 6 [(Kd.row ks).t, .tup xs]=[.vl (.tup [.str "row", .tup (ks.map Kd.t)]), .vl (.tup xs), .un, .un, .un, .un]:=by rw [Kd.t,Kd.ts_map]; rfl
   have e2:zJ 2 (ifE (zx eqC (ze ixT (vE 0) (cE (.int 0))) (cE (.str "row"))) (ze ixT (vE 0) (cE (.int 1))) (ze Zi (ZD (z9 (ze ixT (vE 0) (cE (.int 1))) (zg))) (ap1 Z0 (vB 1)))) [.vl (.tup [.str "row", .tup (ks.map Kd.t)]), .vl (.tup xs), .un, .un, .un, .un]= .nx [.vl (.tup [.str "row", .tup (ks.map Kd.t)]), .vl (.tup xs), .vl (.tup (ks.map Kd.t)), .un, .un, .un]:=by
    rw [zV (t:= .tup (ks.map Kd.t))]; · rfl
    rw [uR (by rw [cs0,beq_self_eq_true]),wO]
   have e3:zJ 3 (ifE (zx eqC (ze ixT (vE 0) (cE (.int 0))) (cE (.str "row"))) (cE (.int 0)) (ze jK (ap1 Z0 (vB 1)) (ze ixT (vE 0) (cE (.int 2))))) [.vl (.tup [.str "row", .tup (ks.map Kd.t)]), .vl (.tup xs), .vl (.tup (ks.map Kd.t)), .un, .un, .un]= .nx [.vl (.tup [.str "row", .tup (ks.map Kd.t)]), .vl (.tup xs), .vl (.tup (ks.map Kd.t)), .vl (.int 0), .un, .un]:=by
    rw [zV (t:= .int 0)]; · rfl
    rw [uR (by rw [cs0,beq_self_eq_true])]; rfl
   rw [e,b_6,zk (jh (by rw [cs0]; rfl)),zk (jh (by rw [cs0]; rfl)),zk e2,zk e3]
   have:=yq (c:=S_6 n 0) (K:= .tup [.str "row", .tup (ks.map Kd.t)]) (s:= .tup (ks.map Kd.t)) (m:=0) ks xs rfl fun q hq=>ih q.1 q.2 (h.2.2 q.1 (List.of_mem_zip hq).1) (WV hs q hq)
   rw [this,Int.zero_add]
   simp only [Kd.wt,Kd.wtF_map]
  | many k lo hi=>
   obtain ⟨xs,rfl,h1,h2,hs⟩:=ZS hx
   have h3:xs.length<=3:=Nat.le_trans h2 h.2.1
   have e:en0 6 [(Kd.many k lo hi).t, .tup xs]=[.vl (mt k.t lo hi), .vl (.tup xs), .un, .un, .un, .un]:=by rw [Kd.t]; rfl
   have em:ze Zi (ZD (z9 (ze ixT (vE 0) (cE (.int 1))) (zg))) (ap1 Z0 (vB 1)) [.vl (mt k.t lo hi), .vl (.tup xs), .un, .un, .un, .un]= .ok (.lst ((List.replicate xs.length k).map Kd.t)):=by
    rw [zl,X9 wO,bOk,Zn,w1,bOk,ZU,bOk,uJ h3,J9,List.map_replicate]
   have e2:zJ 2 (ifE (zx eqC (ze ixT (vE 0) (cE (.int 0))) (cE (.str "row"))) (ze ixT (vE 0) (cE (.int 1))) (ze Zi (ZD (z9 (ze ixT (vE 0) (cE (.int 1))) (zg))) (ap1 Z0 (vB 1)))) [.vl (mt k.t lo hi), .vl (.tup xs), .un, .un, .un, .un]= .nx [.vl (mt k.t lo hi), .vl (.tup xs), .vl (.lst ((List.replicate xs.length k).map Kd.t)), .un, .un, .un]:=by
    rw [zV (t:= .lst ((List.replicate xs.length k).map Kd.t))]; · rfl
    rw [yk (by rw [cs0]; rfl),em]
   have e3:zJ 3 (ifE (zx eqC (ze ixT (vE 0) (cE (.int 0))) (cE (.str "row"))) (cE (.int 0)) (ze jK (ap1 Z0 (vB 1)) (ze ixT (vE 0) (cE (.int 2))))) [.vl (mt k.t lo hi), .vl (.tup xs), .vl (.lst ((List.replicate xs.length k).map Kd.t)), .un, .un, .un]= .nx [.vl (mt k.t lo hi), .vl (.tup xs), .vl (.lst ((List.replicate xs.length k).map Kd.t)), .vl (.int ((xs.length:Int) - (lo:Int))), .un, .un]:=by
    rw [zV (t:= .int ((xs.length:Int) - (lo:Int)))]; · rfl
    rw [yk (by rw [cs0]; rfl),zl,Zn,w1,bOk,ZU,bOk,y6,bOk,jn]
   rw [e,b_6,zk (jh (by rw [cs0]; rfl)),zk (jh (by rw [cs0]; rfl)),zk e2,zk e3]
   have:=yq (c:=S_6 n 0) (K:=mt k.t lo hi) (s:= .lst ((List.replicate xs.length k).map Kd.t)) (m:=(xs.length:Int) - (lo:Int)) (List.replicate xs.length k) xs rfl fun q hq=>ih q.1 q.2 (by
     rw [List.eq_of_mem_replicate (List.of_mem_zip hq).1]; exact h.2.2) (WV hs q hq)
   rw [this]
   simp only [Kd.wt,Zy]
   exact congrArg (fun z=>R.ok (T.int z)) (by omega)
theorem Km {i:Nat} {f:En->R T} {ρ:En} {ts us:List T} (hi:ρ[i]? =some (.ow ts)) (h:f ρ= .ok (.lst us)) (hl:ts.length+us.length<=bnd):yO i f ρ= .nx (ρ.set i (.ow (ts++us))):=by
 unfold yO
 rw [hi]
 dsimp only
 rw [h,Za]
 dsimp only
 rw [if_pos hl]
theorem yr {ws:List Str} (h:Dst ws):(ws.map T.str).Pairwise (fun a b=>a ≠ b):=by
 rw [List.pairwise_map,List.pairwise_iff_getElem]
 intro i j hi hj hij e
 have e:ws[i]=ws[j]:=by injection e
 have:=Q6 h (i:=i) (j:=j) (w:=ws[j]) (by rw [List.getElem?_eq_getElem hi,e]) (List.getElem?_eq_getElem hj)
 omega
theorem uT (cs:List (Str×Int)):(Kd.pick cs).all=(cs.map (·.1)).map T.str:=by rw [Kd.all,List.map_map]; rfl
theorem Ql {d:Nat} (hd:d<=3) {k:Kd} (h:k.Ok d) (hl:k.all.length<=1000000):f_5 8 [k.t]= .ok (.lst k.all):=qO d 8 (by omega) hd k h hl
theorem yt {d:Nat} (hd:d<=3) {k:Kd} {x:T} (h:k.Ok d) (hx:k.has x=true):f_6 8 [k.t,x]= .ok (.int (k.wt x)):=Kl d 8 (by omega) k x h hx
abbrev lsE:En->R T:=zQ (ZW (zc 1 (f_5 8) (z9 (vE 0) (zg)))) (zw 0) (zx eqC (zc 2 (f_6 8) (z9 (vE 1) (z9 (vE 0) (zg)))) (ze jK (zc 2 (f_6 8) (z9 (vE 1) (z9 (vE 2) (zg)))) (cE (.int 1)))) (vE 0) 1 [0,1]
theorem uU {k:Kd} (h:k.Ok 1) (hl:k.all.length<=41) {x:T} (hx:k.has x=true):lsE [.vl k.t, .vl x, .un, .un, .un, .un]= .ok (.lst (k.all.filter fun y=>k.wt y == k.wt x - 1)):=by
 have hb1:bnd=16777216:=rfl
 have ea:ZW (zc 1 (f_5 8) (z9 (vE 0) (zg))) [.vl k.t, .vl x, .un, .un, .un, .un]= .ok k.all:=by
  rw [ZP,j1,v0,bOk,Ql (d:=1) (by omega) h (by omega)]; rfl
 have ec:zG (zw 0) (zx eqC (zc 2 (f_6 8) (z9 (vE 1) (z9 (vE 0) (zg)))) (ze jK (zc 2 (f_6 8) (z9 (vE 1) (z9 (vE 2) (zg)))) (cE (.int 1)))) (vE 0) 1 [0,1] [.vl k.t, .vl x, .un, .un, .un, .un] k.all= .ok ((k.all.filter fun y=>k.wt y == k.wt x - 1).map id):=
  jy _ (by omega) fun y hy=>by
   refine ⟨?_,fun _=>rfl⟩
   show zx _ _ _ [.vl y, .vl k.t, .vl x]=_
   rw [zL,Z3,v1,bOk,v0,bOk,yt (d:=1) (by omega) h ((ji k y).mp hy),bOk,zl,Z3,v1,bOk,v2,bOk,yt (d:=1) (by omega) h hx,bOk,Zg,bOk,jn,bOk,eqI]
 rw [lsE,zI,ea,bOk,ec,bOk,List.map_id]
theorem Y7 {cl:List T->R T} {d:Nat} {lo hi i:Int} (h:(Kd.whole lo hi).Ok (d+1)) (h1:lo<=i) (h2:i<=hi):zo (b_c (f_5 8) (f_6 8) cl (en0 6 [(Kd.whole lo hi).t, .int i]))= .ok (.lst ((Kd.whole lo hi).less (.int i))):=by
 have h' :=y8 d lo hi h
 have hl:(Kd.whole lo hi).all.length<=41:=by rw [JC]; have:=h'.1; have:=h'.2.2; omega
 have e1:=uU h' hl (x:= .int i) (by simp only [Kd.has]; exact ZR.mpr ⟨i,rfl,h1,h2⟩)
 obtain ⟨n1,n2⟩:=wS h'.2.1
 have e:en0 6 [(Kd.whole lo hi).t, .int i]=[.vl (Kd.whole lo hi).t, .vl (.int i), .un, .un, .un, .un]:=rfl
 have ein:zx inC (ze ixT (vE 0) (cE (.int 0))) (ZC (z9 (cE (.str "whole")) (z9 (cE (.str "pick")) (zg)))) [.vl (Kd.whole lo hi).t, .vl (.int i), .un, .un, .un, .un]= .ok true:=by rw [Kd.t,in2]; rfl
 generalize hL:((Kd.whole lo hi).all.filter fun y=>(Kd.whole lo hi).wt y == (Kd.whole lo hi).wt (.int i) - 1)=L at e1
 have hLb:L.length<=bnd:=by rw [← hL]; exact Nat.le_trans (List.length_filter_le _ _) (Nat.le_trans hl (by decide))
 have e3:zG (zw 0) (zx eqC (ap1 vj (ze jK (vE 0) (vE 1))) (cE (.int 1))) (vE 0) 1 [1] [.vl (Kd.whole lo hi).t, .vl (.int i), .vl (.lst L), .un, .un, .un] L= .ok ((L.filter fun t=>match t with | .int j=>jH (j - i) == 1 | _=>false).map id):=
  jy _ hLb fun y hy=>by
   rw [← hL,UD] at hy
   obtain ⟨j,_,rfl⟩:=List.mem_map.mp (List.mem_filter.mp hy).1
   exact ⟨rfl,fun _=>rfl⟩
 have eL:(L.filter fun t=>match t with | .int j=>jH (j - i) == 1 | _=>false)=(Kd.whole lo hi).less (.int i):=by
  rw [← hL,UD,List.filter_filter,List.filter_map]
  simp only [Kd.less]
  show ((ins lo hi).filter fun j=>(jH (j - i) == 1) && (jH (j - jG lo hi) == jH (i - jG lo hi) - 1)).map T.int=_
  by_cases e0:i=jG lo hi
  ·rw [if_pos e0,UB]; · rfl
   intro y hy hp
   rw [Bool.and_eq_true,beq_iff_eq,beq_iff_eq] at hp
   rw [e0] at hp
   unfold jH at hp
   split at hp <;> split at hp <;> omega
  ·rw [if_neg e0]
   by_cases g:i > jG lo hi
   ·rw [if_pos g,Ja (z:=i - 1) yn (jW.mpr ⟨by omega,by omega⟩)]
    ·rfl
    ·rw [Bool.and_eq_true,beq_iff_eq,beq_iff_eq]; unfold jH
     constructor
     ·split <;> omega
     ·split <;> split <;> omega
    ·intro y hy hp
     rw [Bool.and_eq_true,beq_iff_eq,beq_iff_eq] at hp
     unfold jH at hp
     obtain ⟨hp1,hp2⟩:=hp
     split at hp1 <;> split at hp2 <;> split at hp2 <;> omega
   ·rw [if_neg g,Ja (z:=i+1) yn (jW.mpr ⟨by omega,by omega⟩)]
    ·rfl
    ·rw [Bool.and_eq_true,beq_iff_eq,beq_iff_eq]; unfold jH
     constructor
     ·split <;> omega
     ·split <;> split <;> omega
    ·intro y hy hp
     rw [Bool.and_eq_true,beq_iff_eq,beq_iff_eq] at hp
     unfold jH at hp
     obtain ⟨hp1,hp2⟩:=hp
     split at hp1 <;> split at hp2 <;> split at hp2 <;> omega
 have s1:zJ 2 lsE [.vl (Kd.whole lo hi).t, .vl (.int i), .un, .un, .un, .un]= .nx [.vl (Kd.whole lo hi).t, .vl (.int i), .vl (.lst L), .un, .un, .un]:=by rw [zV e1]; rfl
 have s2:ifS (zx eqC (ze ixT (vE 0) (cE (.int 0))) (cE (.str "whole"))) (zJ 2 (zQ (ZW (vE 2)) (zw 0) (zx eqC (ap1 vj (ze jK (vE 0) (vE 1))) (cE (.int 1))) (vE 0) 1 [1])) (nxS) [.vl (Kd.whole lo hi).t, .vl (.int i), .vl (.lst L), .un, .un, .un]= .nx [.vl (Kd.whole lo hi).t, .vl (.int i), .vl (.lst ((Kd.whole lo hi).less (.int i))), .un, .un, .un]:=by
  rw [Y3 (by rw [Kd.t,cs0,beq_self_eq_true]),zV (t:= .lst ((Kd.whole lo hi).less (.int i)))]
  ·rfl
  ·rw [zI]
   show ((R.ok L).bind _)=_
   rw [bOk,e3,bOk,List.map_id,eL]
 rw [e,b_c,ZQ (t:= .lst ((Kd.whole lo hi).less (.int i)))]
 ·rfl
 ·rw [Y3 ein,zk s1,zk s2]; rfl
theorem Qm {cl:List T->R T} {d:Nat} {cs:List (Str×Int)} (h:(Kd.pick cs).Ok (d+1)) {w:Str} (hw:w∈cs.map (·.1)):zo (b_c (f_5 8) (f_6 8) cl (en0 6 [(Kd.pick cs).t, .str w]))= .ok (.lst ((Kd.pick cs).less (.str w))):=by
 have h' :=y9 d cs h
 have hl:(Kd.pick cs).all.length<=41:=by rw [WM]; have:=h'.2.1; omega
 have e1:=uU h' hl (x:= .str w) (ZA.mpr ⟨w,rfl,hw⟩)
 have e:en0 6 [(Kd.pick cs).t, .str w]=[.vl (Kd.pick cs).t, .vl (.str w), .un, .un, .un, .un]:=rfl
 have ein:zx inC (ze ixT (vE 0) (cE (.int 0))) (ZC (z9 (cE (.str "whole")) (z9 (cE (.str "pick")) (zg)))) [.vl (Kd.pick cs).t, .vl (.str w), .un, .un, .un, .un]= .ok true:=by rw [Kd.t,in2]; rfl
 have eL:((Kd.pick cs).all.filter fun y=>(Kd.pick cs).wt y == (Kd.pick cs).wt (.str w) - 1)=(Kd.pick cs).less (.str w):=by
  rw [uT]
  simp only [Kd.less]
  have hlt:=Wi hw
  cases ej:(cs.map (·.1)).idxOf w with
  | zero=>
   refine UB fun y hy hp=> ?_
   obtain ⟨v,hv,rfl⟩:=List.mem_map.mp hy
   simp only [Kd.wt,beq_iff_eq] at hp
   omega
  | succ j=>
   rw [ej] at hlt
   have hj:j < cs.length:=Nat.lt_of_succ_lt (by simpa using hlt)
   obtain ⟨c,hc⟩:=Jh hj
   have hc' :(cs.map (·.1))[j]? =some c.1:=by rw [List.getElem?_map,hc]; rfl
   dsimp only
   rw [hc]
   dsimp only
   refine Ja (yr h'.2.2.2) (List.mem_map.mpr ⟨c.1,Zh hc',rfl⟩) ?_ fun y hy hp=> ?_
   ·simp only [Kd.wt,beq_iff_eq]
    rw [yg h'.2.2.2 hc']; omega
   ·obtain ⟨v,hv,rfl⟩:=List.mem_map.mp hy
    simp only [Kd.wt,beq_iff_eq] at hp
    have:=yf hv
    rw [show (cs.map (·.1)).idxOf v=j by omega,hc'] at this
    rw [Option.some.inj this]
 rw [eL] at e1
 have s1:zJ 2 lsE [.vl (Kd.pick cs).t, .vl (.str w), .un, .un, .un, .un]= .nx [.vl (Kd.pick cs).t, .vl (.str w), .vl (.lst ((Kd.pick cs).less (.str w))), .un, .un, .un]:=by rw [zV e1]; rfl
 rw [e,b_c,ZQ (t:= .lst ((Kd.pick cs).less (.str w)))]
 ·rfl
 ·rw [Y3 ein,zk s1,zk (jh (by rw [Kd.t,cs0]; rfl))]; rfl
abbrev ll5:En->R T:=ifE (zx eqC (ze ixT (vE 0) (cE (.int 0))) (cE (.str "row"))) (ze ixT (ze ixT (vE 0) (cE (.int 1))) (vE 4)) (ze ixT (vE 0) (cE (.int 1)))
abbrev llB (c:List T->R T):En->RS:=zz (zJ 5 ll5)
  (yO 3 (zQ (ZW (zc 2 c (z9 (vE 5) (z9 (ze ixT (vE 1) (vE 4)) (zg))))) (zw 0) (Zc) (ze zt (ze zt (slE (vE 1) (noO) (zU (vE 2))) (ZC (z9 (vE 0) (zg)))) (slE (vE 1) (zU (ze zt (vE 2) (cE (.int 1)))) (noO))) 1 [1,4]))
theorem UE {c:List T->R T} {K:T} {u:Sl} {ks:List Kd} {xs:List T} (h5:∀ (i:Nat) (k:Kd) (acc:List T) (b:Sl),ks[i]? =some k->ll5 [.vl K, .vl (.tup xs),u, .ow acc, .vl (.int (i:Int)),b]= .ok k.t) (hl:xs.length<=3) (hlen:xs.length=ks.length)
  (H:∀ (i:Nat) (k:Kd) (x:T),ks[i]? =some k->xs[i]? =some x->c [k.t,x]= .ok (.lst (k.less x))/\(k.less x).length<=1000):∀ (js:List Nat) (acc:List T) (a b:Sl),(∀ j∈js,j < xs.length)->acc.length+js.length*1000<=1000000->
  ∃ a' b',j5 (zw 4) (llB c) (js.map fun (i:Nat)=>T.int (i:Int)) [.vl K, .vl (.tup xs),u, .ow acc,a,b]= .nx [.vl K, .vl (.tup xs),u, .ow (acc++(js.flatMap (Vy ks xs)).map T.tup),a',b']
 | [],acc,a,b,_,_=>⟨a,b,by show RS.nx _=RS.nx _; rw [List.flatMap_nil,List.map_nil,List.append_nil]⟩
 | j :: js,acc,a,b,hj,hb=>by
  have hb1:bnd=16777216:=rfl
  have hb' :acc.length+(js.length+1)*1000<=1000000:=by simpa using hb
  have hjx:=hj j List.mem_cons_self
  obtain ⟨x,hx⟩:=Jh hjx
  obtain ⟨k,hk⟩:=Jh (show j < ks.length by omega)
  obtain ⟨h1,h2⟩:=H j k x hk hx
  obtain ⟨a',b',ih⟩:=UE (u:=u) h5 hl hlen H js (acc++(k.less x).map fun y=>T.tup (xs.set j y)) (.vl (.int (j:Int))) (.vl k.t) (fun i hi=>hj i (List.mem_cons_of_mem _ hi)) (by simp; omega)
  refine ⟨a',b', ?_⟩
  have e1:zJ 5 ll5 [.vl K, .vl (.tup xs),u, .ow acc, .vl (.int (j:Int)),b]= .nx [.vl K, .vl (.tup xs),u, .ow acc, .vl (.int (j:Int)), .vl k.t]:=by rw [zV (h5 j k acc b hk)]; rfl
  have ei:ZW (zc 2 c (z9 (vE 5) (z9 (ze ixT (vE 1) (vE 4)) (zg)))) [.vl K, .vl (.tup xs),u, .ow acc, .vl (.int (j:Int)), .vl k.t]= .ok (k.less x):=by
   have e3:ze ixT (vE 1) (vE 4) [.vl K, .vl (.tup xs),u, .ow acc, .vl (.int (j:Int)), .vl k.t]= .ok x:=uz hx
   rw [ZP,Z3,v5',bOk,e3,bOk,h1]; rfl
  have ec:zG (zw 0) Zc (ze zt (ze zt (slE (vE 1) (noO) (zU (vE 2))) (ZC (z9 (vE 0) (zg)))) (slE (vE 1) (zU (ze zt (vE 2) (cE (.int 1)))) (noO))) 1 [1,4] [.vl K, .vl (.tup xs),u, .ow acc, .vl (.int (j:Int)), .vl k.t] (k.less x)= .ok ((k.less x).map fun y=>T.tup (xs.set j y)):=
   zX _ (by omega) fun y hy=>yi (fx:=vE 1) (fi:=vE 2) (fy:=vE 0) (xs:=xs) (i:=j) (y:=y) rfl rfl rfl hjx (by omega)
  have e2:llB c [.vl K, .vl (.tup xs),u, .ow acc, .vl (.int (j:Int)),b]= .nx [.vl K, .vl (.tup xs),u, .ow (acc++(k.less x).map fun y=>T.tup (xs.set j y)), .vl (.int (j:Int)), .vl k.t]:=by
   unfold llB
   rw [zk e1]
   exact Km (i:=3) (ts:=acc) rfl (by rw [zI,ei,bOk,ec,bOk]) (by simp; omega)
  rw [List.map_cons,wP rfl e2,ih,List.flatMap_cons,Qh hk hx,List.map_append,List.map_map,List.append_assoc]
  rfl
theorem Qn:∀ (d n:Nat),d<=n->d<=3->∀ (k:Kd) (x:T),k.Ok d->k.has x=true->S_c n 0 [k.t,x]= .ok (.lst (k.less x))
 | 0,_,_,_,_,_,h,_=>h.elim
 | d+1,n+1,hn,hd,k,x,h,hx=>by
  have ih:=Qn d n (by omega) (by omega)
  have e:S_c (n+1) 0 [k.t,x]=zo (b_c (f_5 8) (f_6 8) (S_c n 0) (en0 6 [k.t,x])):=by rw [S_c]
  rw [e]
  cases k with
  | whole lo hi=>
   simp only [Kd.has] at hx
   obtain ⟨i,rfl,hi'⟩:=ZR.mp hx
   exact Y7 h hi'.1 hi'.2
  | pick cs=>
   obtain ⟨w,rfl,hw⟩:=ZA.mp hx
   exact Qm h hw
  | row ks=>
   obtain ⟨xs,rfl,hs⟩:=jj hx
   have hl:xs.length<=3:=by rw [hs.1]; exact h.2.1
   have e:en0 6 [(Kd.row ks).t, .tup xs]=[.vl (.tup [.str "row", .tup (ks.map Kd.t)]), .vl (.tup xs), .un, .un, .un, .un]:=by rw [Kd.t,Kd.ts_map]; rfl
   obtain ⟨a',b',hL⟩:=UE (c:=S_c n 0) (K:= .tup [.str "row", .tup (ks.map Kd.t)]) (u:= .un) (ks:=ks) (xs:=xs) (fun i k acc b hk=>by
     unfold ll5
     rw [uR (by rw [cs0,beq_self_eq_true]),zl,wO,bOk,v4,bOk,uz (by rw [List.getElem?_map,hk]; rfl)]) hl hs.1
     (fun i k x a b=>⟨ih k x (h.2.2 k (Zh a)) (hs.2 i k x a b),jx (by omega) (h.2.2 k (Zh a)) (hs.2 i k x a b)⟩) (List.range xs.length) [] .un .un (fun j hj=>List.mem_range.mp hj) (by simp; omega)
   have s1:U1 3 zg [.vl (.tup [.str "row", .tup (ks.map Kd.t)]), .vl (.tup xs), .un, .un, .un, .un]= .nx [.vl (.tup [.str "row", .tup (ks.map Kd.t)]), .vl (.tup xs), .un, .ow [], .un, .un]:=rfl
   have s2:ju (Zd (ap1 Z0 (vB 1))) (zw 4) (llB (S_c n 0)) [.vl (.tup [.str "row", .tup (ks.map Kd.t)]), .vl (.tup xs), .un, .ow [], .un, .un]= .nx [.vl (.tup [.str "row", .tup (ks.map Kd.t)]), .vl (.tup xs), .un, .ow ([]++((List.range xs.length).flatMap (Vy ks xs)).map T.tup),a',b']:=by
    unfold ju
    rw [vR (xs:=xs) rfl (by omega),Za,Qe]; exact hL
   rw [e,b_c,zk (jh (by rw [in2]; rfl)),zk s1,zk (jh (by rw [JP,cs0]; rfl)),zk s2,zR (t:= .lst ((Kd.row ks).less (.tup xs)))]
   ·rfl
   ·simp only [Kd.less,Kd.lessF_map,yl]; rfl
  | many k lo hi=>
   obtain ⟨xs,rfl,h1,h2,hs⟩:=ZS hx
   have hl:xs.length<=3:=Nat.le_trans h2 h.2.1
   have hb1:bnd=16777216:=rfl
   have e:en0 6 [(Kd.many k lo hi).t, .tup xs]=[.vl (mt k.t lo hi), .vl (.tup xs), .un, .un, .un, .un]:=by rw [Kd.t]; rfl
   have main:∀ acc:List T,acc.length<=1000->∃ a' b',ju (Zd (ap1 Z0 (vB 1))) (zw 4) (llB (S_c n 0)) [.vl (mt k.t lo hi), .vl (.tup xs), .un, .ow acc, .un, .un]= .nx [.vl (mt k.t lo hi), .vl (.tup xs), .un, .ow (acc++((List.range xs.length).flatMap (Vy (List.replicate xs.length k) xs)).map T.tup),a',b']:=fun acc ha=>by
    obtain ⟨a',b',hL⟩:=UE (c:=S_c n 0) (K:=mt k.t lo hi) (u:= .un) (ks:=List.replicate xs.length k) (xs:=xs) (fun i k' acc b hk=>by
      obtain rfl:=(List.mem_replicate.mp (Zh hk)).2
      unfold ll5
      rw [yk (by rw [cs0]; rfl),wO]) hl (by simp)
      (fun i k' x a b=>by
       obtain rfl:=(List.mem_replicate.mp (Zh a)).2
       exact ⟨ih k' x h.2.2 (hs.2 i k' x a b),jx (by omega) h.2.2 (hs.2 i k' x a b)⟩) (List.range xs.length) acc .un .un (fun j hj=>List.mem_range.mp hj) (by simp; omega)
    refine ⟨a',b', ?_⟩
    unfold ju
    rw [vR (xs:=xs) rfl (by omega),Za,Qe]; exact hL
   have s1:U1 3 zg [.vl (mt k.t lo hi), .vl (.tup xs), .un, .un, .un, .un]= .nx [.vl (mt k.t lo hi), .vl (.tup xs), .un, .ow [], .un, .un]:=rfl
   have et:wa (zx eqC (ze ixT (vE 0) (cE (.int 0))) (cE (.str "many"))) (zx gtC (ap1 Z0 (vB 1)) (ze ixT (vE 0) (cE (.int 2)))) [.vl (mt k.t lo hi), .vl (.tup xs), .un, .ow [], .un, .un]= .ok (decide ((xs.length:Int) > (lo:Int))):=by
    rw [JP,cs0,bOk,beq_self_eq_true,if_pos rfl,zL,Zn,w1,bOk,ZU,bOk,y6,bOk]; rfl
   rw [e,b_c,zk (jh (by rw [in2]; rfl)),zk s1]
   by_cases hlo:xs.length=lo
   ·obtain ⟨a',b',hm⟩:=main [] (by simp)
    rw [zk (jh (by rw [et,decide_eq_false (by omega)])),zk hm,zR (t:= .lst ((Kd.many k lo hi).less (.tup xs)))]
    ·rfl
    ·simp only [Kd.less,if_pos hlo,Zy,yl]; rfl
   ·obtain ⟨a',b',hm⟩:=main ((shl xs).map T.tup) (by unfold shl; simp; omega)
    have s2:vm 3 (Zd (ap1 Z0 (vB 1))) (zw 0) (Zc) (ze zt (slE (vE 1) (noO) (zU (vE 0))) (slE (vE 1) (zU (ze zt (vE 0) (cE (.int 1)))) (noO))) 1 [1] [.vl (mt k.t lo hi), .vl (.tup xs), .un, .ow [], .un, .un]= .nx [.vl (mt k.t lo hi), .vl (.tup xs), .un, .ow ((shl xs).map T.tup), .un, .un]:=by
     have em:zG (zw 0) Zc (ze zt (slE (vE 1) (noO) (zU (vE 0))) (slE (vE 1) (zU (ze zt (vE 0) (cE (.int 1)))) (noO))) 1 [1] [.vl (mt k.t lo hi), .vl (.tup xs), .un, .ow [], .un, .un] (rng 0 xs.length)= .ok ((rng 0 xs.length).map fun t=>match t with | .int i=> .tup (xs.take i.toNat++xs.drop (i.toNat+1)) | y=>y):=
      zX _ (by rw [Wk]; omega) fun t ht=>by
       obtain ⟨i,hi',rfl⟩:=WX ht
       exact yj (fx:=vE 1) (fi:=vE 0) (xs:=xs) (i:=i) rfl rfl hi' (by omega)
     have em2:((rng 0 xs.length).map fun t=>match t with | .int i=>T.tup (xs.take i.toNat++xs.drop (i.toNat+1)) | y=>y)=(shl xs).map T.tup:=by
      rw [Qe,List.map_map]; unfold shl; rw [List.map_map]; exact List.map_congr_left fun i _=>rfl
     unfold vm
     rw [vR (xs:=xs) rfl (by omega),Za,em,Za,em2]; rfl
    rw [zk ((Y3 (by rw [et,decide_eq_true (by omega)])).trans s2),zk hm,zR (t:= .lst ((Kd.many k lo hi).less (.tup xs)))]
    ·rfl
    ·simp only [Kd.less,if_neg hlo,Zy,yl]; rfl
theorem yu:∀ (ls made:List (List T)) (m:Nat),(∀ l∈ls,l.Pairwise (fun a b=>a ≠ b))->made.Pairwise (fun a b=>a ≠ b)->(∀ a∈made,a.length=m)->(JS made ls).Pairwise (fun a b=>a ≠ b)
 | [],made,m,_,h,_=>by rw [JS]; exact h
 | l :: ls,made,m,hl,h,hm=>by
  rw [JS]
  refine yu ls _ (m+1) (fun q hq=>hl q (List.mem_cons_of_mem _ hq)) ?_ ?_
  ·rw [List.pairwise_flatMap]
   refine ⟨fun a ha=> ?_,List.Pairwise.imp_of_mem (fun {a b} ha hb hab=> ?_) h⟩
   ·rw [List.pairwise_map]
    exact List.Pairwise.imp (fun hxy e=>hxy (by have:=List.append_cancel_left e; injection this)) (hl l List.mem_cons_self)
   ·intro x hx y hy e
    obtain ⟨u,_,rfl⟩:=List.mem_map.mp hx
    obtain ⟨v,_,rfl⟩:=List.mem_map.mp hy
    exact hab (List.append_inj e (by rw [hm a ha,hm b hb])).1
  ·intro a ha
   obtain ⟨b,hb,hx⟩:=List.mem_flatMap.mp ha
   obtain ⟨u,_,rfl⟩:=List.mem_map.mp hx
   rw [List.length_append,hm b hb]; rfl
theorem Qo {ls:List (List T)} (h:∀ l∈ls,l.Pairwise (fun a b=>a ≠ b)):(uF ls).Pairwise (fun a b=>a ≠ b):=by
 unfold uF
 rw [List.pairwise_map]
 refine List.Pairwise.imp (fun hab e=>hab (by injection e)) (yu ls [[]] 0 h (by simp) (by simp))
theorem Qp:∀ (d:Nat) (k:Kd),k.Ok d->k.all.Pairwise (fun a b=>a ≠ b)
 | 0,_,h=>h.elim
 | d+1, .whole lo hi,h=>by
  rw [UD,List.pairwise_map]
  exact List.Pairwise.imp (fun hab e=>hab (by injection e)) yn
 | d+1, .pick cs,h=>by rw [uT]; exact yr h.2.2.2
 | d+1, .row ks,h=>by
  rw [Kd.all,Kd.alls_map]
  refine Qo fun l hl=> ?_
  obtain ⟨k,hk,rfl⟩:=List.mem_map.mp hl
  exact Qp d k (h.2.2 k hk)
 | d+1, .many k lo hi,h=>by
  rw [Kd.all,List.pairwise_flatMap]
  refine ⟨fun i hi=>Qo fun l hl=> ?_,List.Pairwise.imp (fun {i j} hij=> ?_) (List.nodup_range (n:=hi+1 - lo))⟩
  ·obtain rfl:=(List.mem_replicate.mp hl).2
   exact Qp d k h.2.2
  ·intro x hx y hy e
   obtain ⟨xs,h1,rfl⟩:=(JD _ _).mp hx
   obtain ⟨ys,h2,rfl⟩:=(JD _ _).mp hy
   have e:xs=ys:=by injection e
   subst e
   have a:=((JE _ _ _).mp h1).1
   have b:=((JE _ _ _).mp h2).1
   omega
theorem Qq {B:Int}:∀ (ks:List Kd) (xs:List T),(∀ (i:Nat) (k:Kd) (x:T),ks[i]? =some k->xs[i]? =some x->k.wt x<=B)->0<=B->wtz (ks.map Kd.wt) xs<=(xs.length:Int)*B
 | [],xs,_,h0=>by
  simp only [List.map_nil,wtz]; exact Int.mul_nonneg (by omega) h0
 | k :: ks,[],_,h0=>by simp [wtz]
 | k :: ks,x :: xs,h,h0=>by
  have a:=h 0 k x rfl rfl
  have b:=Qq ks xs (fun i k' x' p q=>h (i+1) k' x' (by simpa using p) (by simpa using q)) h0
  simp only [List.map_cons,wtz,List.length_cons]
  rw [show ((xs.length+1:Nat):Int)=(xs.length:Int)+1 by omega,Int.add_mul]; omega
theorem Xm:∀ (d:Nat) (k:Kd) (x:T),k.Ok d->k.has x=true->k.wt x<=40*((4 ^ d:Nat):Int)
 | 0,_,_,h,_=>h.elim
 | d+1, .whole lo hi,x,h,hx=>by
  have h4:1<=4 ^ (d+1):=Nat.pos_of_ne_zero (by simp)
  simp only [Kd.has] at hx
  obtain ⟨i,rfl,hi'⟩:=ZR.mp hx
  obtain ⟨n1,n2⟩:=wS h.2.1
  obtain ⟨a,_,b⟩:=h
  simp only [Kd.wt,jH]
  split <;> omega
 | d+1, .pick cs,x,h,hx=>by
  have h4:1<=4 ^ (d+1):=Nat.pos_of_ne_zero (by simp)
  obtain ⟨w,rfl,hw⟩:=ZA.mp hx
  have:=Wi hw
  rw [List.length_map] at this
  have:=h.2.1
  simp only [Kd.wt]; omega
 | d+1, .row ks,x,h,hx=>by
  have h4:1<=4 ^ d:=Nat.pos_of_ne_zero (by simp)
  obtain ⟨xs,rfl,hs⟩:=jj hx
  simp only [Kd.wt,Kd.wtF_map]
  have hl:xs.length<=3:=by rw [hs.1]; exact h.2.1
  have a:=Qq (B:=40*((4 ^ d:Nat):Int)) ks xs (fun i k x p q=>Xm d k x (h.2.2 k (Zh p)) (hs.2 i k x p q)) (by omega)
  have b:(xs.length:Int)*(40*((4 ^ d:Nat):Int))<=3*(40*((4 ^ d:Nat):Int)):=Int.mul_le_mul_of_nonneg_right (by omega) (by omega)
  rw [Nat.pow_succ]; omega
 | d+1, .many k lo hi,x,h,hx=>by
  have h4:1<=4 ^ d:=Nat.pos_of_ne_zero (by simp)
  obtain ⟨xs,rfl,h1,h2,hs⟩:=ZS hx
  simp only [Kd.wt,Zy]
  have hl:xs.length<=3:=Nat.le_trans h2 h.2.1
  have a:=Qq (B:=40*((4 ^ d:Nat):Int)) (List.replicate xs.length k) xs (fun i k' x p q=>by
   obtain rfl:=(List.mem_replicate.mp (Zh p)).2
   exact Xm d k' x h.2.2 (hs.2 i k' x p q)) (by omega)
  have b:(xs.length:Int)*(40*((4 ^ d:Nat):Int))<=3*(40*((4 ^ d:Nat):Int)):=Int.mul_le_mul_of_nonneg_right (by omega) (by omega)
  rw [Nat.pow_succ]; omega
theorem fosl {k:Kd} (h:k.Ok 3) {x:T} (hx:k.has x=true):f_i 20 [k.t,x]= .ok (.lst (k.less x)):=Vz 3 20 (by omega) (by omega) k x h hx
theorem fww {k:Kd} (h:k.Ok 3) {x:T} (hx:k.has x=true):f_j 20 [k.t,x]= .ok (.int (k.wt x)):=Kj 3 20 (by omega) k x h hx
theorem uV {k:Kd} (hk:k.Ok 3) {x:T} (hx:k.has x=true):f_3 [k.t,x]= .ok (.lst (k.less x)):=by
 show zo (b_3 f_o (f_i 20) (en2 k.t x))=_
 rw [b_3,zk (Q3 (t:= .non) (by rw [Z3,v0,bOk,v1,bOk,jC hk,if_pos hx])),zR (t:= .lst (k.less x))]
 ·rfl
 ·show zc _ _ _ (en2 k.t x)=_
  rw [Z3,v0,bOk,v1,bOk,fosl hk hx]
theorem jX {k:Kd} (hk:k.Ok 3) {x:T} (hx:k.has x=true):f_1 [k.t,x]= .ok (.int (k.wt x)):=by
 show zo (b_1 f_o (f_j 20) (en2 k.t x))=_
 rw [b_1,zk (Q3 (t:= .non) (by rw [Z3,v0,bOk,v1,bOk,jC hk,if_pos hx])),zR (t:= .int (k.wt x))]
 ·rfl
 ·show zc _ _ _ (en2 k.t x)=_
  rw [Z3,v0,bOk,v1,bOk,fww hk hx]
theorem Qr {t x:T} {c:Nat} (h:f_o [t,x]= .ex c):f_3 [t,x]= .ex c:=by
 show zo (b_3 f_o (f_i 20) (en2 t x))=_
 rw [b_3,qZ (Q4 (c:=c) (by rw [Z3,v0,bOk,v1,bOk,h]))]; rfl
theorem Qs {t x:T} {c:Nat} (h:f_o [t,x]= .ex c):f_1 [t,x]= .ex c:=by
 show zo (b_1 f_o (f_j 20) (en2 t x))=_
 rw [b_1,qZ (Q4 (c:=c) (by rw [Z3,v0,bOk,v1,bOk,h]))]; rfl
abbrev trB:En->RS:=zJ 4 (ifE (zx eqC (vB 0) (cE (.int 0))) (zc 2 f_3 (z9 (vE 1) (z9 (vE 2) (zg)))) (zc 2 f_1 (z9 (vE 1) (z9 (vE 2) (zg)))))
theorem uW {w t x v:T} (h:trB (en6 w t x .non)= .nx (en6 w t x v)):f_l [w,t,x]= .ok v:=by
 show zo (b_l f_8 f_1 f_3 [.vl w, .vl t, .vl x, .un, .un, .un])=_
 have e1:zJ 3 (cE .non) [.vl w, .vl t, .vl x, .un, .un, .un]= .nx [.vl w, .vl t, .vl x, .vl .non, .un, .un]:=rfl
 have e2:zJ 4 (cE .non) [.vl w, .vl t, .vl x, .vl .non, .un, .un]= .nx (en6 w t x .non):=rfl
 have e3:xx 3 okX trB (en6 w t x .non)= .nx (en6 w t x v):=by unfold xx; rw [h]
 have e4:kG 3 (en6 w t x v)= .ok true:=rfl
 rw [b_l,zk e1,zk e2,zk e3,ZQ (t:=v)]
 ·rfl
 ·rw [Y3 e4]; rfl
theorem uX {w t x:T} {c:Nat} (hc:okX c=true) (h:trB (en6 w t x .non)= .ex c):f_l [w,t,x]=f_8 c:=by
 show zo (b_l f_8 f_1 f_3 [.vl w, .vl t, .vl x, .un, .un, .un])=_
 have e1:zJ 3 (cE .non) [.vl w, .vl t, .vl x, .un, .un, .un]= .nx [.vl w, .vl t, .vl x, .vl .non, .un, .un]:=rfl
 have e2:zJ 4 (cE .non) [.vl w, .vl t, .vl x, .vl .non, .un, .un]= .nx (en6 w t x .non):=rfl
 have e3:xx 3 okX trB (en6 w t x .non)= .nx [.un, .un, .un, .xc c, .un, .un]:=by unfold xx; rw [h]; dsimp only; rw [if_pos hc]; rfl
 have e4:kG 3 [.un, .un, .un, .xc c, .un, .un]= .ok false:=rfl
 rw [b_l,zk e1,zk e2,zk e3,zk (jh e4)]
 show zo ((f_8 c).s fun t=> .rt t)=_
 rw [j6]
theorem tr_0 {t x:T}:ifE (zx eqC (vB 0) (cE (.int 0))) (zc 2 f_3 (z9 (vE 1) (z9 (vE 2) (zg)))) (zc 2 f_1 (z9 (vE 1) (z9 (vE 2) (zg)))) (en6 (.int 0) t x .non)=f_3 [t,x]:=by
 rw [Gh (Vt true rfl),Z3,v1,bOk,v2,bOk]
theorem tr_1 {t x:T}:ifE (zx eqC (vB 0) (cE (.int 0))) (zc 2 f_3 (z9 (vE 1) (z9 (vE 2) (zg)))) (zc 2 f_1 (z9 (vE 1) (z9 (vE 2) (zg)))) (en6 (.int 1) t x .non)=f_1 [t,x]:=by
 rw [Gi (Vt false rfl),Z3,v1,bOk,v2,bOk]
theorem Xn {k:Kd} (hk:k.Ok 3) {x:T} (hx:k.has x=true):f_l [.int 0,k.t,x]= .ok (.lst (k.less x)):=uW (set4 (by rw [tr_0,uV hk hx]))
theorem Xo {k:Kd} (hk:k.Ok 3) {x:T} (hx:k.has x=true):f_l [.int 1,k.t,x]= .ok (.int (k.wt x)):=uW (set4 (by rw [tr_1,jX hk hx]))
theorem Qt {t x:T} {c:Nat} (hc:okX c=true) (h:f_o [t,x]= .ex c) (j:Nat) (hj:j < 2):f_l [.int (j:Int),t,x]=f_8 c:=by
 match j,hj with
 | 0,_=>exact uX hc (Vu (by show ifE _ _ _ (en6 (.int 0) t x .non)=_; rw [tr_0,Qr h]))
 | 1,_=>exact uX hc (Vu (by show ifE _ _ _ (en6 (.int 1) t x .non)=_; rw [tr_1,Qs h]))
theorem vV {k:Kd} (hk:k.Ok 3) {x:T} (hx:k.has x=false) (j:Nat) (hj:j < 2):f_l [.int (j:Int),k.t,x]= .ok (.str "no worth"):=by
 rw [Qt (c:=1) (by decide) (by rw [jC hk,hx,if_neg Bool.false_ne_true]) j hj,Gg]
theorem vW {t:T} (ht:sOk t) (hi:isK 3 t=false) (x:T) (j:Nat) (hj:j < 2):f_l [.int (j:Int),t,x]= .ok (.str "no kind"):=by
 rw [Qt (c:=0) (by decide) (WR ht hi x) j hj,Gf]
abbrev enX (ns:List Int) (k:Kd) (L:List T) (d e f g h i j:Sl):En:=[.vl (scr ns), .vl k.t, .vl (.lst k.all), .vl (.lst L),d,e,f,g,h,i,j]
theorem Qu (l:List T):neC (.lst l) (.lst [])= .ok (!l.isEmpty):=by cases l <;> rfl
abbrev wT:En->R Bool:=zx neC (vB 6) (ZD (zg))
abbrev wB:En->RS:=(zz (zJ 5 (ze ixT (vE 6) (zc 3 f_4 (z9 (vE 0) (z9 (ze zt (cE (.int 4100)) (vE 8)) (z9 (ap1 Z0 (vB 6)) (zg)))))))
  (zz (zJ 8 (ze zt (vE 8) (cE (.int 1))))
  (zJ 6 (zc 2 f_3 (z9 (vE 1) (z9 (vE 5) (zg)))))))
section
variable {ns:List Int} {k:Kd} {L:List T} {d e f g h i j:Sl} {t:T}
theorem xw2:vB 2 (enX ns k L d e f g h i j)= .ok (.lst k.all):=rfl
theorem xv0:vE 0 (enX ns k L d e f g h i j)= .ok (scr ns):=rfl
theorem xv1:vE 1 (enX ns k L d e f g h i j)= .ok k.t:=rfl
theorem xv2:vE 2 (enX ns k L d e f g h i j)= .ok (.lst k.all):=rfl
theorem xw3:vB 3 (enX ns k L d e f g h i j)= .ok (.lst L):=rfl
theorem xv5:vE 5 (enX ns k L d (.vl t) f g h i j)= .ok t:=rfl
theorem xv6:vE 6 (enX ns k L d e (.vl t) g h i j)= .ok t:=rfl
theorem xw6:vB 6 (enX ns k L d e (.vl t) g h i j)= .ok t:=rfl
theorem xw7:vB 7 (enX ns k L d e f (.vl t) h i j)= .ok t:=rfl
theorem xv8:vE 8 (enX ns k L d e f g (.vl t) i j)= .ok t:=rfl
theorem xv4:vE 4 (enX ns k L (.vl t) e f g h i j)= .ok t:=rfl
theorem xw9:vB 9 (enX ns k L d e f g h (.vl t) j)= .ok t:=rfl
end
theorem Xp (ns:List Int) {k:Kd} (hk:k.Ok 3) (L:List T) (d g i j:Sl) {x:T} (hx:k.has x=true) (hne:k.less x ≠ []) (m:Nat):∃ y,y∈k.less x/\wB (enX ns k L d (.vl x) (.vl (.lst (k.less x))) g (.vl (.int (m:Int))) i j)= .nx (enX ns k L d (.vl y) (.vl (.lst (k.less y))) g (.vl (.int ((m+1:Nat):Int))) i j):=by
 have hpos:0 < (k.less x).length:=List.length_pos_iff.mpr hne
 obtain ⟨q,hq,q0,q1⟩:=Ze ns (4100+(m:Int)) ((k.less x).length:Int) (by omega) (by omega)
 obtain ⟨y,hy,hm⟩:=ixl (xs:=k.less x) q0 q1
 have hyk:=((lss 3 k hk).dn x y hx hm).1
 refine ⟨y,hm, ?_⟩
 have e1:zJ 5 (ze ixT (vE 6) (zc 3 f_4 (z9 (vE 0) (z9 (ze zt (cE (.int 4100)) (vE 8)) (z9 (ap1 Z0 (vB 6)) (zg)))))) (enX ns k L d (.vl x) (.vl (.lst (k.less x))) g (.vl (.int (m:Int))) i j)= .nx (enX ns k L d (.vl y) (.vl (.lst (k.less x))) g (.vl (.int (m:Int))) i j):=by
  rw [zV (t:=y)]
  ·rfl
  ·rw [zl,xv6,bOk,Zq,xv0,bOk,zl,Zg,bOk,xv8,bOk,Zl,bOk,Zn,xw6,bOk,yT,bOk,hq,bOk,hy]
 have e2:zJ 8 (ze zt (vE 8) (cE (.int 1))) (enX ns k L d (.vl y) (.vl (.lst (k.less x))) g (.vl (.int (m:Int))) i j)= .nx (enX ns k L d (.vl y) (.vl (.lst (k.less x))) g (.vl (.int ((m+1:Nat):Int))) i j):=by
  rw [zV (t:= .int ((m+1:Nat):Int))]
  ·rfl
  ·rw [Ut xv8]; rfl
 have e3:zJ 6 (zc 2 f_3 (z9 (vE 1) (z9 (vE 5) (zg)))) (enX ns k L d (.vl y) (.vl (.lst (k.less x))) g (.vl (.int ((m+1:Nat):Int))) i j)= .nx (enX ns k L d (.vl y) (.vl (.lst (k.less y))) g (.vl (.int ((m+1:Nat):Int))) i j):=by
  rw [zV (t:= .lst (k.less y))]
  ·rfl
  ·rw [Z3,xv1,bOk,xv5,bOk,uV hk hyk]
 unfold wB
 rw [zk e1,zk e2,e3]
theorem Qv (ns:List Int) {k:Kd} (hk:k.Ok 3) (L:List T) (d g i j:Sl):∀ (n:Nat) (x:T) (m:Nat),k.has x=true->k.wt x < (n:Int)->
  ∃ z m',k.has z=true/\k.wt z=0/\jm wT wB n (enX ns k L d (.vl x) (.vl (.lst (k.less x))) g (.vl (.int ((m:Nat):Int))) i j)= .nx (enX ns k L d (.vl z) (.vl (.lst [])) g (.vl (.int ((m' :Nat):Int))) i j)
 | 0,x,m,hx,h=>by have:=(lss 3 k hk).pos x hx; omega
 | n+1,x,m,hx,h=>by
  have et:wT (enX ns k L d (.vl x) (.vl (.lst (k.less x))) g (.vl (.int (m:Int))) i j)= .ok (!(k.less x).isEmpty):=by
   show zx neC (vB 6) (ZD zg) _=_
   rw [zL,xw6,bOk]
   show neC (.lst (k.less x)) (.lst [])=_
   rw [Qu]
  have eu:jm wT wB (n+1) (enX ns k L d (.vl x) (.vl (.lst (k.less x))) g (.vl (.int (m:Int))) i j)=(wT (enX ns k L d (.vl x) (.vl (.lst (k.less x))) g (.vl (.int (m:Int))) i j)).s fun k' =>if k' =true then match wB (enX ns k L d (.vl x) (.vl (.lst (k.less x))) g (.vl (.int (m:Int))) i j) with
    | .nx ρ2=>jm wT wB n ρ2
    | .ct ρ2=>jm wT wB n ρ2
    | .bk ρ2=> .nx ρ2
    | r=>r
   else .nx (enX ns k L d (.vl x) (.vl (.lst (k.less x))) g (.vl (.int (m:Int))) i j):=rfl
  by_cases hne:k.less x=[]
  ·refine ⟨x,m,hx, ?_, ?_⟩
   ·by_cases z:k.wt x=0
    ·exact z
    ·obtain ⟨y,hy,_⟩:=(lss 3 k hk).one x hx z
     rw [hne] at hy; cases hy
   ·rw [eu,et,Za,hne]; rfl
  ·obtain ⟨y,hy,hb⟩:=Xp ns hk L d g i j hx hne m
   obtain ⟨d1,d2⟩:=(lss 3 k hk).dn x y hx hy
   obtain ⟨z,m',z1,z2,z3⟩:=Qv ns hk L d g i j n y (m+1) d1 (by omega)
   refine ⟨z,m',z1,z2, ?_⟩
   rw [eu,et,Za,show (!(k.less x).isEmpty)=true by cases hh:k.less x with | nil=>exact absurd hh hne | cons _ _=>rfl,if_pos rfl,hb]
   exact z3
theorem Xq {k:Kd} (hk:k.Ok 3) {x:T} (hx:k.has x=true):Pl 30 (.lst (k.less x)):=Pl.le (n:=4) (by omega) (fun y hy=>Y5 3 k y hk ((lss 3 k hk).dn x y hx hy).1)
theorem Kn {k:Kd} (hk:k.Ok 3) {x:T} (hx:k.has x=true):ul x (.lst k.all)= .ok false:=by
 obtain ⟨b,hb,hh⟩:=Q2 hk x
 cases b with
 | false=>exact hb
 | true=>rw [hh rfl] at hx; cases hx
theorem Qw {g:List T->R T} {ts:List T} {t:T} (h:g ts= .ok t):nex g ts= .ok t:=by unfold nex; rw [h]; rfl
theorem Gk {i j:Int}:geC (.int i) (.int j)= .ok (decide (i ≥ j)):=rfl
abbrev fB:En->RS:=zz (zJ 5 (ze ixT (vE 2) (zc 3 f_4 (z9 (vE 0) (z9 (ze zt (cE (.int 4000)) (vE 4)) (z9 (ap1 Z0 (vB 2)) (zg)))))))
  (zz (zJ 6 (zc 2 (f_c 8) (z9 (vE 1) (z9 (vE 5) (zg)))))
  (zz (ifS (orT (zx neC (zc 3 f_l (z9 (cE (.int 0)) (z9 (vE 1) (z9 (vE 5) (zg))))) (vB 6)) (zx neC (zc 3 f_l (z9 (cE (.int 1)) (z9 (vE 1) (z9 (vE 5) (zg))))) (zc 2 (f_6 8) (z9 (vE 1) (z9 (vE 5) (zg)))))) (zN (cE (.bl false))) (nxS))
  (zz (ifS (zx neC (zQ (ZW (vE 6)) (zw 0) (orT (zx ul (vB 0) (vB 2)) (zx geC (zc 2 (nex f_1) (z9 (vE 1) (z9 (vE 0) (zg)))) (zc 2 (nex f_1) (z9 (vE 1) (z9 (vE 3) (zg)))))) (vE 0) 1 [1,2,5]) (ZD (zg))) (zN (cE (.bl false))) (nxS))
  (zz (zJ 7 (zQ (ZW (vE 6)) (zw 0) (Zc) (zc 2 (nex f_1) (z9 (vE 1) (z9 (vE 0) (zg)))) 1 [1]))
  (zz (ifS (wa (zx neC (vB 6) (ZD (zg))) (zx neC (ap1 yR (vB 7)) (ze jK (zc 2 f_1 (z9 (vE 1) (z9 (vE 5) (zg)))) (cE (.int 1))))) (zN (cE (.bl false))) (nxS))
  (zz (zJ 8 (cE (.int 0)))
  (zz (jm wT wB 1000000)
  (ifS (zx neC (ZD (z9 (vE 5) (zg))) (vB 3)) (zN (cE (.bl false))) (nxS)))))))))
theorem Ko (ns:List Int) {k:Kd} (hk:k.Ok 3) {L:List T} (hL:L=k.all.filter fun x=>k.wt x == 0) (n:Nat) (e f g h i j:Sl):∃ e' f' g' h',fB (enX ns k L (.vl (.int (n:Int))) e f g h i j)= .nx (enX ns k L (.vl (.int (n:Int))) e' f' g' h' i j):=by
 have hb1:bnd=16777216:=rfl
 have hpos:=Jn 3 k hk
 obtain ⟨q,hq,q0,q1⟩:=Ze ns (4000+(n:Int)) (k.all.length:Int) (by omega) (by omega)
 obtain ⟨x,hxq,hm⟩:=ixl (xs:=k.all) q0 q1
 have hx:=(ji k x).mp hm
 have S:=lss 3 k hk
 have hl1:=jx (by omega) hk hx
 have hwle:=Xm 3 k x hk hx
 obtain ⟨z,m',z1,z2,z3⟩:=Qv ns hk L (.vl (.int (n:Int))) (.vl (.lst ((k.less x).map fun y=>T.int (k.wt y)))) i j 1000000 x 0 hx (by omega)
 have hLz:L=[z]:=by
  rw [hL]
  exact Ja (Qp 3 k hk) ((ji k z).mpr z1) (by rw [z2]; rfl) fun y hy hp=>S.uniq y z ((ji k y).mp hy) z1 (beq_iff_eq.mp hp) z2
 have e1:zJ 5 (ze ixT (vE 2) (zc 3 f_4 (z9 (vE 0) (z9 (ze zt (cE (.int 4000)) (vE 4)) (z9 (ap1 Z0 (vB 2)) (zg)))))) (enX ns k L (.vl (.int (n:Int))) e f g h i j)= .nx (enX ns k L (.vl (.int (n:Int))) (.vl x) f g h i j):=by
  rw [zV (t:=x)]
  ·rfl
  ·rw [zl,xv2,bOk,Zq,xv0,bOk,zl,Zg,bOk,xv4,bOk,Zl,bOk,Zn,xw2,bOk,yT,bOk,hq,bOk,hxq]
 have hll:f_c 8 [k.t,x]= .ok (.lst (k.less x)):=Qn 3 8 (by omega) (by omega) k x hk hx
 have e2:zJ 6 (zc 2 (f_c 8) (z9 (vE 1) (z9 (vE 5) (zg)))) (enX ns k L (.vl (.int (n:Int))) (.vl x) f g h i j)= .nx (enX ns k L (.vl (.int (n:Int))) (.vl x) (.vl (.lst (k.less x))) g h i j):=by
  rw [zV (t:= .lst (k.less x))]
  ·rfl
  ·rw [Z3,xv1,bOk,xv5,bOk,hll]
 have t3:orT (zx neC (zc 3 f_l (z9 (cE (.int 0)) (z9 (vE 1) (z9 (vE 5) (zg))))) (vB 6)) (zx neC (zc 3 f_l (z9 (cE (.int 1)) (z9 (vE 1) (z9 (vE 5) (zg))))) (zc 2 (f_6 8) (z9 (vE 1) (z9 (vE 5) (zg))))) (enX ns k L (.vl (.int (n:Int))) (.vl x) (.vl (.lst (k.less x))) g h i j)= .ok false:=by
  rw [Uh,zL,Zq,Zg,bOk,xv1,bOk,xv5,bOk,Xn hk hx,bOk,xw6,bOk,Q1 (Xq hk hx),bOk,if_neg Bool.false_ne_true,zL,Zq,Zg,bOk,xv1,bOk,xv5,bOk,Xo hk hx,bOk,Z3,xv1,bOk,xv5,bOk,yt (d:=3) (by omega) hk hx,bOk,Kh]
 have c4:zG (zw 0) (orT (zx ul (vB 0) (vB 2)) (zx geC (zc 2 (nex f_1) (z9 (vE 1) (z9 (vE 0) (zg)))) (zc 2 (nex f_1) (z9 (vE 1) (z9 (vE 3) (zg)))))) (vE 0) 1 [1,2,5] (enX ns k L (.vl (.int (n:Int))) (.vl x) (.vl (.lst (k.less x))) g h i j) (k.less x)= .ok (((k.less x).filter fun _=>false).map id):=
  jy _ (by omega) fun y hy=>by
   obtain ⟨d1,d2⟩:=S.dn x y hx hy
   refine ⟨?_,fun z=>nomatch z⟩
   show orT _ _ [.vl y, .vl k.t, .vl (.lst k.all), .vl x]=_
   rw [Uh,zL,w0,bOk,w2,bOk,Kn hk d1,bOk,if_neg Bool.false_ne_true,zL,Z3,v1,bOk,v0,bOk,Qw (jX hk d1),bOk,Z3,v1,bOk,v3,bOk,Qw (jX hk hx),bOk,Gk,decide_eq_false (by omega)]
 have t4:zx neC (zQ (ZW (vE 6)) (zw 0) (orT (zx ul (vB 0) (vB 2)) (zx geC (zc 2 (nex f_1) (z9 (vE 1) (z9 (vE 0) (zg)))) (zc 2 (nex f_1) (z9 (vE 1) (z9 (vE 3) (zg)))))) (vE 0) 1 [1,2,5]) (ZD (zg)) (enX ns k L (.vl (.int (n:Int))) (.vl x) (.vl (.lst (k.less x))) g h i j)= .ok false:=by
  rw [zL,zI,ZP,xv6,bOk]
  show (R.bind (R.bind (R.ok (k.less x)) _) _)=_
  rw [bOk,c4,bOk,bOk,UB (p:=fun _=>false) (fun _ _=>Bool.false_ne_true)]
  rfl
 have c5:zG (zw 0) Zc (zc 2 (nex f_1) (z9 (vE 1) (z9 (vE 0) (zg)))) 1 [1] (enX ns k L (.vl (.int (n:Int))) (.vl x) (.vl (.lst (k.less x))) g h i j) (k.less x)= .ok ((k.less x).map fun y=>T.int (k.wt y)):=
  zX _ (by omega) fun y hy=>by
   show zc _ _ _ [.vl y, .vl k.t]=_
   rw [Z3,v1,bOk,v0,bOk,Qw (jX hk (S.dn x y hx hy).1)]
 have e5:zJ 7 (zQ (ZW (vE 6)) (zw 0) (Zc) (zc 2 (nex f_1) (z9 (vE 1) (z9 (vE 0) (zg)))) 1 [1]) (enX ns k L (.vl (.int (n:Int))) (.vl x) (.vl (.lst (k.less x))) g h i j)= .nx (enX ns k L (.vl (.int (n:Int))) (.vl x) (.vl (.lst (k.less x))) (.vl (.lst ((k.less x).map fun y=>T.int (k.wt y)))) h i j):=by
  rw [zV (t:= .lst ((k.less x).map fun y=>T.int (k.wt y)))]
  ·rfl
  ·rw [zI,ZP,xv6,bOk]
   show (R.bind (R.ok (k.less x)) _)=_
   rw [bOk,c5,bOk]
 have t6:wa (zx neC (vB 6) (ZD (zg))) (zx neC (ap1 yR (vB 7)) (ze jK (zc 2 f_1 (z9 (vE 1) (z9 (vE 5) (zg)))) (cE (.int 1)))) (enX ns k L (.vl (.int (n:Int))) (.vl x) (.vl (.lst (k.less x))) (.vl (.lst ((k.less x).map fun y=>T.int (k.wt y)))) h i j)= .ok false:=by
  have ee:zx neC (vB 6) (ZD (zg)) (enX ns k L (.vl (.int (n:Int))) (.vl x) (.vl (.lst (k.less x))) (.vl (.lst ((k.less x).map fun y=>T.int (k.wt y)))) h i j)= .ok (!(k.less x).isEmpty):=by
   rw [zL,xw6,bOk]
   show neC (.lst (k.less x)) (.lst [])=_
   rw [Qu]
  rw [JP,ee,bOk]
  by_cases hne:k.less x=[]
  ·rw [hne]; rfl
  ·obtain ⟨y0,hy0⟩:=List.exists_mem_of_ne_nil _ hne
   have hw0:k.wt x ≠ 0:=by have:=S.dn x y0 hx hy0; have:=S.pos y0 this.1; omega
   have em:yR (.lst ((k.less x).map fun y=>T.int (k.wt y)))= .ok (.int (k.wt x - 1)):=Xk (S.one x hx hw0) fun a ha=>by have:=S.dn x a hx ha; omega
   rw [show (!(k.less x).isEmpty)=true by cases hh:k.less x with | nil=>exact absurd hh hne | cons _ _=>rfl,if_pos rfl,zL,Zn,xw7,bOk,em,bOk,zl,Z3,xv1,bOk,xv5,bOk,jX hk hx,bOk,Zg,bOk,jn,bOk,Kh]
 have e7:zJ 8 (cE (.int 0)) (enX ns k L (.vl (.int (n:Int))) (.vl x) (.vl (.lst (k.less x))) (.vl (.lst ((k.less x).map fun y=>T.int (k.wt y)))) h i j)= .nx (enX ns k L (.vl (.int (n:Int))) (.vl x) (.vl (.lst (k.less x))) (.vl (.lst ((k.less x).map fun y=>T.int (k.wt y)))) (.vl (.int ((0:Nat):Int))) i j):=rfl
 have t9:zx neC (ZD (z9 (vE 5) (zg))) (vB 3) (enX ns k L (.vl (.int (n:Int))) (.vl z) (.vl (.lst [])) (.vl (.lst ((k.less x).map fun y=>T.int (k.wt y)))) (.vl (.int (m' :Int))) i j)= .ok false:=by
  rw [zL,X9 xv5,bOk,xw3,bOk,hLz]
  exact Q1 (Pl.le (n:=4) (by omega) (fun y hy=>by rw [List.mem_singleton.mp hy]; exact Y5 3 k z hk z1))
 refine ⟨.vl z, .vl (.lst []), .vl (.lst ((k.less x).map fun y=>T.int (k.wt y))), .vl (.int (m' :Int)), ?_⟩
 unfold fB
 rw [zk e1,zk e2,zk (jh t3),zk (jh t4),zk e5,zk (jh t6),zk e7,zk z3,jh t9]
theorem VA (ns:List Int) {k:Kd} (hk:k.Ok 3) {L:List T} (hL:L=k.all.filter fun x=>k.wt x == 0):∀ (js:List Nat) (d e f g h i j:Sl),∃ d' e' f' g' h',j5 (zw 4) fB (js.map fun (n:Nat)=>T.int (n:Int)) (enX ns k L d e f g h i j)= .nx (enX ns k L d' e' f' g' h' i j)
 | [],d,e,f,g,h,i,j=>⟨d,e,f,g,h,rfl⟩
 | n :: js,d,e,f,g,h,i,j=>by
  obtain ⟨e1,f1,g1,h1,hb⟩:=Ko ns hk hL n e f g h i j
  obtain ⟨d',e',f',g',h',ih⟩:=VA ns hk hL js (.vl (.int (n:Int))) e1 f1 g1 h1 i j
  exact ⟨d',e',f',g',h',by rw [List.map_cons,wP rfl hb,ih]⟩
theorem law_ok (ns:List Int) (h:ns.length<=63):f_0 [.fz (ns.map T.int)]= .ok (.bl true):=by
 have hb1:bnd=16777216:=rfl
 obtain ⟨k,hk,h60,hs⟩:=vK ns 0 (by omega) 60 (by omega)
 have hs:f_w [scr ns, .int 0, .int 60]= .ok k.t:=hs
 have hi:=ye 3 k hk
 have hpos:=Jn 3 k hk
 have ha:f_5 8 [k.t]= .ok (.lst k.all):=Ql (d:=3) (by omega) hk (by omega)
 obtain ⟨x0,hx0⟩:=Jh (show 0 < k.all.length by omega)
 have hx0' :=(ji k x0).mp (Zh hx0)
 obtain ⟨th,hth,hF0⟩:=uE ns 4300 (by omega) (by omega) (by decide) (wR 3 k x0 hk hx0')
 obtain ⟨r,hr,hF⟩:=uE ns 4400 (by omega) (by omega) (by decide) (wk 3 k.t hi)
 generalize hL:(k.all.filter fun x=>k.wt x == 0)=L
 have e:f_0 [.fz (ns.map T.int)]=zo (b_0 f_4 (f_5 8) f_w (f_b 12) f_r f_l f_1 f_3 (f_6 8) (f_c 8) [.vl (scr ns), .un, .un, .un, .un, .un, .un, .un, .un, .un, .un]):=rfl
 have e1:zJ 1 (zc 3 f_w (z9 (vE 0) (z9 (cE (.int 0)) (z9 (cE (.int 60)) (zg))))) [.vl (scr ns), .un, .un, .un, .un, .un, .un, .un, .un, .un, .un]= .nx [.vl (scr ns), .vl k.t, .un, .un, .un, .un, .un, .un, .un, .un, .un]:=by
  rw [zV (t:=k.t)]
  ·rfl
  ·rw [Zq,v0,bOk,Zg,bOk,Zg,bOk,hs]
 have e2:zJ 2 (zc 1 (f_5 8) (z9 (vE 1) (zg))) [.vl (scr ns), .vl k.t, .un, .un, .un, .un, .un, .un, .un, .un, .un]= .nx [.vl (scr ns), .vl k.t, .vl (.lst k.all), .un, .un, .un, .un, .un, .un, .un, .un]:=by
  rw [zV (t:= .lst k.all)]
  ·rfl
  ·rw [j1,v1,bOk,ha]
 have c3:zG (zw 0) (zx eqC (zc 2 (f_6 8) (z9 (vE 1) (z9 (vE 0) (zg)))) (cE (.int 0))) (vE 0) 1 [1] [.vl (scr ns), .vl k.t, .vl (.lst k.all), .un, .un, .un, .un, .un, .un, .un, .un] k.all= .ok ((k.all.filter fun x=>k.wt x == 0).map id):=
  jy _ (by omega) fun y hy=>by
   refine ⟨?_,fun _=>rfl⟩
   show zx _ _ _ [.vl y, .vl k.t]=_
   rw [zL,Z3,v1,bOk,v0,bOk,yt (d:=3) (by omega) hk ((ji k y).mp hy),bOk,Zg,bOk,eqI]
 have e3:zJ 3 (zQ (ZW (vE 2)) (zw 0) (zx eqC (zc 2 (f_6 8) (z9 (vE 1) (z9 (vE 0) (zg)))) (cE (.int 0))) (vE 0) 1 [1]) [.vl (scr ns), .vl k.t, .vl (.lst k.all), .un, .un, .un, .un, .un, .un, .un, .un]= .nx (enX ns k L .un .un .un .un .un .un .un):=by
  rw [zV (t:= .lst L)]
  ·rfl
  ·rw [zI]
   show (R.bind (R.ok k.all) _)=_
   rw [bOk,c3,bOk,List.map_id,hL]
 obtain ⟨d',e',f',g',h',hlp⟩:=VA ns hk hL.symm (List.range 6) .un .un .un .un .un .un .un
 have e4:ju (Zd (cE (.int 6))) (zw 4) fB (enX ns k L .un .un .un .un .un .un .un)= .nx (enX ns k L d' e' f' g' h' .un .un):=by
  unfold ju
  rw [Ux (j:=6) rfl (by decide),Za]
  show j5 (zw 4) fB (rng 0 6) _=_
  rw [Qe]; exact hlp
 have e5:zJ 9 (zc 3 f_r (z9 (vE 0) (z9 (cE (.int 4300)) (z9 (ze ixT (vE 2) (cE (.int 0))) (zg))))) (enX ns k L d' e' f' g' h' .un .un)= .nx (enX ns k L d' e' f' g' h' (.vl th) .un):=by
  rw [zV (t:=th)]
  ·rfl
  ·rw [Zq,xv0,bOk,Zg,bOk,zl,xv2,bOk,Zg,bOk,(show ixT (.lst k.all) (.int 0)= .ok x0 from UV (k:=0) hx0),bOk,hth]
 have ei2:∀ ρ:En,Zd (cE (.int 2)) ρ= .ok (rng 0 2):=fun ρ=>by rw [Ux (j:=2) rfl (by decide)]; rfl
 have t6:wa (zx ul (vB 9) (vB 2)) (zx neC (zQ (Zd (cE (.int 2))) (zw 0) (Zc) (zc 3 f_l (z9 (vE 0) (z9 (vE 1) (z9 (vE 2) (zg))))) 1 [1,9]) (ze Zi (ZD (z9 (cE (.str "no worth")) (zg))) (cE (.int 2)))) (enX ns k L d' e' f' g' h' (.vl th) .un)= .ok false:=by
  obtain ⟨b,hb,hh⟩:=Q2 hk th
  rw [JP,zL,xw9,bOk,xw2,bOk,hb,bOk]
  cases b with
  | false=>rfl
  | true=>
   have ec:zG (zw 0) Zc (zc 3 f_l (z9 (vE 0) (z9 (vE 1) (z9 (vE 2) (zg))))) 1 [1,9] (enX ns k L d' e' f' g' h' (.vl th) .un) (rng 0 2)= .ok ((rng 0 2).map fun _=>T.str "no worth"):=
    zX _ (by show 2<=bnd; decide) fun t ht=>by
     obtain ⟨j,hj,rfl⟩:=WX ht
     show zc 3 _ _ [.vl (.int (j:Int)), .vl k.t, .vl th]=_
     rw [Zq,v0,bOk,v1,bOk,v2,bOk,vV hk (hh rfl) j hj]
   rw [if_pos rfl,zL,zI,ei2,bOk,ec,bOk,bOk]
   rfl
 have e7:zJ 10 (zc 3 f_r (z9 (vE 0) (z9 (cE (.int 4400)) (z9 (vE 1) (zg))))) (enX ns k L d' e' f' g' h' (.vl th) .un)= .nx (enX ns k L d' e' f' g' h' (.vl th) (.vl r)):=by
  rw [zV (t:=r)]
  ·rfl
  ·rw [Zq,xv0,bOk,Zg,bOk,xv1,bOk,hr]
 have e8:orE (zc 2 (f_b 12) (z9 (vE 10) (z9 (cE (.int 3)) (zg)))) (w9 eqC (zQ (Zd (cE (.int 2))) (zw 0) (Zc) (zc 3 f_l (z9 (vE 0) (z9 (vE 1) (z9 (cE .non) (zg))))) 1 [10]) (ze Zi (ZD (z9 (cE (.str "no kind")) (zg))) (cE (.int 2)))) (frz (enX ns k L d' e' f' g' h' (.vl th) (.vl r)))= .ok (.bl true):=by
  have ek:zc 2 (f_b 12) (z9 (vE 10) (z9 (cE (.int 3)) (zg))) (frz (enX ns k L d' e' f' g' h' (.vl th) (.vl r)))= .ok (.bl (isK 3 r)):=by
   have z:vE 10 (frz (enX ns k L d' e' f' g' h' (.vl th) (.vl r)))= .ok r:=rfl
   rw [Z3,z,bOk,Zg,bOk,wZ r hF.1]
  unfold orE
  rw [ek,bOk]
  cases hkr:isK 3 r with
  | true=>rfl
  | false=>
   dsimp only
   have ec:zG (zw 0) Zc (zc 3 f_l (z9 (vE 0) (z9 (vE 1) (z9 (cE .non) (zg))))) 1 [10] (frz (enX ns k L d' e' f' g' h' (.vl th) (.vl r))) (rng 0 2)= .ok ((rng 0 2).map fun _=>T.str "no kind"):=
    zX _ (by show 2<=bnd; decide) fun t ht=>by
     obtain ⟨j,hj,rfl⟩:=WX ht
     show zc 3 _ _ (en2 (.int (j:Int)) r)=_
     rw [Zq,v0,bOk,v1,bOk,Zg,bOk,vW hF.1 hkr .non j hj]
   rw [jB,zI,ei2,bOk,ec,bOk,bOk]
   rfl
 rw [e,b_0,zk e1,zk e2,zk e3,zk e4,zk e5,zk (jh t6),zk e7,zR e8]
 rfl
end G
namespace G
open PySem PySem.Spec PyProof.Rows L2 PV
def top (i:Nat):Stmt:=PySem.Challenge.pw_worthkinds_k50_whole_lesser.main.body.getD i (.Pass ⟨0,0,0,0⟩)
abbrev s_1a:Stmt:=top 37
abbrev N_1a:List Str:=["_law_script","_law_k"]
theorem Gm:zp N_1a ["_law_script","_law_k"] (zf s_1a):=by refine ⟨rfl,rfl,rfl, ?_,rfl, ?_, ?_⟩ <;> decide+kernel
abbrev s_4:Stmt:=top 38
abbrev N_4:List Str:=["_law_script","_law_k","_law_many","_law_drawn"]
theorem sc_4:zp N_4 ["_law_script","_law_k","_law_many"] (zf s_4):=by refine ⟨rfl,rfl,rfl, ?_,rfl, ?_, ?_⟩ <;> decide+kernel
abbrev s_y:Stmt:=top 39
abbrev N_y:List Str:=["_law_script","_law_at_here","_law_letters"]
theorem sc_y:zp N_y ["_law_script","_law_at_here"] (zf s_y):=by refine ⟨rfl,rfl,rfl, ?_,rfl, ?_, ?_⟩ <;> decide+kernel
abbrev s_s:Stmt:=top 40
abbrev N_s:List Str:=["_law_script","_law_at_here","_law_low","_law_words","_law_k","_law_word_here"]
theorem XA:zp N_s ["_law_script","_law_at_here"] (zf s_s):=by refine ⟨rfl,rfl,rfl, ?_,rfl, ?_, ?_⟩ <;> decide+kernel
abbrev s_g:Stmt:=top 41
abbrev N_g:List Str:=["_law_script","_law_at_here","_law_deep","_law_way","_law_some","_law_low"]
theorem KS:zp N_g ["_law_script","_law_at_here","_law_deep"] (zf s_g):=by refine ⟨rfl,rfl,rfl, ?_,rfl, ?_, ?_⟩ <;> decide+kernel
abbrev s_f:Stmt:=top 43
abbrev N_f:List Str:=["_law_lists","_law_made","_law_some","_law_longer","_law_ahead"]
theorem XB:zp N_f ["_law_lists"] (zf s_f):=by refine ⟨rfl,rfl,rfl, ?_,rfl, ?_, ?_⟩ <;> decide+kernel
abbrev s_5:Stmt:=top 42
abbrev N_5:List Str:=["_law_kind_here","_law_made","_law_size_here"]
theorem Gn:zp N_5 ["_law_kind_here"] (zf s_5):=by refine ⟨rfl,rfl,rfl, ?_,rfl, ?_, ?_⟩ <;> decide+kernel
abbrev s_9:Stmt:=top 44
abbrev N_9:List Str:=["_law_kind_here","_law_sizes","_law_made","_law_size_here","_law_inner"]
theorem vX:zp N_9 ["_law_kind_here"] (zf s_9):=by refine ⟨rfl,rfl,rfl, ?_,rfl, ?_, ?_⟩ <;> decide+kernel
abbrev s_w:Stmt:=top 45
abbrev N_w:List Str:=["_law_script","_law_at_here","_law_most","_law_kind_here","_law_k"]
theorem KT:zp N_w ["_law_script","_law_at_here","_law_most"] (zf s_w):=by refine ⟨rfl,rfl,rfl, ?_,rfl, ?_, ?_⟩ <;> decide+kernel
abbrev s_n:Stmt:=top 49
abbrev N_n:List Str:=["_law_thing","_law_made","_law_k"]
theorem Go:zp N_n ["_law_thing"] (zf s_n):=by refine ⟨rfl,rfl,rfl, ?_,rfl, ?_, ?_⟩ <;> decide+kernel
abbrev s_11:Stmt:=top 50
abbrev N_11:List Str:=["_law_thing","_law_place","_law_k"]
theorem Xr:zp N_11 ["_law_thing","_law_place"] (zf s_11):=by refine ⟨rfl,rfl,rfl, ?_,rfl, ?_, ?_⟩ <;> decide+kernel
abbrev s_a:Stmt:=top 51
abbrev N_a:List Str:=["_law_thing","_law_place","_law_new","_law_k"]
theorem sc_a:zp N_a ["_law_thing","_law_place","_law_new"] (zf s_a):=by refine ⟨rfl,rfl,rfl, ?_,rfl, ?_, ?_⟩ <;> decide+kernel
abbrev s_r:Stmt:=top 52
abbrev N_r:List Str:=["_law_script","_law_at_here","_law_thing","_law_places_here","_law_place","_law_here","_law_some","_law_way","_law_k"]
theorem Xs:zp N_r ["_law_script","_law_at_here","_law_thing"] (zf s_r):=by refine ⟨rfl,rfl,rfl, ?_,rfl, ?_, ?_⟩ <;> decide+kernel
abbrev s_x:Stmt:=top 56
abbrev N_x:List Str:=["_law_kind_here"]
theorem sc_x:zp N_x ["_law_kind_here"] (zf s_x):=by refine ⟨rfl,rfl,rfl, ?_,rfl, ?_, ?_⟩ <;> decide+kernel
abbrev s_6:Stmt:=top 55
abbrev N_6:List Str:=["_law_kind_here","_law_worth","_law_kinds","_law_made","_law_one","_law_part"]
theorem Kp:zp N_6 ["_law_kind_here","_law_worth"] (zf s_6):=by refine ⟨rfl,rfl,rfl, ?_,rfl, ?_, ?_⟩ <;> decide+kernel
abbrev s_c:Stmt:=top 57
abbrev N_c:List Str:=["_law_kind_here","_law_worth","_law_some","_law_made","_law_k","_law_one"]
theorem Xt:zp N_c ["_law_kind_here","_law_worth"] (zf s_c):=by refine ⟨rfl,rfl,rfl, ?_,rfl, ?_, ?_⟩ <;> decide+kernel
abbrev s_p:Stmt:=top 46
abbrev N_p:List Str:=["_law_thing","_law_low","_law_high"]
theorem sc_p:zp N_p ["_law_thing","_law_low","_law_high"] (zf s_p):=by refine ⟨rfl,rfl,rfl, ?_,rfl, ?_, ?_⟩ <;> decide+kernel
abbrev s_t:Stmt:=top 47
abbrev N_t:List Str:=["_law_thing"]
theorem sc_t:zp N_t ["_law_thing"] (zf s_t):=by refine ⟨rfl,rfl,rfl, ?_,rfl, ?_, ?_⟩ <;> decide+kernel
abbrev s_b:Stmt:=top 48
abbrev N_b:List Str:=["_law_thing","_law_deep","_law_word_here","_law_rest","_law_some","_law_words"]
theorem KU:zp N_b ["_law_thing","_law_deep"] (zf s_b):=by refine ⟨rfl,rfl,rfl, ?_,rfl, ?_, ?_⟩ <;> decide+kernel
abbrev s_m:Stmt:=top 14
abbrev N_m:List Str:=["thing"]
theorem sc_m:zp N_m ["thing"] (zf s_m):=by refine ⟨rfl,rfl,rfl, ?_,rfl, ?_, ?_⟩ <;> decide+kernel
abbrev s_18:Stmt:=top 17
abbrev N_18:List Str:=["low","high","least","most"]
theorem Gp:zp N_18 ["low","high","least","most"] (zf s_18):=by refine ⟨rfl,rfl,rfl, ?_,rfl, ?_, ?_⟩ <;> decide+kernel
abbrev s_d:Stmt:=top 15
abbrev N_d:List Str:=["thing","least","most"]
theorem sc_d:zp N_d ["thing","least","most"] (zf s_d):=by refine ⟨rfl,rfl,rfl, ?_,rfl, ?_, ?_⟩ <;> decide+kernel
abbrev s_7:Stmt:=top 16
abbrev N_7:List Str:=["thing"]
theorem sc_7:zp N_7 ["thing"] (zf s_7):=by refine ⟨rfl,rfl,rfl, ?_,rfl, ?_, ?_⟩ <;> decide+kernel
abbrev s_14:Stmt:=top 20
abbrev N_14:List Str:=["thing"]
theorem Gq:zp N_14 ["thing"] (zf s_14):=by refine ⟨rfl,rfl,rfl, ?_,rfl, ?_, ?_⟩ <;> decide+kernel
abbrev s_v:Stmt:=top 19
abbrev N_v:List Str:=["thing","words"]
theorem sc_v:zp N_v ["thing"] (zf s_v):=by refine ⟨rfl,rfl,rfl, ?_,rfl, ?_, ?_⟩ <;> decide+kernel
abbrev s_e:Stmt:=top 18
abbrev N_e:List Str:=["thing","levels"]
theorem sc_e:zp N_e ["thing","levels"] (zf s_e):=by refine ⟨rfl,rfl,rfl, ?_,rfl, ?_, ?_⟩ <;> decide+kernel
abbrev Gr:Stmt:=top 21
abbrev N_19:List Str:=["thing","levels"]
theorem Gs:zp N_19 ["thing","levels"] (zf Gr):=by refine ⟨rfl,rfl,rfl, ?_,rfl, ?_, ?_⟩ <;> decide+kernel
abbrev s_2:Stmt:=top 10
abbrev N_2:List Str:=["thing"]
theorem sc_2:zp N_2 ["thing"] (zf s_2):=by refine ⟨rfl,rfl,rfl, ?_,rfl, ?_, ?_⟩ <;> decide+kernel
abbrev s_10:Stmt:=top 12
abbrev N_10:List Str:=["kind"]
theorem Gu:zp N_10 ["kind"] (zf s_10):=by refine ⟨rfl,rfl,rfl, ?_,rfl, ?_, ?_⟩ <;> decide+kernel
abbrev s_k:Stmt:=top 22
abbrev N_k:List Str:=["kind"]
theorem sc_k:zp N_k ["kind"] (zf s_k):=by refine ⟨rfl,rfl,rfl, ?_,rfl, ?_, ?_⟩ <;> decide+kernel
abbrev s_h:Stmt:=top 23
abbrev N_h:List Str:=["kind","thing"]
theorem sc_h:zp N_h ["kind","thing"] (zf s_h):=by refine ⟨rfl,rfl,rfl, ?_,rfl, ?_, ?_⟩ <;> decide+kernel
abbrev Gv:Stmt:=top 24
abbrev N_13:List Str:=["kinds","parts"]
theorem Gw:zp N_13 ["kinds","parts"] (zf Gv):=by refine ⟨rfl,rfl,rfl, ?_,rfl, ?_, ?_⟩ <;> decide+kernel
abbrev s_u:Stmt:=top 11
abbrev N_u:List Str:=["kind","thing"]
theorem sc_u:zp N_u ["kind","thing"] (zf s_u):=by refine ⟨rfl,rfl,rfl, ?_,rfl, ?_, ?_⟩ <;> decide+kernel
abbrev s_o:Stmt:=top 13
abbrev N_o:List Str:=["kind","worth"]
theorem sc_o:zp N_o ["kind","worth"] (zf s_o):=by refine ⟨rfl,rfl,rfl, ?_,rfl, ?_, ?_⟩ <;> decide+kernel
abbrev s_q:Stmt:=top 29
abbrev N_q:List Str:=["kind"]
theorem sc_q:zp N_q ["kind"] (zf s_q):=by refine ⟨rfl,rfl,rfl, ?_,rfl, ?_, ?_⟩ <;> decide+kernel
abbrev s_j:Stmt:=top 34
abbrev N_j:List Str:=["kind","worth"]
theorem sc_j:zp N_j ["kind","worth"] (zf s_j):=by refine ⟨rfl,rfl,rfl, ?_,rfl, ?_, ?_⟩ <;> decide+kernel
abbrev Gx:Stmt:=top 35
abbrev N_12:List Str:=["kinds","parts"]
theorem Gy:zp N_12 ["kinds","parts"] (zf Gx):=by refine ⟨rfl,rfl,rfl, ?_,rfl, ?_, ?_⟩ <;> decide+kernel
abbrev s_1:Stmt:=top 27
abbrev N_1:List Str:=["kind","worth"]
theorem sc_1:zp N_1 ["kind","worth"] (zf s_1):=by refine ⟨rfl,rfl,rfl, ?_,rfl, ?_, ?_⟩ <;> decide+kernel
abbrev s_17:Stmt:=top 30
abbrev N_17:List Str:=["kind","number","nearest"]
theorem Kq:zp N_17 ["kind","number"] (zf s_17):=by refine ⟨rfl,rfl,rfl, ?_,rfl, ?_, ?_⟩ <;> decide+kernel
abbrev s_15:Stmt:=top 31
abbrev N_15:List Str:=["kind","word","words","place"]
theorem Xu:zp N_15 ["kind","word"] (zf s_15):=by refine ⟨rfl,rfl,rfl, ?_,rfl, ?_, ?_⟩ <;> decide+kernel
abbrev Gz:Stmt:=top 32
abbrev N_16:List Str:=["kind","worth"]
theorem GA:zp N_16 ["kind","worth"] (zf Gz):=by refine ⟨rfl,rfl,rfl, ?_,rfl, ?_, ?_⟩ <;> decide+kernel
abbrev s_i:Stmt:=top 28
abbrev N_i:List Str:=["kind","worth"]
theorem sc_i:zp N_i ["kind","worth"] (zf s_i):=by refine ⟨rfl,rfl,rfl, ?_,rfl, ?_, ?_⟩ <;> decide+kernel
abbrev s_z:Stmt:=top 33
abbrev N_z:List Str:=["kinds","parts","told","place","part","less"]
theorem KW:zp N_z ["kinds","parts"] (zf s_z):=by refine ⟨rfl,rfl,rfl, ?_,rfl, ?_, ?_⟩ <;> decide+kernel
abbrev s_3:Stmt:=top 26
abbrev N_3:List Str:=["kind","worth"]
theorem sc_3:zp N_3 ["kind","worth"] (zf s_3):=by refine ⟨rfl,rfl,rfl, ?_,rfl, ?_, ?_⟩ <;> decide+kernel
abbrev s_8:Stmt:=top 53
abbrev N_8:List Str:=["_law_kept","_law_kinds"]
theorem sc_8:zp N_8 ["_law_kept"] (zf s_8):=by refine ⟨rfl,rfl,rfl, ?_,rfl, ?_, ?_⟩ <;> decide+kernel
abbrev s_l:Stmt:=top 54
abbrev N_l:List Str:=["_law_what","_law_kind_here","_law_worth","_law_kept","_law_answer","e"]
theorem Kr:zp N_l ["_law_what","_law_kind_here","_law_worth"] (zf s_l):=by refine ⟨rfl,rfl,rfl, ?_,rfl, ?_, ?_⟩ <;> decide+kernel
abbrev s_0:Stmt:=top 58
abbrev N_0:List Str:=["_law_script","_law_kind_here","_law_every","_law_least","_law_k","_law_worth","_law_due","_law_heavies","_law_at_here","_law_thing","_law_bad"]
theorem yv:zp N_0 ["_law_script"] (zf s_0):=by refine ⟨rfl,rfl,rfl, ?_,rfl, ?_, ?_⟩ <;> decide+kernel
structure Fn (K:PySem.W.Frag) (mg:Str->Option Value) (x:Str) (st:Stmt) (ps:List Str) (f:Addr) (fd:FuncData):Prop where
 F:Fun K x x st f fd
 b:L2.Binds K fd ps []
 m:mg x=some (.ref f)
abbrev KY:List Value:=[.type "ValueError", .type "Exception", .type "BaseException", .type "object"]
set_option genInjectivity false in
set_option genSizeOf false in
structure Tx (K:PySem.W.Frag) (mg:Str->Option Value) where
 a_1a:Addr
 d_1a:FuncData
 C_1a:Fn K mg "_law_cell" s_1a ["_law_script","_law_k"] a_1a d_1a
 a_4:Addr
 d_4:FuncData
 C_4:Fn K mg "_law_pick" s_4 ["_law_script","_law_k","_law_many"] a_4 d_4
 a_y:Addr
 d_y:FuncData
 C_y:Fn K mg "_law_word_of" s_y ["_law_script","_law_at_here"] a_y d_y
 a_s:Addr
 d_s:FuncData
 C_s:Fn K mg "_law_leaf_kind" s_s ["_law_script","_law_at_here"] a_s d_s
 a_g:Addr
 d_g:FuncData
 C_g:Fn K mg "_law_kind" s_g ["_law_script","_law_at_here","_law_deep"] a_g d_g
 a_f:Addr
 d_f:FuncData
 C_f:Fn K mg "_law_rows_of" s_f ["_law_lists"] a_f d_f
 a_5:Addr
 d_5:FuncData
 C_5:Fn K mg "_law_all" s_5 ["_law_kind_here"] a_5 d_5
 a_9:Addr
 d_9:FuncData
 C_9:Fn K mg "_law_size" s_9 ["_law_kind_here"] a_9 d_9
 a_w:Addr
 d_w:FuncData
 C_w:Fn K mg "_law_small" s_w ["_law_script","_law_at_here","_law_most"] a_w d_w
 a_n:Addr
 d_n:FuncData
 C_n:Fn K mg "_law_places" s_n ["_law_thing"] a_n d_n
 a_11:Addr
 d_11:FuncData
 C_11:Fn K mg "_law_at" s_11 ["_law_thing","_law_place"] a_11 d_11
 a_a:Addr
 d_a:FuncData
 C_a:Fn K mg "_law_put" s_a ["_law_thing","_law_place","_law_new"] a_a d_a
 a_r:Addr
 d_r:FuncData
 C_r:Fn K mg "_law_spoilt_thing" s_r ["_law_script","_law_at_here","_law_thing"] a_r d_r
 a_x:Addr
 d_x:FuncData
 C_x:Fn K mg "_law_nearest" s_x ["_law_kind_here"] a_x d_x
 a_6:Addr
 d_6:FuncData
 C_6:Fn K mg "_law_weight" s_6 ["_law_kind_here","_law_worth"] a_6 d_6
 a_c:Addr
 d_c:FuncData
 C_c:Fn K mg "_law_lesser" s_c ["_law_kind_here","_law_worth"] a_c d_c
 a_p:Addr
 d_p:FuncData
 C_p:Fn K mg "_law_whole" s_p ["_law_thing","_law_low","_law_high"] a_p d_p
 a_t:Addr
 d_t:FuncData
 C_t:Fn K mg "_law_is_word" s_t ["_law_thing"] a_t d_t
 a_b:Addr
 d_b:FuncData
 C_b:Fn K mg "_law_is_kind" s_b ["_law_thing","_law_deep"] a_b d_b
 a_m:Addr
 d_m:FuncData
 C_m:Fn K mg "is_whole" s_m ["thing"] a_m d_m
 a_18:Addr
 d_18:FuncData
 C_18:Fn K mg "is_span" s_18 ["low","high","least","most"] a_18 d_18
 a_d:Addr
 d_d:FuncData
 C_d:Fn K mg "is_tuple_of" s_d ["thing","least","most"] a_d d_d
 a_7:Addr
 d_7:FuncData
 C_7:Fn K mg "is_word" s_7 ["thing"] a_7 d_7
 a_14:Addr
 d_14:FuncData
 C_14:Fn K mg "is_choice" s_14 ["thing"] a_14 d_14
 a_v:Addr
 d_v:FuncData
 C_v:Fn K mg "are_choices" s_v ["thing"] a_v d_v
 a_e:Addr
 d_e:FuncData
 C_e:Fn K mg "is_kind_within" s_e ["thing","levels"] a_e d_e
 a_19:Addr
 d_19:FuncData
 C_19:Fn K mg "are_kinds_within" Gr ["thing","levels"] a_19 d_19
 a_2:Addr
 d_2:FuncData
 C_2:Fn K mg "is_kind" s_2 ["thing"] a_2 d_2
 a_10:Addr
 d_10:FuncData
 C_10:Fn K mg "need_kind" s_10 ["kind"] a_10 d_10
 a_k:Addr
 d_k:FuncData
 C_k:Fn K mg "words_of_pick" s_k ["kind"] a_k d_k
 a_h:Addr
 d_h:FuncData
 C_h:Fn K mg "has_worth" s_h ["kind","thing"] a_h d_h
 a_13:Addr
 d_13:FuncData
 C_13:Fn K mg "have_parts" Gv ["kinds","parts"] a_13 d_13
 a_u:Addr
 d_u:FuncData
 C_u:Fn K mg "is_worth" s_u ["kind","thing"] a_u d_u
 a_o:Addr
 d_o:FuncData
 C_o:Fn K mg "need_worth" s_o ["kind","worth"] a_o d_o
 a_q:Addr
 d_q:FuncData
 C_q:Fn K mg "nearest_to_nought" s_q ["kind"] a_q d_q
 a_j:Addr
 d_j:FuncData
 C_j:Fn K mg "weight_within" s_j ["kind","worth"] a_j d_j
 a_12:Addr
 d_12:FuncData
 C_12:Fn K mg "weight_of_parts" Gx ["kinds","parts"] a_12 d_12
 a_1:Addr
 d_1:FuncData
 C_1:Fn K mg "weight" s_1 ["kind","worth"] a_1 d_1
 a_17:Addr
 d_17:FuncData
 C_17:Fn K mg "number_less" s_17 ["kind","number"] a_17 d_17
 a_15:Addr
 d_15:FuncData
 C_15:Fn K mg "word_less" s_15 ["kind","word"] a_15 d_15
 a_16:Addr
 d_16:FuncData
 C_16:Fn K mg "shorter" Gz ["kind","worth"] a_16 d_16
 a_i:Addr
 d_i:FuncData
 C_i:Fn K mg "one_step_less" s_i ["kind","worth"] a_i d_i
 a_z:Addr
 d_z:FuncData
 C_z:Fn K mg "parts_less" s_z ["kinds","parts"] a_z d_z
 a_3:Addr
 d_3:FuncData
 C_3:Fn K mg "lesser" s_3 ["kind","worth"] a_3 d_3
 a_8:Addr
 d_8:FuncData
 C_8:Fn K mg "_law_word" s_8 ["_law_kept"] a_8 d_8
 a_l:Addr
 d_l:FuncData
 C_l:Fn K mg "_law_tried" s_l ["_law_what","_law_kind_here","_law_worth"] a_l d_l
 a_0:Addr
 d_0:FuncData
 C_0:Fn K mg "law" s_0 ["_law_script"] a_0 d_0
 z_ValueError:mg "ValueError"=none
 z_abs:mg "abs"=none
 z_all:mg "all"=none
 z_bool:mg "bool"=none
 z_enumerate:mg "enumerate"=none
 z_int:mg "int"=none
 z_isinstance:mg "isinstance"=none
 z_len:mg "len"=none
 z_list:mg "list"=none
 z_max:mg "max"=none
 z_min:mg "min"=none
 z_range:mg "range"=none
 z_set:mg "set"=none
 z_str:mg "str"=none
 z_sum:mg "sum"=none
 z_tuple:mg "tuple"=none
 z_zip:mg "zip"=none
 c_DEEPEST:∃ u,mg "DEEPEST"=some u/\∃ t,u=Value.int 3 t
set_option genInjectivity false in
set_option genSizeOf false in
structure Tq (K:PySem.W.Frag) (mg:Str->Option Value) (base:Heap) (cl:Nat->Value) where
 q_Ended:Addr
 q_NoKind:Addr
 q_NoRule:Addr
 q_NoText:Addr
 q_NoWorth:Addr
 q_TooMany:Addr
 q_WorthError:Addr
 X_k:XK1 K cl okX
 e_WorthError:∀ c,okX c=true->PySem.W.exmOne K (cl c) (.ref q_WorthError)=some true
 l_NoKind:cl 0= .ref q_NoKind
 l_NoWorth:cl 1= .ref q_NoWorth
 m_Ended:mg "Ended"=some (.ref q_Ended)
 m_NoKind:mg "NoKind"=some (.ref q_NoKind)
 m_NoRule:mg "NoRule"=some (.ref q_NoRule)
 m_NoText:mg "NoText"=some (.ref q_NoText)
 m_NoWorth:mg "NoWorth"=some (.ref q_NoWorth)
 m_TooMany:mg "TooMany"=some (.ref q_TooMany)
 m_WorthError:mg "WorthError"=some (.ref q_WorthError)
 o_NoKind:OwnCls "NoKind" q_NoKind KY "ValueError.__new__" mg base
 o_NoWorth:OwnCls "NoWorth" q_NoWorth KY "ValueError.__new__" mg base
 t_Ended:∀ c,okX c=true->PySem.W.kitOne K (cl c) (.ref q_Ended)=some (wG c)
 t_NoKind:∀ c,okX c=true->PySem.W.kitOne K (cl c) (.ref q_NoKind)=some (JL c)
 t_NoRule:∀ c,okX c=true->PySem.W.kitOne K (cl c) (.ref q_NoRule)=some (JM c)
 t_NoText:∀ c,okX c=true->PySem.W.kitOne K (cl c) (.ref q_NoText)=some (JN c)
 t_NoWorth:∀ c,okX c=true->PySem.W.kitOne K (cl c) (.ref q_NoWorth)=some (Jk c)
 t_TooMany:∀ c,okX c=true->PySem.W.kitOne K (cl c) (.ref q_TooMany)=some (Jl c)
 t_ValueError:∀ c,okX c=true->PySem.W.kitOne K (cl c) (.type "ValueError")=some (jr c)
section
variable (P:Program) (w:World) {K:PySem.W.Frag} {mg:Str->Option Value} (base:Heap) (cl:Nat->Value) (tx:Tx K mg) (k:Nat) (c:List T->R T)
abbrev GB:Prop:=ZB P w K mg base CX0 k tx.a_1a tx.d_1a ["_law_script","_law_k"] (spP cl 2 c)
abbrev Q_4:Prop:=ZB P w K mg base CX0 k tx.a_4 tx.d_4 ["_law_script","_law_k","_law_many"] (spP cl 3 c)
abbrev Q_y:Prop:=ZB P w K mg base CX0 k tx.a_y tx.d_y ["_law_script","_law_at_here"] (spP cl 2 c)
abbrev Q_s:Prop:=ZB P w K mg base CX0 k tx.a_s tx.d_s ["_law_script","_law_at_here"] (spP cl 2 c)
abbrev Q_g:Prop:=ZB P w K mg base CX0 k tx.a_g tx.d_g ["_law_script","_law_at_here","_law_deep"] (spP cl 3 c)
abbrev Q_f:Prop:=ZB P w K mg base CX0 k tx.a_f tx.d_f ["_law_lists"] (spP cl 1 c)
abbrev Q_5:Prop:=ZB P w K mg base CX0 k tx.a_5 tx.d_5 ["_law_kind_here"] (spP cl 1 c)
abbrev Q_9:Prop:=ZB P w K mg base CX0 k tx.a_9 tx.d_9 ["_law_kind_here"] (spP cl 1 c)
abbrev Q_w:Prop:=ZB P w K mg base CX0 k tx.a_w tx.d_w ["_law_script","_law_at_here","_law_most"] (spP cl 3 c)
abbrev Q_n:Prop:=ZB P w K mg base CX0 k tx.a_n tx.d_n ["_law_thing"] (spP cl 1 c)
abbrev GC:Prop:=ZB P w K mg base CX0 k tx.a_11 tx.d_11 ["_law_thing","_law_place"] (spP cl 2 c)
abbrev Q_a:Prop:=ZB P w K mg base CX0 k tx.a_a tx.d_a ["_law_thing","_law_place","_law_new"] (spP cl 3 c)
abbrev Q_r:Prop:=ZB P w K mg base CX0 k tx.a_r tx.d_r ["_law_script","_law_at_here","_law_thing"] (spP cl 3 c)
abbrev Q_x:Prop:=ZB P w K mg base CX0 k tx.a_x tx.d_x ["_law_kind_here"] (spP cl 1 c)
abbrev Q_6:Prop:=ZB P w K mg base CX0 k tx.a_6 tx.d_6 ["_law_kind_here","_law_worth"] (spP cl 2 c)
abbrev Q_c:Prop:=ZB P w K mg base CX0 k tx.a_c tx.d_c ["_law_kind_here","_law_worth"] (spP cl 2 c)
abbrev Q_p:Prop:=ZB P w K mg base CX0 k tx.a_p tx.d_p ["_law_thing","_law_low","_law_high"] (spP cl 3 c)
abbrev Q_t:Prop:=ZB P w K mg base CX0 k tx.a_t tx.d_t ["_law_thing"] (spP cl 1 c)
abbrev Q_b:Prop:=ZB P w K mg base CX0 k tx.a_b tx.d_b ["_law_thing","_law_deep"] (spP cl 2 c)
abbrev Q_m:Prop:=ZB P w K mg base CX0 k tx.a_m tx.d_m ["thing"] (spP cl 1 c)
abbrev GD:Prop:=ZB P w K mg base CX0 k tx.a_18 tx.d_18 ["low","high","least","most"] (spP cl 4 c)
abbrev Q_d:Prop:=ZB P w K mg base CX0 k tx.a_d tx.d_d ["thing","least","most"] (spP cl 3 c)
abbrev Q_7:Prop:=ZB P w K mg base CX0 k tx.a_7 tx.d_7 ["thing"] (spP cl 1 c)
abbrev GE:Prop:=ZB P w K mg base CX0 k tx.a_14 tx.d_14 ["thing"] (spP cl 1 c)
abbrev Q_v:Prop:=ZB P w K mg base CX0 k tx.a_v tx.d_v ["thing"] (spP cl 1 c)
abbrev Q_e:Prop:=ZB P w K mg base CX0 k tx.a_e tx.d_e ["thing","levels"] (spP cl 2 c)
abbrev KZ:Prop:=ZB P w K mg base CX0 k tx.a_19 tx.d_19 ["thing","levels"] (spP cl 2 c)
abbrev Q_2:Prop:=ZB P w K mg base CX0 k tx.a_2 tx.d_2 ["thing"] (spP cl 1 c)
abbrev GF:Prop:=ZB P w K mg base (CX1 P w) k tx.a_10 tx.d_10 ["kind"] (spP cl 1 c)
abbrev Q_k:Prop:=ZB P w K mg base CX0 k tx.a_k tx.d_k ["kind"] (spP cl 1 c)
abbrev Q_h:Prop:=ZB P w K mg base CX0 k tx.a_h tx.d_h ["kind","thing"] (spP cl 2 c)
abbrev g6:Prop:=ZB P w K mg base CX0 k tx.a_13 tx.d_13 ["kinds","parts"] (spP cl 2 c)
abbrev Q_u:Prop:=ZB P w K mg base (CX1 P w) k tx.a_u tx.d_u ["kind","thing"] (spP cl 2 c)
abbrev Q_o:Prop:=ZB P w K mg base (CX1 P w) k tx.a_o tx.d_o ["kind","worth"] (spP cl 2 c)
abbrev Q_q:Prop:=ZB P w K mg base CX0 k tx.a_q tx.d_q ["kind"] (spP cl 1 c)
abbrev Q_j:Prop:=ZB P w K mg base CX0 k tx.a_j tx.d_j ["kind","worth"] (spP cl 2 c)
abbrev g9:Prop:=ZB P w K mg base CX0 k tx.a_12 tx.d_12 ["kinds","parts"] (spP cl 2 c)
abbrev Q_1:Prop:=ZB P w K mg base (CX1 P w) k tx.a_1 tx.d_1 ["kind","worth"] (spP cl 2 c)
abbrev GG:Prop:=ZB P w K mg base CX0 k tx.a_17 tx.d_17 ["kind","number"] (spP cl 2 c)
abbrev GH:Prop:=ZB P w K mg base CX0 k tx.a_15 tx.d_15 ["kind","word"] (spP cl 2 c)
abbrev GI:Prop:=ZB P w K mg base CX0 k tx.a_16 tx.d_16 ["kind","worth"] (spP cl 2 c)
abbrev Q_i:Prop:=ZB P w K mg base CX0 k tx.a_i tx.d_i ["kind","worth"] (spP cl 2 c)
abbrev Q_z:Prop:=ZB P w K mg base CX0 k tx.a_z tx.d_z ["kinds","parts"] (spP cl 2 c)
abbrev Q_3:Prop:=ZB P w K mg base (CX1 P w) k tx.a_3 tx.d_3 ["kind","worth"] (spP cl 2 c)
abbrev Q_8 (c:Nat->R T):Prop:=ZB P w K mg base CX0 k tx.a_8 tx.d_8 ["_law_kept"] (spC cl c)
abbrev Q_l:Prop:=ZB P w K mg base CX0 k tx.a_l tx.d_l ["_law_what","_law_kind_here","_law_worth"] (spP cl 3 c)
abbrev Q_0:Prop:=ZB P w K mg base (CX1 P w) k tx.a_0 tx.d_0 ["_law_script"] (spP cl 1 c)
end
theorem cZ {X:Cx} {Y:Fx} {cl:Nat->Value} {k j n:Nat} {f:Addr} {fd:FuncData} {ps:List Str} {g:List T->R T} {x:Str} {st:Stmt} {a:Expr} {es:List Expr} {ga:En->R (List T)} {p pos:Pos} (hy:Y.cl=cl) (F:ZB X.prog X.w X.K X.mg X.base CX0 j f fd ps (spP cl n g)) (hr:JG k X.A) (C:Fn X.K X.mg x st ps f fd) (ha:U9 X Y (a :: es) ga) (hj:j<=k:=by omega) (gl:Gl X x:=by rfl) (hd:(x == ("__debug__":Str))=false:=by decide)
  (hs:starEach (a :: es) X.env=(false,eval a X.env) :: starEach es X.env:=by exact Zv rfl) (hz:((backTo pos (starEach es X.env)).any fun x=>x.fst)=false:=by exact j8 rfl):Snd X Y (.Call (.Name x p) (a :: es) [] pos) (zc n g ga):=xt hy F hr hj gl C.m C.F.kp C.b ha hd hs hz
theorem cX {X:Cx} {Y:Fx} {cl:Nat->Value} {k j n:Nat} {f:Addr} {fd:FuncData} {ps:List Str} {g:List T->R T} {x:Str} {st:Stmt} {a:Expr} {es:List Expr} {ga:En->R (List T)} {p pos:Pos} (hy:Y.cl=cl) (hp:Jf (CX1 X.prog X.w) X Y.E) (F:ZB X.prog X.w X.K X.mg X.base (CX1 X.prog X.w) j f fd ps (spP cl n g)) (hr:JG k X.A) (C:Fn X.K X.mg x st ps f fd) (ha:U9 X Y (a :: es) ga) (hj:j<=k:=by omega) (gl:Gl X x:=by rfl) (hd:(x == ("__debug__":Str))=false:=by decide)
  (hs:starEach (a :: es) X.env=(false,eval a X.env) :: starEach es X.env:=by exact Zv rfl) (hz:((backTo pos (starEach es X.env)).any fun x=>x.fst)=false:=by exact j8 rfl):Snd X Y (.Call (.Name x p) (a :: es) [] pos) (zc n g ga):=xw hy hp F hr hj gl C.m C.F.kp C.b ha hd hs hz
section
variable {P:Program} {w:World} {K:PySem.W.Frag} {mg:Str->Option Value} {base:Heap} {cl:Nat->Value} {tx:Tx K mg}
theorem GJ:GB P w base cl tx 1 (fun ts=>zo (b_1a  (en0 2 ts))):=by
 refine Zj tx.C_1a.F Gm rfl (fun cdv A outer s H E Y hy hr=> ?_) (fun ts h=>rfl)
 refine zh ?_ ?_
 refine zP ?_ ?_ ?_
 exact zy yJ W7 (zj 1 (pv 1)) (Snd.b (Z9 (by rfl) tx.z_len (zj 0 (pv 0)))) (zm _)
 exact zn (zr (zM (zb 0 (pv 0)) (zb 1 (pv 1))))
 exact zO
 refine zh ?_ ?_
 refine zP ?_ ?_ ?_
 exact zy zS (zv hr.units) (zj 0 (pv 0)) (Snd.b (ZK zi)) (zm _)
 exact zn (zr zd)
 exact zO
 refine zn ?_
 refine zr ?_
 refine zC ?_ ?_
 refine j9 ?_ ?_
 exact zM (zb 0 (pv 0)) (yI (zb 1 (pv 1)) (Z9 (by rfl) tx.z_len (zj 0 (pv 0))))
 exact zd
 exact zb 1 (pv 1)
theorem ok_4 {c_1a:List T->R T} (O_1a:GB P w base cl tx 1 c_1a):Q_4 P w base cl tx 2 (fun ts=>zo (b_4 c_1a (en0 4 ts))):=by
 refine Zj tx.C_4.F sc_4 rfl (fun cdv A outer s H E Y hy hr=> ?_) (fun ts h=>rfl)
 refine zh ?_ ?_
 refine Z1 (i:=3) sc_4.nd (by rfl) (.inl (by rfl)) ?_
 refine yI ?_ ?_
 refine j9 ?_ ?_
 refine zC ?_ ?_
 exact cZ hy O_1a hr tx.C_1a (za (zb 0 (pv 0)) (za (zb 1 (pv 1)) zi))
 exact j9 zd (zC (zb 1 (pv 1)) zd)
 exact zd
 exact zd
 refine zn ?_
 refine zr ?_
 refine yI ?_ ?_
 refine yI ?_ ?_
 exact zC (j9 (zb 3 (pv 3)) (zb 3 (pv 3))) (km (zb 3 (pv 3)) zd)
 exact zd
 exact zb 2 (pv 2)
theorem ok_y {c_4:List T->R T} (O_4:Q_4 P w base cl tx 2 c_4):Q_y P w base cl tx 3 (fun ts=>zo (b_y c_4 (en0 3 ts))):=by
 refine Zj tx.C_y.F sc_y rfl (fun cdv A outer s H E Y hy hr=> ?_) (fun ts h=>rfl)
 refine zh ?_ ?_
 exact Z1 (i:=2) sc_y.nd (by rfl) (.inr (by rfl)) zF
 refine zh ?_ ?_
 refine zP ?_ ?_ ?_
 refine zy YI uj ?_ ?_ (zm _)
 refine Snd.b ?_
 refine cZ hy O_4 hr tx.C_4 ?_
 exact za (zb 0 (pv 0)) (za (zb 1 (pv 1)) (za zd zi))
 exact Snd.b zd
 refine zn ?_
 refine zr ?_
 refine zM ?_ ?_
 refine ZK ?_
 refine za ?_ ?_
 exact zF
 exact za zF (za zF (za zF zi))
 refine cZ hy O_4 hr tx.C_4 ?_
 refine za ?_ ?_
 exact zb 0 (pv 0)
 exact za (zC (zb 1 (pv 1)) zd) (za zd zi)
 exact zO
 refine zn ?_
 refine zr ?_
 refine kC ?_
 refine Snd.b ?_
 refine Zo (zW ["_law_k","_law_script","_law_at_here","_law_letters"] N_y (zf s_y) (by rfl) (by rfl) (by decide+kernel) (by rfl) ?_ (fun _ _ _ _ _ _=>zu (show List.Nodup (["_law_k","_law_script","_law_at_here","_law_letters"]:List Str) by decide+kernel) (by rfl) (.inl (by rfl)) (.inr (by rfl))) (zA 0) (zB 0) (fun Y' hy' _ _ _ _ _ _=> ?_) (fun Y' hy' _ _ _ _ _ _=> ?_))
 refine jE (by rfl) tx.z_range ?_
 refine zC ?_ ?_
 exact zd
 refine cZ hy O_4 hr tx.C_4 ?_
 refine za ?_ ?_
 exact zb 0 (pv 0)
 exact za (zC (zb 1 (pv 1)) zd) (za zd zi)
 exact Zx
 refine zM ?_ ?_
 exact zb 3 (pv 3)
 refine cZ (hy'.trans hy) O_4 hr tx.C_4 ?_
 refine za ?_ ?_
 exact zb 1 (pv 1)
 refine za ?_ ?_
 exact zC (zC (zb 2 (pv 2)) zd) (zb 0 (pv 0))
 exact za zd zi
theorem ok_s {c_4 c_y:List T->R T} (O_4:Q_4 P w base cl tx 2 c_4) (O_y:Q_y P w base cl tx 3 c_y):Q_s P w base cl tx 4 (fun ts=>zo (b_s c_4 c_y (en0 6 ts))):=by
 refine Zj tx.C_s.F XA rfl (fun cdv A outer s H E Y hy hr=> ?_) (fun ts h=>rfl)
 refine zh ?_ ?_
 refine zP ?_ ?_ ?_
 refine zy YI uj ?_ ?_ (zm _)
 refine Snd.b ?_
 refine cZ hy O_4 hr tx.C_4 ?_
 exact za (zb 0 (pv 0)) (za (zb 1 (pv 1)) (za zd zi))
 exact Snd.b zd
 refine zh ?_ ?_
 refine Z1 (i:=2) XA.nd (by rfl) (.inl (by rfl)) ?_
 refine jN ?_ ?_
 refine cZ hy O_4 hr tx.C_4 ?_
 refine za ?_ ?_
 exact zb 0 (pv 0)
 exact za (zC (zb 1 (pv 1)) zd) (za zd zi)
 exact zd
 refine zh ?_ ?_
 refine zP ?_ ?_ ?_
 refine zy zS (zv hr.units) ?_ ?_ (zm _)
 refine Snd.b ?_
 refine cZ hy O_4 hr tx.C_4 ?_
 refine za ?_ ?_
 exact zb 0 (pv 0)
 exact za (zC (zb 1 (pv 1)) zd) (za zd zi)
 exact Snd.b zd
 refine zn ?_
 refine Z1 (i:=2) XA.nd (by rfl) (.inl (by rfl)) ?_
 refine zM ?_ ?_
 refine ZK ?_
 refine za ?_ ?_
 exact YH zd
 exact za zd (za zd zi)
 refine cZ hy O_4 hr tx.C_4 ?_
 refine za ?_ ?_
 exact zb 0 (pv 0)
 exact za (zC (zb 1 (pv 1)) zd) (za zd zi)
 exact zO
 refine zn ?_
 refine zr ?_
 refine jk ?_
 refine za ?_ ?_
 exact zF
 refine za ?_ ?_
 exact zb 2 (pv 2)
 refine za ?_ ?_
 refine YR (by rfl) (by rfl) tx.z_min ?_ ?_
 exact zd
 refine zC ?_ ?_
 exact zb 2 (pv 2)
 refine cZ hy O_4 hr tx.C_4 ?_
 refine za ?_ ?_
 exact zb 0 (pv 0)
 exact za (zC (zb 1 (pv 1)) zd) (za zd zi)
 exact zi
 exact zO
 refine zh ?_ ?_
 exact wz (i:=3) XA.nd (by rfl) (.inl (by rfl)) zi
 refine zh ?_ ?_
 refine JJ PassesOwn.never (by rfl) ?_ ?_ ?_
 refine jE (by rfl) tx.z_range ?_
 refine zC ?_ ?_
 exact zd
 refine cZ hy O_4 hr tx.C_4 ?_
 refine za ?_ ?_
 exact zb 0 (pv 0)
 exact za (zC (zb 1 (pv 1)) zd) (za zd zi)
 exact jQ (i:=4) XA.nd (by rfl) (.inl (by rfl))
 refine zh ?_ ?_
 refine Z1 (i:=5) XA.nd (by rfl) (.inl (by rfl)) ?_
 refine cZ hy O_y hr tx.C_y ?_
 refine za ?_ ?_
 exact zb 0 (pv 0)
 refine za ?_ ?_
 exact zC (zC (zb 1 (pv 1)) zd) (j9 zd (zb 4 (pv 4)))
 exact zi
 refine zn ?_
 refine zP ?_ ?_ ?_
 exact zy YJ (Ub hr.units) (zj 5 (pv 5)) (zj 3 (pv 3)) (by rfl)
 exact zn (kw (i:=3) (pv 3) (zb 5 (pv 5)))
 exact zO
 refine zn ?_
 refine zr ?_
 refine jk ?_
 refine za ?_ ?_
 exact zF
 refine za ?_ ?_
 refine YN (by rfl) tx.z_tuple ?_
 refine Zo (zW ["_law_k","_law_word_here","_law_script","_law_at_here"] N_s (zf s_s) (by rfl) (by rfl) (by decide+kernel) (by rfl) ?_ (fun _ _ _ _ _ _=>W2 (by rfl) (ZF (zu (show List.Nodup (["_law_k","_law_word_here","_law_script","_law_at_here"]:List Str) by decide+kernel) (by rfl) (.inl (by rfl)) (.inr (by rfl))) (ZF (zu (show List.Nodup (["_law_k","_law_word_here","_law_script","_law_at_here"]:List Str) by decide+kernel) (by rfl) (.inl (by rfl)) (.inr (by rfl))) JF))) (Jx _ 0 1) (Jy 0 1) (fun Y' hy' _ _ _ _ _ _=> ?_) (fun Y' hy' _ _ _ _ _ _=> ?_))
 exact kA (by rfl) tx.z_enumerate (zb 3 (pv 3))
 exact Zx
 refine jk ?_
 refine za ?_ ?_
 exact zb 1 (pv 1)
 refine za ?_ ?_
 refine zC ?_ ?_
 exact zd
 refine cZ (hy'.trans hy) O_4 hr tx.C_4 ?_
 refine za ?_ ?_
 exact zb 2 (pv 2)
 refine za ?_ ?_
 exact zC (zC (zb 3 (pv 3)) zd) (zb 0 (pv 0))
 exact za zd zi
 exact zi
 exact zi
theorem ok_g {j:Nat} (hj:4<=j) {c_4 c_s c_g:List T->R T} (O_4:Q_4 P w base cl tx 2 c_4) (O_s:Q_s P w base cl tx 4 c_s) (O_g:Q_g P w base cl tx j c_g):Q_g P w base cl tx (j+1) (fun ts=>zo (b_g c_4 c_s c_g (en0 6 ts))):=by
 refine Zj tx.C_g.F KS rfl (fun cdv A outer s H E Y hy hr=> ?_) (fun ts h=>rfl)
 refine zh ?_ ?_
 refine Z1 (i:=3) KS.nd (by rfl) (.inl (by rfl)) ?_
 refine cZ hy O_4 hr tx.C_4 ?_
 exact za (zb 0 (pv 0)) (za (zb 1 (pv 1)) (za zd zi))
 refine zh ?_ ?_
 refine zP ?_ ?_ ?_
 refine JH.t ?_
 refine WZ ?_ ?_
 exact zy zS (zv hr.units) (zj 2 (pv 2)) (Snd.b zd) (zm _)
 exact wx (zy yJ W7 (zj 3 (pv 3)) (Snd.b zd) (zm _))
 refine zn ?_
 refine zr ?_
 refine cZ hy O_s hr tx.C_s ?_
 exact za (zb 0 (pv 0)) (za (zC (zb 1 (pv 1)) zd) zi)
 exact zO
 refine zh ?_ ?_
 refine zP ?_ ?_ ?_
 exact zy yJ W7 (zj 3 (pv 3)) (Snd.b zd) (zm _)
 refine zh ?_ ?_
 refine wD (i:=4) (zW ["_law_k","_law_script","_law_at_here","_law_deep"] N_g (zf s_g) (by rfl) (by rfl) (by decide+kernel) (by rfl) ?_ (fun _ _ _ _ _ _=>zu (show List.Nodup (["_law_k","_law_script","_law_at_here","_law_deep"]:List Str) by decide+kernel) (by rfl) (.inl (by rfl)) (.inr (by rfl))) (zA 0) (zB 0) (fun Y' hy' _ _ _ _ _ _=> ?_) (fun Y' hy' _ _ _ _ _ _=> ?_)) KS.nd (by rfl) (.inl (by rfl)) (by rfl)
 refine jE (by rfl) tx.z_range ?_
 refine zC ?_ ?_
 exact zd
 refine cZ hy O_4 hr tx.C_4 ?_
 refine za ?_ ?_
 exact zb 0 (pv 0)
 exact za (zC (zb 1 (pv 1)) zd) (za zd zi)
 exact Zx
 refine cZ (hy'.trans hy) O_g hr tx.C_g ?_
 refine za ?_ ?_
 exact zb 1 (pv 1)
 refine za ?_ ?_
 refine zC ?_ ?_
 exact zC (j9 zd (zb 2 (pv 2))) zd
 exact j9 zd (zb 0 (pv 0))
 exact za (jN (zb 3 (pv 3)) zd) zi
 refine zn ?_
 refine zr ?_
 exact jk (za zF (za (YN (by rfl) tx.z_tuple (zb 4 (pv 4))) zi))
 exact zO
 refine zh ?_ ?_
 refine Z1 (i:=5) KS.nd (by rfl) (.inl (by rfl)) ?_
 refine cZ hy O_4 hr tx.C_4 ?_
 refine za ?_ ?_
 exact zb 0 (pv 0)
 exact za (zC (zb 1 (pv 1)) zd) (za zd zi)
 refine zn ?_
 refine zr ?_
 refine jk ?_
 refine za ?_ ?_
 exact zF
 refine za ?_ ?_
 refine cZ hy O_g hr tx.C_g ?_
 refine za ?_ ?_
 exact zb 0 (pv 0)
 refine za ?_ ?_
 exact zC (j9 zd (zb 1 (pv 1))) zd
 exact za (jN (zb 2 (pv 2)) zd) zi
 refine za ?_ ?_
 exact zb 5 (pv 5)
 refine za ?_ ?_
 refine YR (by rfl) (by rfl) tx.z_min ?_ ?_
 exact zd
 refine zC ?_ ?_
 exact zb 5 (pv 5)
 refine cZ hy O_4 hr tx.C_4 ?_
 refine za ?_ ?_
 exact zb 0 (pv 0)
 exact za (zC (zb 1 (pv 1)) zd) (za zd zi)
 exact zi
theorem ok_f:Q_f P w base cl tx 1 (fun ts=>zo (b_f  (en0 5 ts))):=by
 refine Zj tx.C_f.F XB rfl (fun cdv A outer s H E Y hy hr=> ?_) (fun ts h=>rfl)
 refine zh ?_ ?_
 exact Z1 (i:=1) XB.nd (by rfl) (.inl (by rfl)) (ZK (za (jk zi) zi))
 refine zh ?_ ?_
 refine JJ PassesOwn.never (by rfl) ?_ ?_ ?_
 exact ZZ (zb 0 (pv 0))
 exact jQ (i:=2) XB.nd (by rfl) (.inl (by rfl))
 refine zh ?_ ?_
 exact wz (i:=3) XB.nd (by rfl) (.inl (by rfl)) zi
 refine zh ?_ ?_
 refine JJ PassesOwn.never (by rfl) ?_ ?_ ?_
 exact ZZ (zb 1 (pv 1))
 exact jQ (i:=4) XB.nd (by rfl) (.inr (by rfl))
 refine zn ?_
 refine YV (i:=3) (pv 3) ?_
 refine Zo (zW ["_law_one","_law_ahead"] N_f (zf s_f) (by rfl) (by rfl) (by decide+kernel) (by rfl) ?_ (fun _ _ _ _ _ _=>zu (show List.Nodup (["_law_one","_law_ahead"]:List Str) by decide+kernel) (by rfl) (.inl (by rfl)) (.inr (by rfl))) (zA 0) (zB 0) (fun Y' hy' _ _ _ _ _ _=> ?_) (fun Y' hy' _ _ _ _ _ _=> ?_))
 exact ZZ (zb 2 (pv 2))
 exact Zx
 exact zC (zb 1 (pv 1)) (jk (za (zb 0 (pv 0)) zi))
 exact zn (s_mv (i:=1) (j:=3) (pv 3) XB.nd (by rfl) (.inl (by rfl)))
 exact zn (zr (zb 1 (pv 1)))
theorem ok_5 {j:Nat} (hj:1<=j) {c_5 c_f:List T->R T} (O_5:Q_5 P w base cl tx j c_5) (O_f:Q_f P w base cl tx 1 c_f):Q_5 P w base cl tx (j+1) (fun ts=>zo (b_5 c_5 c_f (en0 3 ts))):=by
 refine Zj tx.C_5.F Gn rfl (fun cdv A outer s H E Y hy hr=> ?_) (fun ts h=>rfl)
 refine zh ?_ ?_
 refine zP ?_ ?_ ?_
 exact zy zS (zv hr.units) (Snd.b (zM (zb 0 (pv 0)) zd)) (Snd.b zF) (zm _)
 refine zn ?_
 refine zr ?_
 refine xM hr.hd (by rfl) tx.z_list (by rfl) tx.z_range ?_ ?_
 exact zM (zb 0 (pv 0)) zd
 exact zC (zM (zb 0 (pv 0)) zd) zd
 exact zO
 refine zh ?_ ?_
 refine zP ?_ ?_ ?_
 exact zy zS (zv hr.units) (Snd.b (zM (zb 0 (pv 0)) zd)) (Snd.b zF) (zm _)
 refine zn ?_
 refine zr ?_
 refine Zo (zW ["_law_word_here","_law_heavy"] N_5 (zf s_5) (by rfl) (by rfl) (by decide+kernel) (by rfl) ?_ (fun _ _ _ _ _ _=>W2 (by rfl) (ZF (zu (show List.Nodup (["_law_word_here","_law_heavy"]:List Str) by decide+kernel) (by rfl) (.inl (by rfl)) (.inr (by rfl))) (ZF (zu (show List.Nodup (["_law_word_here","_law_heavy"]:List Str) by decide+kernel) (by rfl) (.inl (by rfl)) (.inr (by rfl))) JF))) (Jx _ 0 1) (Jy 0 1) (fun Y' hy' _ _ _ _ _ _=> ?_) (fun Y' hy' _ _ _ _ _ _=> ?_))
 exact ZZ (zM (zb 0 (pv 0)) zd)
 exact Zx
 exact zb 0 (pv 0)
 exact zO
 refine zh ?_ ?_
 refine zP ?_ ?_ ?_
 exact zy zS (zv hr.units) (Snd.b (zM (zb 0 (pv 0)) zd)) (Snd.b zF) (zm _)
 refine zn ?_
 refine zr ?_
 refine cZ hy O_f hr tx.C_f ?_
 refine za ?_ ?_
 refine Zo (zW ["_law_one"] N_5 (zf s_5) (by rfl) (by rfl) (by decide+kernel) (by rfl) ?_ (fun _ _ _ _ _ _=>zu (show List.Nodup (["_law_one"]:List Str) by decide+kernel) (by rfl) (.inl (by rfl)) (.inr (by rfl))) (zA 0) (zB 0) (fun Y' hy' _ _ _ _ _ _=> ?_) (fun Y' hy' _ _ _ _ _ _=> ?_))
 exact ZZ (zM (zb 0 (pv 0)) zd)
 exact Zx
 exact cZ (hy'.trans hy) O_5 hr tx.C_5 (za (zb 0 (pv 0)) zi)
 exact zi
 exact zO
 refine zh ?_ ?_
 exact wz (i:=1) Gn.nd (by rfl) (.inl (by rfl)) zi
 refine zh ?_ ?_
 refine JJ PassesOwn.never (by rfl) ?_ ?_ ?_
 refine YX (by rfl) tx.z_range ?_ ?_
 exact zM (zb 0 (pv 0)) zd
 exact zC (zM (zb 0 (pv 0)) zd) zd
 exact jQ (i:=2) Gn.nd (by rfl) (.inl (by rfl))
 refine zn ?_
 refine YV (i:=1) (pv 1) ?_
 refine cZ hy O_f hr tx.C_f ?_
 refine za ?_ ?_
 refine j9 ?_ ?_
 refine ZK ?_
 refine za ?_ ?_
 exact cZ hy O_5 hr tx.C_5 (za (zM (zb 0 (pv 0)) zd) zi)
 exact zi
 exact zb 2 (pv 2)
 exact zi
 exact zn (zr (zb 1 (pv 1)))
theorem ok_9 {j:Nat} (hj:9<=j) {c_5 c_9:List T->R T} (O_5:Q_5 P w base cl tx 9 c_5) (O_9:Q_9 P w base cl tx j c_9):Q_9 P w base cl tx (j+1) (fun ts=>zo (b_9 c_5 c_9 (en0 5 ts))):=by
 refine Zj tx.C_9.F vX rfl (fun cdv A outer s H E Y hy hr=> ?_) (fun ts h=>rfl)
 refine zh ?_ ?_
 refine zP ?_ ?_ ?_
 refine zy yK (UL hr.units) ?_ ?_ (by rfl)
 exact Snd.b (zM (zb 0 (pv 0)) zd)
 exact Snd.b (jk (za zF (za zF zi)))
 refine zn ?_
 exact zr (Z9 (by rfl) tx.z_len (Snd.b (cZ hy O_5 hr tx.C_5 (za (zb 0 (pv 0)) zi))))
 exact zO
 refine zh ?_ ?_
 refine Z1 (i:=1) vX.nd (by rfl) (.inl (by rfl)) ?_
 refine V5 ?_ ?_ ?_
 exact zy zS (zv hr.units) (Snd.b (zM (zb 0 (pv 0)) zd)) (Snd.b zF) (zm _)
 refine Zo (zW ["_law_one"] N_9 (zf s_9) (by rfl) (by rfl) (by decide+kernel) (by rfl) ?_ (fun _ _ _ _ _ _=>zu (show List.Nodup (["_law_one"]:List Str) by decide+kernel) (by rfl) (.inl (by rfl)) (.inr (by rfl))) (zA 0) (zB 0) (fun Y' hy' _ _ _ _ _ _=> ?_) (fun Y' hy' _ _ _ _ _ _=> ?_))
 exact ZZ (zM (zb 0 (pv 0)) zd)
 exact Zx
 exact cZ (hy'.trans hy) O_9 hr tx.C_9 (za (zb 0 (pv 0)) zi)
 exact ZK zi
 refine zh ?_ ?_
 exact Z1 (i:=2) vX.nd (by rfl) (.inl (by rfl)) zd
 refine zh ?_ ?_
 refine JJ PassesOwn.never (by rfl) ?_ ?_ ?_
 exact ZZ (zb 1 (pv 1))
 exact jQ (i:=3) vX.nd (by rfl) (.inl (by rfl))
 exact zn (Z1 (i:=2) vX.nd (by rfl) (.inl (by rfl)) (j9 (zb 2 (pv 2)) (zb 3 (pv 3))))
 refine zh ?_ ?_
 refine zP ?_ ?_ ?_
 exact zy zS (zv hr.units) (Snd.b (zM (zb 0 (pv 0)) zd)) (Snd.b zF) (zm _)
 refine zh ?_ ?_
 exact Z1 (i:=4) vX.nd (by rfl) (.inl (by rfl)) (cZ hy O_9 hr tx.C_9 (za (zM (zb 0 (pv 0)) zd) zi))
 refine zh ?_ ?_
 refine Z1 (i:=2) vX.nd (by rfl) (.inl (by rfl)) ?_
 refine zC ?_ ?_
 refine UR (by rfl) tx.z_int ?_
 exact Jt zS (zv hr.units) (Snd.b (zM (zb 0 (pv 0)) zd)) (Snd.b zd) (zm _)
 refine j9 ?_ ?_
 exact zb 4 (pv 4)
 refine UR (by rfl) tx.z_int ?_
 refine jO ZM ZM Z6 Z6 ?_ ?_ ?_
 exact Snd.b (zM (zb 0 (pv 0)) zd)
 exact Snd.b zd
 exact Snd.b (zM (zb 0 (pv 0)) zd)
 refine zh ?_ ?_
 refine Z1 (i:=2) vX.nd (by rfl) (.inl (by rfl)) ?_
 refine zC ?_ ?_
 exact zb 2 (pv 2)
 refine j9 ?_ ?_
 exact j9 (zb 4 (pv 4)) (zb 4 (pv 4))
 refine UR (by rfl) tx.z_int ?_
 refine jO ZM ZM Z6 Z6 ?_ ?_ ?_
 exact Snd.b (zM (zb 0 (pv 0)) zd)
 exact Snd.b zd
 exact Snd.b (zM (zb 0 (pv 0)) zd)
 refine zn ?_
 refine Z1 (i:=2) vX.nd (by rfl) (.inl (by rfl)) ?_
 refine zC ?_ ?_
 exact zb 2 (pv 2)
 refine j9 ?_ ?_
 exact j9 (j9 (zb 4 (pv 4)) (zb 4 (pv 4))) (zb 4 (pv 4))
 refine UR (by rfl) tx.z_int ?_
 exact Jt zS (zv hr.units) (Snd.b (zM (zb 0 (pv 0)) zd)) (Snd.b zd) (zm _)
 exact zO
 exact zn (zr (zb 2 (pv 2)))
theorem ok_w {c_g c_9:List T->R T} (O_g:Q_g P w base cl tx 12 c_g) (O_9:Q_9 P w base cl tx 17 c_9):Q_w P w base cl tx 18 (fun ts=>zo (b_w c_g c_9 (en0 5 ts))):=by
 refine Zj tx.C_w.F KT rfl (fun cdv A outer s H E Y hy hr=> ?_) (fun ts h=>rfl)
 refine zh ?_ ?_
 refine Z1 (i:=3) KT.nd (by rfl) (.inl (by rfl)) ?_
 refine cZ hy O_g hr tx.C_g ?_
 exact za (zb 0 (pv 0)) (za (zb 1 (pv 1)) (za zd zi))
 refine zh ?_ ?_
 refine JJ PassesOwn.never (by rfl) ?_ ?_ ?_
 exact jE (by rfl) tx.z_range zd
 exact jQ (i:=4) KT.nd (by rfl) (.inl (by rfl))
 refine zh ?_ ?_
 refine zP ?_ ?_ ?_
 exact zy ZM Z6 (Snd.b (cZ hy O_9 hr tx.C_9 (za (zb 3 (pv 3)) zi))) (zj 2 (pv 2)) (zm _)
 exact zn (zr (zb 3 (pv 3)))
 exact zO
 refine zn ?_
 refine Z1 (i:=3) KT.nd (by rfl) (.inl (by rfl)) ?_
 refine cZ hy O_g hr tx.C_g ?_
 refine za ?_ ?_
 exact zb 0 (pv 0)
 refine za ?_ ?_
 exact zC (zC (zb 1 (pv 1)) zd) (j9 zd (zb 4 (pv 4)))
 exact za zd zi
 refine zn ?_
 refine zr ?_
 refine V5 ?_ ?_ ?_
 exact zy ZM Z6 (Snd.b (cZ hy O_9 hr tx.C_9 (za (zb 3 (pv 3)) zi))) (zj 2 (pv 2)) (zm _)
 exact zb 3 (pv 3)
 refine jk ?_
 refine za ?_ ?_
 exact zF
 exact za (YH zd) (za zd zi)
theorem ok_n {j:Nat} (hj:0<=j) {c_n:List T->R T} (O_n:Q_n P w base cl tx j c_n):Q_n P w base cl tx (j+1) (fun ts=>zo (b_n c_n (en0 3 ts))):=by
 refine Zj tx.C_n.F Go rfl (fun cdv A outer s H E Y hy hr=> ?_) (fun ts h=>rfl)
 refine zh ?_ ?_
 exact wz (i:=1) Go.nd (by rfl) (.inl (by rfl)) (za (jk zi) zi)
 refine zh ?_ ?_
 refine zP ?_ ?_ ?_
 exact jw (Snd.b (Jd (n:="tuple") (ZX _) (by rfl) tx.z_isinstance (by rfl) tx.z_tuple PyProof.Rows.Boot.«tuple» (zj 0 (pv 0))))
 refine zn ?_
 refine JJ PassesOwn.never (by rfl) ?_ ?_ ?_
 exact jE (by rfl) tx.z_range (Z9 (by rfl) tx.z_len (zj 0 (pv 0)))
 exact jQ (i:=2) Go.nd (by rfl) (.inr (by rfl))
 refine zn ?_
 refine YV (i:=1) (pv 1) ?_
 refine Zo (zW ["_law_place","_law_k"] N_n (zf s_n) (by rfl) (by rfl) (by decide+kernel) (by rfl) ?_ (fun _ _ _ _ _ _=>zu (show List.Nodup (["_law_place","_law_k"]:List Str) by decide+kernel) (by rfl) (.inl (by rfl)) (.inr (by rfl))) (zA 0) (zB 0) (fun Y' hy' _ _ _ _ _ _=> ?_) (fun Y' hy' _ _ _ _ _ _=> ?_))
 exact ZZ (cZ hy O_n hr tx.C_n (za (zM (zb 0 (pv 0)) (zb 2 (pv 2))) zi))
 exact Zx
 exact zC (jk (za (zb 1 (pv 1)) zi)) (zb 0 (pv 0))
 exact zO
 exact zn (zr (zb 1 (pv 1)))
theorem GK:GC P w base cl tx 1 (fun ts=>zo (KD  (en0 3 ts))):=by
 refine Zj tx.C_11.F Xr rfl (fun cdv A outer s H E Y hy hr=> ?_) (fun ts h=>rfl)
 refine zh ?_ ?_
 refine JJ PassesOwn.never (by rfl) ?_ ?_ ?_
 exact ZZ (zb 1 (pv 1))
 exact jQ (i:=2) Xr.nd (by rfl) (.inl (by rfl))
 exact zn (Z1 (i:=0) Xr.nd (by rfl) (.inl (by rfl)) (zM (zb 0 (pv 0)) (zb 2 (pv 2))))
 exact zn (zr (zb 0 (pv 0)))
theorem ok_a {j:Nat} (hj:0<=j) {c_a:List T->R T} (O_a:Q_a P w base cl tx j c_a):Q_a P w base cl tx (j+1) (fun ts=>zo (b_a c_a (en0 4 ts))):=by
 refine Zj tx.C_a.F sc_a rfl (fun cdv A outer s H E Y hy hr=> ?_) (fun ts h=>rfl)
 refine zh ?_ ?_
 refine zP ?_ ?_ ?_
 exact zy zS (zv hr.units) (zj 1 (pv 1)) (Snd.b (jk zi)) (zm _)
 exact zn (zr (zb 2 (pv 2)))
 exact zO
 refine zh ?_ ?_
 exact Z1 (i:=3) sc_a.nd (by rfl) (.inl (by rfl)) (zM (zb 1 (pv 1)) zd)
 refine zn ?_
 refine zr ?_
 refine zC ?_ ?_
 refine zC ?_ ?_
 exact Zr (zb 0 (pv 0)) ZY (ZN (zb 3 (pv 3)))
 refine jk ?_
 refine za ?_ ?_
 refine cZ hy O_a hr tx.C_a ?_
 refine za ?_ ?_
 exact zM (zb 0 (pv 0)) (zb 3 (pv 3))
 refine za ?_ ?_
 exact Zr (zb 1 (pv 1)) (ZN zd) ZY
 exact za (zb 2 (pv 2)) zi
 exact zi
 exact Zr (zb 0 (pv 0)) (ZN (zC (zb 3 (pv 3)) zd)) ZY
theorem ok_r {c_4 c_n c_11 c_a:List T->R T} (O_4:Q_4 P w base cl tx 2 c_4) (O_n:Q_n P w base cl tx 40 c_n) (O_11:GC P w base cl tx 1 c_11) (O_a:Q_a P w base cl tx 40 c_a):Q_r P w base cl tx 41 (fun ts=>zo (b_r c_4 c_n c_11 c_a (en0 9 ts))):=by
 refine Zj tx.C_r.F Xs rfl (fun cdv A outer s H E Y hy hr=> ?_) (fun ts h=>rfl)
 refine zh ?_ ?_
 exact Z1 (i:=3) Xs.nd (by rfl) (.inl (by rfl)) (cZ hy O_n hr tx.C_n (za (zb 2 (pv 2)) zi))
 refine zh ?_ ?_
 refine Z1 (i:=4) Xs.nd (by rfl) (.inl (by rfl)) ?_
 refine zM ?_ ?_
 exact zb 3 (pv 3)
 refine cZ hy O_4 hr tx.C_4 ?_
 refine za ?_ ?_
 exact zb 0 (pv 0)
 exact za (zb 1 (pv 1)) (za (Z9 (by rfl) tx.z_len (zj 3 (pv 3))) zi)
 refine zh ?_ ?_
 exact Z1 (i:=5) Xs.nd (by rfl) (.inl (by rfl)) (cZ hy O_11 hr tx.C_11 (za (zb 2 (pv 2)) (za (zb 4 (pv 4)) zi)))
 refine zh ?_ ?_
 refine Z1 (i:=6) Xs.nd (by rfl) (.inl (by rfl)) ?_
 refine ZK ?_
 refine za ?_ ?_
 exact zd
 refine za ?_ ?_
 exact zd
 refine za ?_ ?_
 exact YH zd
 refine za ?_ ?_
 exact zd
 refine za ?_ ?_
 exact zd
 refine za ?_ ?_
 exact zd
 refine za ?_ ?_
 exact uZ
 refine za ?_ ?_
 exact QQ
 refine za ?_ ?_
 exact zF
 refine za ?_ ?_
 exact zF
 refine za ?_ ?_
 exact zF
 refine za ?_ ?_
 exact zF
 refine za ?_ ?_
 exact zF
 refine za ?_ ?_
 exact zF
 refine za ?_ ?_
 exact jk zi
 refine za ?_ ?_
 exact jk (za (zb 5 (pv 5)) zi)
 refine za ?_ ?_
 exact ZK (za (zb 5 (pv 5)) zi)
 refine za ?_ ?_
 refine jk ?_
 exact za zF (za zd (za zd zi))
 exact zi
 refine zh ?_ ?_
 refine Z1 (i:=7) Xs.nd (by rfl) (.inl (by rfl)) ?_
 refine cZ hy O_4 hr tx.C_4 ?_
 refine za ?_ ?_
 exact zb 0 (pv 0)
 refine za ?_ ?_
 exact zC (zb 1 (pv 1)) zd
 exact za (zC (Z9 (by rfl) tx.z_len (zj 6 (pv 6))) zd) zi
 refine zh ?_ ?_
 refine zP ?_ ?_ ?_
 exact zy yJ W7 (zj 7 (pv 7)) (Snd.b (Z9 (by rfl) tx.z_len (zj 6 (pv 6)))) (zm _)
 refine zn ?_
 refine zr ?_
 refine cZ hy O_a hr tx.C_a ?_
 refine za ?_ ?_
 exact zb 2 (pv 2)
 exact za (zb 4 (pv 4)) (za (zM (zb 6 (pv 6)) (zb 7 (pv 7))) zi)
 exact zO
 refine zh ?_ ?_
 refine zP ?_ ?_ ?_
 refine JH.t ?_
 refine yL ?_ ?_
 exact jw (Snd.b (Jd (n:="tuple") (ZX _) (by rfl) tx.z_isinstance (by rfl) tx.z_tuple PyProof.Rows.Boot.«tuple» (zj 5 (pv 5))))
 exact W8 (zy Ju (jl hr.units) (zj 5 (pv 5)) (Snd.b (jk zi)) (zm _))
 refine zh ?_ ?_
 refine Z1 (i:=8) Xs.nd (by rfl) (.inl (by rfl)) ?_
 refine cZ hy O_4 hr tx.C_4 ?_
 refine za ?_ ?_
 exact zb 0 (pv 0)
 refine za ?_ ?_
 exact zC (zb 1 (pv 1)) zd
 exact za (Z9 (by rfl) tx.z_len (zj 5 (pv 5))) zi
 refine zn ?_
 refine zr ?_
 refine cZ hy O_a hr tx.C_a ?_
 refine za ?_ ?_
 exact zb 2 (pv 2)
 refine za ?_ ?_
 exact zb 4 (pv 4)
 refine za ?_ ?_
 refine zM ?_ ?_
 refine ZK ?_
 refine za ?_ ?_
 refine zC ?_ ?_
 exact Zr (zb 5 (pv 5)) ZY (ZN (zb 8 (pv 8)))
 exact Zr (zb 5 (pv 5)) (ZN (zC (zb 8 (pv 8)) zd)) ZY
 refine za ?_ ?_
 refine zC ?_ ?_
 refine zC ?_ ?_
 exact Zr (zb 5 (pv 5)) ZY (ZN (zb 8 (pv 8)))
 refine Zr ?_ ?_ ?_
 exact zb 5 (pv 5)
 exact ZN (zb 8 (pv 8))
 exact ZN (zC (zb 8 (pv 8)) zd)
 exact Zr (zb 5 (pv 5)) (ZN (zb 8 (pv 8))) ZY
 exact zi
 exact yI (zb 7 (pv 7)) zd
 exact zi
 exact zO
 refine zh ?_ ?_
 refine zP ?_ ?_ ?_
 exact jw (Snd.b (Jd (n:="int") (Uc _) (by rfl) tx.z_isinstance (by rfl) tx.z_int PyProof.Rows.Boot.«int» (zj 5 (pv 5))))
 refine zn ?_
 refine zr ?_
 refine cZ hy O_a hr tx.C_a ?_
 refine za ?_ ?_
 exact zb 2 (pv 2)
 refine za ?_ ?_
 exact zb 4 (pv 4)
 refine za ?_ ?_
 refine jN ?_ ?_
 exact zC (zb 5 (pv 5)) zd
 exact j9 zd (yI (zb 7 (pv 7)) zd)
 exact zi
 exact zO
 refine zn ?_
 refine zr ?_
 refine cZ hy O_a hr tx.C_a ?_
 refine za ?_ ?_
 exact zb 2 (pv 2)
 refine za ?_ ?_
 exact zb 4 (pv 4)
 refine za ?_ ?_
 refine jk ?_
 refine za ?_ ?_
 exact zF
 refine za ?_ ?_
 exact jk (za (zb 5 (pv 5)) (za (zb 5 (pv 5)) zi))
 exact zi
 exact zi
theorem ok_x:Q_x P w base cl tx 1 (fun ts=>zo (b_x  (en0 1 ts))):=by
 refine Zj tx.C_x.F sc_x rfl (fun cdv A outer s H E Y hy hr=> ?_) (fun ts h=>rfl)
 refine zn ?_
 refine zr ?_
 refine Vf hr.hd (by rfl) tx.z_min ?_
 refine Snd.b ?_
 refine Zo (zW ["_law_one"] N_x (zf s_x) (by rfl) (by rfl) (by decide+kernel) (by rfl) ?_ (fun _ _ _ _ _ _=>zu (show List.Nodup (["_law_one"]:List Str) by decide+kernel) (by rfl) (.inl (by rfl)) (.inr (by rfl))) (zA 0) (zB 0) (fun Y' hy' _ _ _ _ _ _=> ?_) (fun Y' hy' _ _ _ _ _ _=> ?_))
 refine YX (by rfl) tx.z_range ?_ ?_
 exact zM (zb 0 (pv 0)) zd
 exact zC (zM (zb 0 (pv 0)) zd) zd
 exact Zx
 exact qp (by rfl) tx.z_abs (zj 0 (pv 0))
theorem ok_6 {j:Nat} (hj:1<=j) {c_6 c_x:List T->R T} (O_6:Q_6 P w base cl tx j c_6) (O_x:Q_x P w base cl tx 1 c_x):Q_6 P w base cl tx (j+1) (fun ts=>zo (b_6 c_6 c_x (en0 6 ts))):=by
 refine Zj tx.C_6.F Kp rfl (fun cdv A outer s H E Y hy hr=> ?_) (fun ts h=>rfl)
 refine zh ?_ ?_
 refine zP ?_ ?_ ?_
 exact zy zS (zv hr.units) (Snd.b (zM (zb 0 (pv 0)) zd)) (Snd.b zF) (zm _)
 refine zn ?_
 refine zr ?_
 refine Vf hr.hd (by rfl) tx.z_min ?_
 refine Snd.b ?_
 refine Zo (zW ["_law_one","_law_kind_here","_law_worth"] N_6 (zf s_6) (by rfl) (by rfl) (by decide+kernel) (by rfl) ?_ (fun _ _ _ _ _ _=>zu (show List.Nodup (["_law_one","_law_kind_here","_law_worth"]:List Str) by decide+kernel) (by rfl) (.inl (by rfl)) (.inr (by rfl))) (zA 0) (zB 0) (fun Y' hy' _ _ _ _ _ _=> ?_) (fun Y' hy' _ _ _ _ _ _=> ?_))
 refine YX (by rfl) tx.z_range ?_ ?_
 exact zM (zb 0 (pv 0)) zd
 exact zC (zM (zb 0 (pv 0)) zd) zd
 refine Jg ?_
 refine zy zS (zv hr.units) ?_ ?_ (zm _)
 exact Snd.b (qp (by rfl) tx.z_abs (zj 0 (pv 0)))
 exact Snd.b (cZ (hy'.trans hy) O_x hr tx.C_x (za (zb 1 (pv 1)) zi))
 exact qp (by rfl) tx.z_abs (Snd.b (jN (zb 2 (pv 2)) (zb 0 (pv 0))))
 exact zO
 refine zh ?_ ?_
 refine zP ?_ ?_ ?_
 exact zy zS (zv hr.units) (Snd.b (zM (zb 0 (pv 0)) zd)) (Snd.b zF) (zm _)
 refine zn ?_
 refine zr ?_
 refine Wy hr.units ?_ ?_
 refine Snd.b ?_
 refine Zo (zW ["_law_word_here","_law_many"] N_6 (zf s_6) (by rfl) (by rfl) (by decide+kernel) (by rfl) ?_ (fun _ _ _ _ _ _=>W2 (by rfl) (ZF (zu (show List.Nodup (["_law_word_here","_law_many"]:List Str) by decide+kernel) (by rfl) (.inl (by rfl)) (.inr (by rfl))) (ZF (zu (show List.Nodup (["_law_word_here","_law_many"]:List Str) by decide+kernel) (by rfl) (.inl (by rfl)) (.inr (by rfl))) JF))) (Jx _ 0 1) (Jy 0 1) (fun Y' hy' _ _ _ _ _ _=> ?_) (fun Y' hy' _ _ _ _ _ _=> ?_))
 exact ZZ (zM (zb 0 (pv 0)) zd)
 exact Zx
 exact zb 0 (pv 0)
 exact zj 1 (pv 1)
 exact zO
 refine zh ?_ ?_
 refine Z1 (i:=2) Kp.nd (by rfl) (.inl (by rfl)) ?_
 refine V5 ?_ ?_ ?_
 exact zy zS (zv hr.units) (Snd.b (zM (zb 0 (pv 0)) zd)) (Snd.b zF) (zm _)
 exact zM (zb 0 (pv 0)) zd
 refine j9 ?_ ?_
 exact ZK (za (zM (zb 0 (pv 0)) zd) zi)
 exact Z9 (by rfl) tx.z_len (zj 1 (pv 1))
 refine zh ?_ ?_
 refine Z1 (i:=3) Kp.nd (by rfl) (.inl (by rfl)) ?_
 refine V5 ?_ ?_ ?_
 exact zy zS (zv hr.units) (Snd.b (zM (zb 0 (pv 0)) zd)) (Snd.b zF) (zm _)
 exact zd
 exact jN (Z9 (by rfl) tx.z_len (zj 1 (pv 1))) (zM (zb 0 (pv 0)) zd)
 refine zh ?_ ?_
 refine JJ PassesOwn.never (by rfl) ?_ ?_ ?_
 exact xL (by rfl) tx.z_zip (zb 2 (pv 2)) (zb 1 (pv 1))
 exact Vd (i:=4) (j:=5) (by rfl) Kp.nd (by rfl) (by rfl) (.inl (by rfl)) (.inl (by rfl))
 refine zn ?_
 refine Z1 (i:=3) Kp.nd (by rfl) (.inl (by rfl)) ?_
 refine zC ?_ ?_
 exact zb 3 (pv 3)
 exact cZ hy O_6 hr tx.C_6 (za (zb 4 (pv 4)) (za (zb 5 (pv 5)) zi))
 exact zn (zr (zb 3 (pv 3)))
theorem ok_c {j:Nat} (hj:9<=j) {c_5 c_6 c_c:List T->R T} (O_5:Q_5 P w base cl tx 9 c_5) (O_6:Q_6 P w base cl tx 9 c_6) (O_c:Q_c P w base cl tx j c_c):Q_c P w base cl tx (j+1) (fun ts=>zo (b_c c_5 c_6 c_c (en0 6 ts))):=by
 refine Zj tx.C_c.F Xt rfl (fun cdv A outer s H E Y hy hr=> ?_) (fun ts h=>rfl)
 refine zh ?_ ?_
 refine zP ?_ ?_ ?_
 refine zy yK (UL hr.units) ?_ ?_ (by rfl)
 exact Snd.b (zM (zb 0 (pv 0)) zd)
 exact Snd.b (jk (za zF (za zF zi)))
 refine zh ?_ ?_
 refine wD (i:=2) (zW ["_law_one","_law_kind_here","_law_worth"] N_c (zf s_c) (by rfl) (by rfl) (by decide+kernel) (by rfl) ?_ (fun _ _ _ _ _ _=>zu (show List.Nodup (["_law_one","_law_kind_here","_law_worth"]:List Str) by decide+kernel) (by rfl) (.inl (by rfl)) (.inr (by rfl))) (zA 0) (zB 0) (fun Y' hy' _ _ _ _ _ _=> ?_) (fun Y' hy' _ _ _ _ _ _=> ?_)) Xt.nd (by rfl) (.inl (by rfl)) (by rfl)
 exact ZZ (cZ hy O_5 hr tx.C_5 (za (zb 0 (pv 0)) zi))
 refine Jg ?_
 refine zy zS (zv hr.units) ?_ ?_ (zm _)
 exact Snd.b (cZ (hy'.trans hy) O_6 hr tx.C_6 (za (zb 1 (pv 1)) (za (zb 0 (pv 0)) zi)))
 refine Snd.b ?_
 refine jN ?_ ?_
 exact cZ (hy'.trans hy) O_6 hr tx.C_6 (za (zb 1 (pv 1)) (za (zb 2 (pv 2)) zi))
 exact zd
 exact zb 0 (pv 0)
 refine zh ?_ ?_
 refine zP ?_ ?_ ?_
 exact zy zS (zv hr.units) (Snd.b (zM (zb 0 (pv 0)) zd)) (Snd.b zF) (zm _)
 refine zn ?_
 refine wD (i:=2) (zW ["_law_one","_law_worth"] N_c (zf s_c) (by rfl) (by rfl) (by decide+kernel) (by rfl) ?_ (fun _ _ _ _ _ _=>zu (show List.Nodup (["_law_one","_law_worth"]:List Str) by decide+kernel) (by rfl) (.inl (by rfl)) (.inr (by rfl))) (zA 0) (zB 0) (fun Y' hy' _ _ _ _ _ _=> ?_) (fun Y' hy' _ _ _ _ _ _=> ?_)) Xt.nd (by rfl) (.inl (by rfl)) (by rfl)
 exact ZZ (zb 2 (pv 2))
 refine Jg ?_
 refine zy zS (zv hr.units) ?_ ?_ (zm _)
 exact Snd.b (qp (by rfl) tx.z_abs (Snd.b (jN (zb 0 (pv 0)) (zb 1 (pv 1)))))
 exact Snd.b zd
 exact zb 0 (pv 0)
 exact zO
 exact zn (zr (zb 2 (pv 2)))
 exact zO
 refine zh ?_ ?_
 exact wz (i:=3) Xt.nd (by rfl) (.inl (by rfl)) zi
 refine zh ?_ ?_
 refine zP ?_ ?_ ?_
 refine JH.t ?_
 refine yL ?_ ?_
 exact zy zS (zv hr.units) (Snd.b (zM (zb 0 (pv 0)) zd)) (Snd.b zF) (zm _)
 refine W8 ?_
 refine zy YI uj ?_ ?_ (zm _)
 exact Snd.b (Z9 (by rfl) tx.z_len (zj 1 (pv 1)))
 exact Snd.b (zM (zb 0 (pv 0)) zd)
 refine zn ?_
 refine xP (i:=3) (zW ["_law_k","_law_worth"] N_c (zf s_c) (by rfl) (by rfl) (by decide+kernel) (by rfl) ?_ (fun _ _ _ _ _ _=>zu (show List.Nodup (["_law_k","_law_worth"]:List Str) by decide+kernel) (by rfl) (.inl (by rfl)) (.inr (by rfl))) (zA 0) (zB 0) (fun Y' hy' _ _ _ _ _ _=> ?_) (fun Y' hy' _ _ _ _ _ _=> ?_)) Xt.nd (by rfl) (.inl (by rfl)) (by rfl)
 exact jE (by rfl) tx.z_range (Z9 (by rfl) tx.z_len (zj 1 (pv 1)))
 exact Zx
 refine zC ?_ ?_
 exact Zr (zb 1 (pv 1)) ZY (ZN (zb 0 (pv 0)))
 exact Zr (zb 1 (pv 1)) (ZN (zC (zb 0 (pv 0)) zd)) ZY
 exact zO
 refine zh ?_ ?_
 refine JJ PassesOwn.never (by rfl) ?_ ?_ ?_
 exact jE (by rfl) tx.z_range (Z9 (by rfl) tx.z_len (zj 1 (pv 1)))
 exact jQ (i:=4) Xt.nd (by rfl) (.inr (by rfl))
 refine zh ?_ ?_
 refine Z1 (i:=5) Xt.nd (by rfl) (.inl (by rfl)) ?_
 refine V5 ?_ ?_ ?_
 exact zy zS (zv hr.units) (Snd.b (zM (zb 0 (pv 0)) zd)) (Snd.b zF) (zm _)
 exact zM (zM (zb 0 (pv 0)) zd) (zb 4 (pv 4))
 exact zM (zb 0 (pv 0)) zd
 refine zn ?_
 refine YV (i:=3) (pv 3) ?_
 refine Zo (zW ["_law_part","_law_worth","_law_k"] N_c (zf s_c) (by rfl) (by rfl) (by decide+kernel) (by rfl) ?_ (fun _ _ _ _ _ _=>zu (show List.Nodup (["_law_part","_law_worth","_law_k"]:List Str) by decide+kernel) (by rfl) (.inl (by rfl)) (.inr (by rfl))) (zA 0) (zB 0) (fun Y' hy' _ _ _ _ _ _=> ?_) (fun Y' hy' _ _ _ _ _ _=> ?_))
 refine ZZ ?_
 refine cZ hy O_c hr tx.C_c ?_
 exact za (zb 5 (pv 5)) (za (zM (zb 1 (pv 1)) (zb 4 (pv 4))) zi)
 exact Zx
 refine zC ?_ ?_
 refine zC ?_ ?_
 exact Zr (zb 1 (pv 1)) ZY (ZN (zb 2 (pv 2)))
 exact jk (za (zb 0 (pv 0)) zi)
 exact Zr (zb 1 (pv 1)) (ZN (zC (zb 2 (pv 2)) zd)) ZY
 exact zn (zr (zb 3 (pv 3)))
theorem ok_p:Q_p P w base cl tx 1 (fun ts=>zo (b_p  (en0 3 ts))):=by
 refine Zj tx.C_p.F sc_p rfl (fun cdv A outer s H E Y hy hr=> ?_) (fun ts h=>rfl)
 refine zn ?_
 refine zr ?_
 refine jd ?_ ?_
 exact Jd (n:="int") (Uc _) (by rfl) tx.z_isinstance (by rfl) tx.z_int PyProof.Rows.Boot.«int» (zj 0 (pv 0))
 refine jd ?_ ?_
 exact kr (Jd (n:="bool") (UM _) (by rfl) tx.z_isinstance (by rfl) tx.z_bool PyProof.Rows.Boot.«bool» (zj 0 (pv 0)))
 exact jP (jO ZM ZM Z6 Z6 (zj 1 (pv 1)) (zj 0 (pv 0)) (zj 2 (pv 2)))
theorem ok_t:Q_t P w base cl tx 1 (fun ts=>zo (b_t  (en0 1 ts))):=by
 refine Zj tx.C_t.F sc_t rfl (fun cdv A outer s H E Y hy hr=> ?_) (fun ts h=>rfl)
 refine zn ?_
 refine zr ?_
 refine jd ?_ ?_
 exact Jd (n:="str") (Ud _) (by rfl) tx.z_isinstance (by rfl) tx.z_str PyProof.Rows.Boot.«str» (zj 0 (pv 0))
 refine jd ?_ ?_
 refine jO ZM ZM Z6 Z6 ?_ ?_ ?_
 exact Snd.b zd
 exact Snd.b (Z9 (by rfl) tx.z_len (zj 0 (pv 0)))
 exact Snd.b zd
 refine jP ?_
 refine Jt zS (zv hr.units) ?_ ?_ (zm _)
 refine Snd.b ?_
 refine Zo (zW ["_law_sign"] N_t (zf s_t) (by rfl) (by rfl) (by decide+kernel) (by rfl) ?_ (fun _ _ _ _ _ _=>zu (show List.Nodup (["_law_sign"]:List Str) by decide+kernel) (by rfl) (.inl (by rfl)) (.inr (by rfl))) (zA 0) (zB 0) (fun Y' hy' _ _ _ _ _ _=> ?_) (fun Y' hy' _ _ _ _ _ _=> ?_))
 exact ZZ (zb 0 (pv 0))
 refine Jg ?_
 exact jJ (Wr ZM ZM Z6 Z6 (Snd.b zF) (zj 0 (pv 0)) (Snd.b zF))
 exact zb 0 (pv 0)
 exact Snd.b (ZK zi)
theorem ok_b {j:Nat} (hj:1<=j) {c_p c_t c_b:List T->R T} (O_p:Q_p P w base cl tx 1 c_p) (O_t:Q_t P w base cl tx 1 c_t) (O_b:Q_b P w base cl tx j c_b):Q_b P w base cl tx (j+1) (fun ts=>zo (b_b c_p c_t c_b (en0 6 ts))):=by
 refine Zj tx.C_b.F KU rfl (fun cdv A outer s H E Y hy hr=> ?_) (fun ts h=>rfl)
 refine zh ?_ ?_
 refine zP ?_ ?_ ?_
 refine JH.t ?_
 refine WZ ?_ ?_
 exact jJ (jw (Snd.b (Jd (n:="tuple") (ZX _) (by rfl) tx.z_isinstance (by rfl) tx.z_tuple PyProof.Rows.Boot.«tuple» (zj 0 (pv 0)))))
 refine WZ ?_ ?_
 exact zy yJ W7 (Snd.b (Z9 (by rfl) tx.z_len (zj 0 (pv 0)))) (Snd.b zd) (zm _)
 refine WZ ?_ ?_
 refine jJ ?_
 exact jw (Snd.b (Jd (n:="str") (Ud _) (by rfl) tx.z_isinstance (by rfl) tx.z_str PyProof.Rows.Boot.«str» (Snd.b (zM (zb 0 (pv 0)) zd))))
 exact wx (zy yJ W7 (zj 1 (pv 1)) (Snd.b zd) (zm _))
 exact zn (zr uZ)
 exact zO
 refine zh ?_ ?_
 refine gS (i:=2) (j:=3) (by rfl) KU.nd (by rfl) (by rfl) (by decide) (by rfl) (by rfl) ?_ (by rfl)
 refine za ?_ ?_
 exact zM (zb 0 (pv 0)) zd
 exact za (Zr (zb 0 (pv 0)) (ZN zd) ZY) zi
 refine zh ?_ ?_
 refine zP ?_ ?_ ?_
 exact zy zS (zv hr.units) (zj 2 (pv 2)) (Snd.b zF) (zm _)
 refine zn ?_
 refine zr ?_
 refine jd ?_ ?_
 exact Jt zS (zv hr.units) (Snd.b (Z9 (by rfl) tx.z_len (zj 3 (pv 3)))) (Snd.b zd) (zm _)
 refine jd ?_ ?_
 refine cZ hy O_p hr tx.C_p ?_
 refine za ?_ ?_
 exact zM (zb 3 (pv 3)) zd
 exact za (YH zd) (za zd zi)
 refine jP ?_
 refine cZ hy O_p hr tx.C_p ?_
 refine za ?_ ?_
 exact zM (zb 3 (pv 3)) zd
 exact za (zM (zb 3 (pv 3)) zd) (za zd zi)
 exact zO
 refine zh ?_ ?_
 refine zP ?_ ?_ ?_
 exact zy zS (zv hr.units) (zj 2 (pv 2)) (Snd.b zF) (zm _)
 refine zh ?_ ?_
 refine zP ?_ ?_ ?_
 refine JH.t ?_
 refine WZ ?_ ?_
 exact zy Ju (jl hr.units) (Snd.b (Z9 (by rfl) tx.z_len (zj 3 (pv 3)))) (Snd.b zd) (zm _)
 refine WZ ?_ ?_
 refine jJ ?_
 exact jw (Snd.b (Jd (n:="tuple") (ZX _) (by rfl) tx.z_isinstance (by rfl) tx.z_tuple PyProof.Rows.Boot.«tuple» (Snd.b (zM (zb 3 (pv 3)) zd))))
 refine wx ?_
 refine jJ ?_
 refine Wr ZM ZM Z6 Z6 ?_ ?_ ?_
 exact Snd.b zd
 exact Snd.b (Z9 (by rfl) tx.z_len (Snd.b (zM (zb 3 (pv 3)) zd)))
 exact Snd.b zd
 exact zn (zr uZ)
 exact zO
 refine zh ?_ ?_
 refine wD (i:=4) (zW ["_law_one"] N_b (zf s_b) (by rfl) (by rfl) (by decide+kernel) (by rfl) ?_ (fun _ _ _ _ _ _=>zu (show List.Nodup (["_law_one"]:List Str) by decide+kernel) (by rfl) (.inl (by rfl)) (.inr (by rfl))) (zA 0) (zB 0) (fun Y' hy' _ _ _ _ _ _=> ?_) (fun Y' hy' _ _ _ _ _ _=> ?_)) KU.nd (by rfl) (.inl (by rfl)) (by rfl)
 exact ZZ (zM (zb 3 (pv 3)) zd)
 refine Jg ?_
 refine JH.t ?_
 refine yL ?_ ?_
 exact jw (Snd.b (Jd (n:="tuple") (ZX _) (by rfl) tx.z_isinstance (by rfl) tx.z_tuple PyProof.Rows.Boot.«tuple» (zj 0 (pv 0))))
 exact W8 (zy zS (zv hr.units) (Snd.b (Z9 (by rfl) tx.z_len (zj 0 (pv 0)))) (Snd.b zd) (zm _))
 exact zb 0 (pv 0)
 refine zh ?_ ?_
 refine Z1 (i:=5) KU.nd (by rfl) (.inr (by rfl)) (Zo (zW ["_law_one"] N_b (zf s_b) (by rfl) (by rfl) (by decide+kernel) (by rfl) ?_ (fun _ _ _ _ _ _=>zu (show List.Nodup (["_law_one"]:List Str) by decide+kernel) (by rfl) (.inl (by rfl)) (.inr (by rfl))) (zA 0) (zB 0) (fun Y' hy' _ _ _ _ _ _=> ?_) (fun Y' hy' _ _ _ _ _ _=> ?_)))
 exact ZZ (zb 4 (pv 4))
 refine Jg ?_
 refine JH.t ?_
 refine yL ?_ ?_
 refine jw ?_
 exact Snd.b (cZ (hy'.trans hy) O_t hr tx.C_t (za (zM (zb 0 (pv 0)) zd) zi))
 refine W8 ?_
 refine jw ?_
 refine Snd.b ?_
 refine cZ (hy'.trans hy) O_p hr tx.C_p ?_
 refine za ?_ ?_
 exact zM (zb 0 (pv 0)) zd
 exact za zd (za zd zi)
 exact zM (zb 0 (pv 0)) zd
 refine zn ?_
 refine zr ?_
 refine jd ?_ ?_
 refine Jt zS (zv hr.units) ?_ ?_ (zm _)
 exact Snd.b (Z9 (by rfl) tx.z_len (zj 5 (pv 5)))
 exact Snd.b (Z9 (by rfl) tx.z_len (Snd.b (zM (zb 3 (pv 3)) zd)))
 refine jP ?_
 refine Jt zS (zv hr.units) ?_ ?_ (zm _)
 refine Snd.b ?_
 refine Zo (zW ["_law_k","_law_words"] N_b (zf s_b) (by rfl) (by rfl) (by decide+kernel) (by rfl) ?_ (fun _ _ _ _ _ _=>zu (show List.Nodup (["_law_k","_law_words"]:List Str) by decide+kernel) (by rfl) (.inl (by rfl)) (.inr (by rfl))) (zA 0) (zB 0) (fun Y' hy' _ _ _ _ _ _=> ?_) (fun Y' hy' _ _ _ _ _ _=> ?_))
 exact jE (by rfl) tx.z_range (Z9 (by rfl) tx.z_len (zj 5 (pv 5)))
 refine Jg ?_
 refine zy yK (UL hr.units) ?_ ?_ (by rfl)
 exact Snd.b (zM (zb 1 (pv 1)) (zb 0 (pv 0)))
 exact Snd.b (Zr (zb 1 (pv 1)) ZY (ZN (zb 0 (pv 0))))
 exact zb 0 (pv 0)
 exact Snd.b (ZK zi)
 exact zO
 refine zh ?_ ?_
 refine zP ?_ ?_ ?_
 exact zy zS (zv hr.units) (zj 2 (pv 2)) (Snd.b zF) (zm _)
 refine zh ?_ ?_
 refine zP ?_ ?_ ?_
 refine JH.t ?_
 refine WZ ?_ ?_
 exact zy Ju (jl hr.units) (Snd.b (Z9 (by rfl) tx.z_len (zj 3 (pv 3)))) (Snd.b zd) (zm _)
 refine WZ ?_ ?_
 refine jJ ?_
 exact jw (Snd.b (Jd (n:="tuple") (ZX _) (by rfl) tx.z_isinstance (by rfl) tx.z_tuple PyProof.Rows.Boot.«tuple» (Snd.b (zM (zb 3 (pv 3)) zd))))
 refine wx ?_
 refine jJ ?_
 refine Wr ZM ZM Z6 Z6 ?_ ?_ ?_
 exact Snd.b zd
 exact Snd.b (Z9 (by rfl) tx.z_len (Snd.b (zM (zb 3 (pv 3)) zd)))
 exact Snd.b zd
 exact zn (zr uZ)
 exact zO
 refine zn ?_
 refine zr ?_
 refine Jt zS (zv hr.units) ?_ ?_ (zm _)
 refine Snd.b ?_
 refine Zo (zW ["_law_one","_law_deep"] N_b (zf s_b) (by rfl) (by rfl) (by decide+kernel) (by rfl) ?_ (fun _ _ _ _ _ _=>zu (show List.Nodup (["_law_one","_law_deep"]:List Str) by decide+kernel) (by rfl) (.inl (by rfl)) (.inr (by rfl))) (zA 0) (zB 0) (fun Y' hy' _ _ _ _ _ _=> ?_) (fun Y' hy' _ _ _ _ _ _=> ?_))
 exact ZZ (zM (zb 3 (pv 3)) zd)
 refine Jg ?_
 refine jJ ?_
 refine jw ?_
 refine Snd.b ?_
 refine cZ (hy'.trans hy) O_b hr tx.C_b ?_
 exact za (zb 0 (pv 0)) (za (jN (zb 1 (pv 1)) zd) zi)
 exact zb 0 (pv 0)
 exact Snd.b (ZK zi)
 exact zO
 refine zh ?_ ?_
 refine zP ?_ ?_ ?_
 refine JH.t ?_
 refine WZ ?_ ?_
 exact zy Ju (jl hr.units) (zj 2 (pv 2)) (Snd.b zF) (zm _)
 refine WZ ?_ ?_
 exact zy Ju (jl hr.units) (Snd.b (Z9 (by rfl) tx.z_len (zj 3 (pv 3)))) (Snd.b zd) (zm _)
 refine WZ ?_ ?_
 refine jJ ?_
 refine jw ?_
 refine Snd.b ?_
 refine cZ hy O_p hr tx.C_p ?_
 refine za ?_ ?_
 exact zM (zb 3 (pv 3)) zd
 exact za zd (za zd zi)
 refine wx ?_
 refine jJ ?_
 refine jw ?_
 refine Snd.b ?_
 refine cZ hy O_p hr tx.C_p ?_
 refine za ?_ ?_
 exact zM (zb 3 (pv 3)) zd
 exact za (zM (zb 3 (pv 3)) zd) (za zd zi)
 exact zn (zr uZ)
 exact zO
 refine zn ?_
 refine zr ?_
 refine cZ hy O_b hr tx.C_b ?_
 refine za ?_ ?_
 exact zM (zb 3 (pv 3)) zd
 exact za (jN (zb 1 (pv 1)) zd) zi
theorem ok_m:Q_m P w base cl tx 1 (fun ts=>zo (b_m  (en0 1 ts))):=by
 refine Zj tx.C_m.F sc_m rfl (fun cdv A outer s H E Y hy hr=> ?_) (fun ts h=>rfl)
 refine zn ?_
 refine zr ?_
 exact jd (Jd (n:="int") (Uc _) (by rfl) tx.z_isinstance (by rfl) tx.z_int PyProof.Rows.Boot.«int» (zj 0 (pv 0))) (jP (kr (Jd (n:="bool") (UM _) (by rfl) tx.z_isinstance (by rfl) tx.z_bool PyProof.Rows.Boot.«bool» (zj 0 (pv 0)))))
theorem GL {c_m:List T->R T} (O_m:Q_m P w base cl tx 1 c_m):GD P w base cl tx 2 (fun ts=>zo (b_18 c_m (en0 4 ts))):=by
 refine Zj tx.C_18.F Gp rfl (fun cdv A outer s H E Y hy hr=> ?_) (fun ts h=>rfl)
 refine zn ?_
 refine zr ?_
 refine jd ?_ ?_
 exact cZ hy O_m hr tx.C_m (za (zb 0 (pv 0)) zi)
 refine jd ?_ ?_
 exact cZ hy O_m hr tx.C_m (za (zb 1 (pv 1)) zi)
 exact jP (QT ZM ZM ZM Z6 Z6 Z6 (zj 2 (pv 2)) (zj 0 (pv 0)) (zj 1 (pv 1)) (zj 3 (pv 3)))
theorem ok_d:Q_d P w base cl tx 1 (fun ts=>zo (b_d  (en0 3 ts))):=by
 refine Zj tx.C_d.F sc_d rfl (fun cdv A outer s H E Y hy hr=> ?_) (fun ts h=>rfl)
 refine zn ?_
 refine zr ?_
 refine jd ?_ ?_
 exact Jd (n:="tuple") (ZX _) (by rfl) tx.z_isinstance (by rfl) tx.z_tuple PyProof.Rows.Boot.«tuple» (zj 0 (pv 0))
 exact jP (jO ZM ZM Z6 Z6 (zj 1 (pv 1)) (Snd.b (Z9 (by rfl) tx.z_len (zj 0 (pv 0)))) (zj 2 (pv 2)))
theorem ok_7:Q_7 P w base cl tx 1 (fun ts=>zo (b_7  (en0 1 ts))):=by
 refine Zj tx.C_7.F sc_7 rfl (fun cdv A outer s H E Y hy hr=> ?_) (fun ts h=>rfl)
 refine zh ?_ ?_
 refine zP ?_ ?_ ?_
 refine JH.t ?_
 refine WZ ?_ ?_
 exact jJ (jw (Snd.b (Jd (n:="str") (Ud _) (by rfl) tx.z_isinstance (by rfl) tx.z_str PyProof.Rows.Boot.«str» (zj 0 (pv 0)))))
 refine wx ?_
 refine jJ ?_
 refine Wr ZM ZM Z6 Z6 ?_ ?_ ?_
 exact Snd.b zd
 exact Snd.b (Z9 (by rfl) tx.z_len (zj 0 (pv 0)))
 exact Snd.b zd
 exact zn (zr uZ)
 exact zO
 refine zn ?_
 refine zr ?_
 refine QV hr.hd (by rfl) tx.z_all ?_
 refine Snd.b ?_
 refine Zo (zW ["sign"] N_7 (zf s_7) (by rfl) (by rfl) (by decide+kernel) (by rfl) ?_ (fun _ _ _ _ _ _=>zu (show List.Nodup (["sign"]:List Str) by decide+kernel) (by rfl) (.inl (by rfl)) (.inr (by rfl))) (zA 0) (zB 0) (fun Y' hy' _ _ _ _ _ _=> ?_) (fun Y' hy' _ _ _ _ _ _=> ?_))
 exact ZZ (zb 0 (pv 0))
 exact Zx
 exact jO ZM ZM Z6 Z6 (Snd.b zF) (zj 0 (pv 0)) (Snd.b zF)
theorem GM {c_m c_d c_7:List T->R T} (O_m:Q_m P w base cl tx 1 c_m) (O_d:Q_d P w base cl tx 1 c_d) (O_7:Q_7 P w base cl tx 1 c_7):GE P w base cl tx 2 (fun ts=>zo (KH c_m c_d c_7 (en0 1 ts))):=by
 refine Zj tx.C_14.F Gq rfl (fun cdv A outer s H E Y hy hr=> ?_) (fun ts h=>rfl)
 refine zn ?_
 refine zr ?_
 refine jd ?_ ?_
 refine cZ hy O_d hr tx.C_d ?_
 exact za (zb 0 (pv 0)) (za zd (za zd zi))
 refine jd ?_ ?_
 exact cZ hy O_7 hr tx.C_7 (za (zM (zb 0 (pv 0)) zd) zi)
 refine jd ?_ ?_
 exact cZ hy O_m hr tx.C_m (za (zM (zb 0 (pv 0)) zd) zi)
 refine jP ?_
 refine jO ZM ZM Z6 Z6 ?_ ?_ ?_
 exact Snd.b zd
 exact Snd.b (zM (zb 0 (pv 0)) zd)
 exact Snd.b zd
theorem ok_v {c_d c_14:List T->R T} (O_d:Q_d P w base cl tx 1 c_d) (O_14:GE P w base cl tx 2 c_14):Q_v P w base cl tx 3 (fun ts=>zo (b_v c_d c_14 (en0 2 ts))):=by
 refine Zj tx.C_v.F sc_v rfl (fun cdv A outer s H E Y hy hr=> ?_) (fun ts h=>rfl)
 refine zh ?_ ?_
 refine zP ?_ ?_ ?_
 refine JH.t ?_
 refine WZ ?_ ?_
 refine jJ ?_
 refine jw ?_
 refine Snd.b ?_
 refine cZ hy O_d hr tx.C_d ?_
 exact za (zb 0 (pv 0)) (za zd (za zd zi))
 refine wx ?_
 refine jJ ?_
 refine jw ?_
 refine Snd.b ?_
 refine QV hr.hd (by rfl) tx.z_all ?_
 refine Snd.b ?_
 refine Zo (zW ["part"] N_v (zf s_v) (by rfl) (by rfl) (by decide+kernel) (by rfl) ?_ (fun _ _ _ _ _ _=>zu (show List.Nodup (["part"]:List Str) by decide+kernel) (by rfl) (.inl (by rfl)) (.inr (by rfl))) (zA 0) (zB 0) (fun Y' hy' _ _ _ _ _ _=> ?_) (fun Y' hy' _ _ _ _ _ _=> ?_))
 exact ZZ (zb 0 (pv 0))
 exact Zx
 exact cZ (hy'.trans hy) O_14 hr tx.C_14 (za (zb 0 (pv 0)) zi)
 exact zn (zr uZ)
 exact zO
 refine zh ?_ ?_
 refine wD (i:=1) (zW ["choice"] N_v (zf s_v) (by rfl) (by rfl) (by decide+kernel) (by rfl) ?_ (fun _ _ _ _ _ _=>zu (show List.Nodup (["choice"]:List Str) by decide+kernel) (by rfl) (.inl (by rfl)) (.inr (by rfl))) (zA 0) (zB 0) (fun Y' hy' _ _ _ _ _ _=> ?_) (fun Y' hy' _ _ _ _ _ _=> ?_)) sc_v.nd (by rfl) (.inl (by rfl)) (by rfl)
 exact ZZ (zb 0 (pv 0))
 exact Zx
 exact zM (zb 0 (pv 0)) zd
 refine zn ?_
 refine zr ?_
 exact Jt zS (zv hr.units) (Snd.b (kD hr.hd (by rfl) tx.z_len (by rfl) tx.z_set (zj 1 (pv 1)))) (Snd.b (Z9 (by rfl) tx.z_len (zj 1 (pv 1)))) (zm _)
theorem ok_e {j:Nat} (hj:3<=j) {c_18 c_e c_v c_19:List T->R T} (O_18:GD P w base cl tx 2 c_18) (O_e:Q_e P w base cl tx j c_e) (O_v:Q_v P w base cl tx 3 c_v) (O_19:KZ P w base cl tx j c_19):Q_e P w base cl tx (j+1) (fun ts=>zo (b_e c_18 c_e c_v c_19 (en0 2 ts))):=by
 refine Zj tx.C_e.F sc_e rfl (fun cdv A outer s H E Y hy hr=> ?_) (fun ts h=>rfl)
 refine zh ?_ ?_
 refine zP ?_ ?_ ?_
 refine JH.t ?_
 refine WZ ?_ ?_
 exact zy zS (zv hr.units) (zj 1 (pv 1)) (Snd.b zd) (zm _)
 refine WZ ?_ ?_
 exact jJ (jw (Snd.b (Jd (n:="tuple") (ZX _) (by rfl) tx.z_isinstance (by rfl) tx.z_tuple PyProof.Rows.Boot.«tuple» (zj 0 (pv 0)))))
 exact wx (zy zS (zv hr.units) (Snd.b (Z9 (by rfl) tx.z_len (zj 0 (pv 0)))) (Snd.b zd) (zm _))
 exact zn (zr uZ)
 exact zO
 refine zh ?_ ?_
 refine zP ?_ ?_ ?_
 exact zy zS (zv hr.units) (Snd.b (zM (zb 0 (pv 0)) zd)) (Snd.b zF) (zm _)
 refine zn ?_
 refine zr ?_
 refine jd ?_ ?_
 exact Jt zS (zv hr.units) (Snd.b (Z9 (by rfl) tx.z_len (zj 0 (pv 0)))) (Snd.b zd) (zm _)
 refine jP ?_
 refine cZ hy O_18 hr tx.C_18 ?_
 refine za ?_ ?_
 exact zM (zb 0 (pv 0)) zd
 refine za ?_ ?_
 exact zM (zb 0 (pv 0)) zd
 exact za (YH zd) (za zd zi)
 exact zO
 refine zh ?_ ?_
 refine zP ?_ ?_ ?_
 exact zy zS (zv hr.units) (Snd.b (zM (zb 0 (pv 0)) zd)) (Snd.b zF) (zm _)
 refine zn ?_
 refine zr ?_
 refine jd ?_ ?_
 exact Jt zS (zv hr.units) (Snd.b (Z9 (by rfl) tx.z_len (zj 0 (pv 0)))) (Snd.b zd) (zm _)
 exact jP (cZ hy O_v hr tx.C_v (za (zM (zb 0 (pv 0)) zd) zi))
 exact zO
 refine zh ?_ ?_
 refine zP ?_ ?_ ?_
 exact zy zS (zv hr.units) (Snd.b (zM (zb 0 (pv 0)) zd)) (Snd.b zF) (zm _)
 refine zn ?_
 refine zr ?_
 refine jd ?_ ?_
 exact Jt zS (zv hr.units) (Snd.b (Z9 (by rfl) tx.z_len (zj 0 (pv 0)))) (Snd.b zd) (zm _)
 refine jP ?_
 refine cZ hy O_19 hr tx.C_19 ?_
 refine za ?_ ?_
 exact zM (zb 0 (pv 0)) zd
 exact za (jN (zb 1 (pv 1)) zd) zi
 exact zO
 refine zh ?_ ?_
 refine zP ?_ ?_ ?_
 exact zy zS (zv hr.units) (Snd.b (zM (zb 0 (pv 0)) zd)) (Snd.b zF) (zm _)
 refine zn ?_
 refine zr ?_
 refine jd ?_ ?_
 exact Jt zS (zv hr.units) (Snd.b (Z9 (by rfl) tx.z_len (zj 0 (pv 0)))) (Snd.b zd) (zm _)
 refine jd ?_ ?_
 refine cZ hy O_18 hr tx.C_18 ?_
 refine za ?_ ?_
 exact zM (zb 0 (pv 0)) zd
 refine za ?_ ?_
 exact zM (zb 0 (pv 0)) zd
 exact za zd (za zd zi)
 refine jP ?_
 refine cZ hy O_e hr tx.C_e ?_
 refine za ?_ ?_
 exact zM (zb 0 (pv 0)) zd
 exact za (jN (zb 1 (pv 1)) zd) zi
 exact zO
 exact zn (zr uZ)
theorem GN {j:Nat} (hj:3<=j) {c_d c_e:List T->R T} (O_d:Q_d P w base cl tx 1 c_d) (O_e:Q_e P w base cl tx j c_e):KZ P w base cl tx (j+1) (fun ts=>zo (KI c_d c_e (en0 2 ts))):=by
 refine Zj tx.C_19.F Gs rfl (fun cdv A outer s H E Y hy hr=> ?_) (fun ts h=>rfl)
 refine zn ?_
 refine zr ?_
 refine jd ?_ ?_
 refine cZ hy O_d hr tx.C_d ?_
 exact za (zb 0 (pv 0)) (za zd (za zd zi))
 refine jP ?_
 refine QV hr.hd (by rfl) tx.z_all ?_
 refine Snd.b ?_
 refine Zo (zW ["part","levels"] N_19 (zf Gr) (by rfl) (by rfl) (by decide+kernel) (by rfl) ?_ (fun _ _ _ _ _ _=>zu (show List.Nodup (["part","levels"]:List Str) by decide+kernel) (by rfl) (.inl (by rfl)) (.inr (by rfl))) (zA 0) (zB 0) (fun Y' hy' _ _ _ _ _ _=> ?_) (fun Y' hy' _ _ _ _ _ _=> ?_))
 exact ZZ (zb 0 (pv 0))
 exact Zx
 exact cZ (hy'.trans hy) O_e hr tx.C_e (za (zb 0 (pv 0)) (za (zb 1 (pv 1)) zi))
theorem ok_2 {c_e:List T->R T} (O_e:Q_e P w base cl tx 23 c_e):Q_2 P w base cl tx 24 (fun ts=>zo (b_2 c_e (en0 1 ts))):=by
 obtain ⟨u_DEEPEST,c_DEEPEST⟩:=tx.c_DEEPEST
 refine Zj tx.C_2.F sc_2 rfl (fun cdv A outer s H E Y hy hr=> ?_) (fun ts h=>rfl)
 refine zn ?_
 exact zr (cZ hy O_e hr tx.C_e (za (zb 0 (pv 0)) (za (xu (by rfl) c_DEEPEST.1 c_DEEPEST.2) zi)))
theorem GO {c_2:List T->R T} (xq:Tq K mg base cl) (O_2:Q_2 P w base cl tx 24 c_2):GF P w base cl tx 25 (fun ts=>zo (KJ c_2 (en0 1 ts))):=by
 refine Wc tx.C_10.F Gu rfl (fun cdv A outer s H E Y hy hE hr=> ?_) (fun ts h=>rfl)
 refine zn ?_
 refine zP ?_ ?_ ?_
 exact jJ (jw (Snd.b (cZ hy O_2 hr tx.C_2 (za (zb 0 (pv 0)) zi))))
 exact zn (qf (c:=0) xq.o_NoKind PySem.F.excBase_ValueError (by decide) PySem.F.excBase_ValueError hE (by rw [hy]; exact xq.l_NoKind) (by rfl))
 exact zO
theorem ok_k:Q_k P w base cl tx 1 (fun ts=>zo (b_k  (en0 1 ts))):=by
 refine Zj tx.C_k.F sc_k rfl (fun cdv A outer s H E Y hy hr=> ?_) (fun ts h=>rfl)
 refine zn ?_
 refine zr ?_
 refine Zo (zW ["choice"] N_k (zf s_k) (by rfl) (by rfl) (by decide+kernel) (by rfl) ?_ (fun _ _ _ _ _ _=>zu (show List.Nodup (["choice"]:List Str) by decide+kernel) (by rfl) (.inl (by rfl)) (.inr (by rfl))) (zA 0) (zB 0) (fun Y' hy' _ _ _ _ _ _=> ?_) (fun Y' hy' _ _ _ _ _ _=> ?_))
 exact ZZ (zM (zb 0 (pv 0)) zd)
 exact Zx
 exact zM (zb 0 (pv 0)) zd
theorem ok_h {j:Nat} (hj:1<=j) {c_m c_d c_k c_13:List T->R T} (O_m:Q_m P w base cl tx 1 c_m) (O_d:Q_d P w base cl tx 1 c_d) (O_k:Q_k P w base cl tx 1 c_k) (O_13:g6 P w base cl tx j c_13):Q_h P w base cl tx (j+1) (fun ts=>zo (b_h c_m c_d c_k c_13 (en0 2 ts))):=by
 refine Zj tx.C_h.F sc_h rfl (fun cdv A outer s H E Y hy hr=> ?_) (fun ts h=>rfl)
 refine zh ?_ ?_
 refine zP ?_ ?_ ?_
 exact zy zS (zv hr.units) (Snd.b (zM (zb 0 (pv 0)) zd)) (Snd.b zF) (zm _)
 refine zn ?_
 refine zr ?_
 refine jd ?_ ?_
 exact cZ hy O_m hr tx.C_m (za (zb 1 (pv 1)) zi)
 refine jP ?_
 refine jO ZM ZM Z6 Z6 ?_ ?_ ?_
 exact Snd.b (zM (zb 0 (pv 0)) zd)
 exact zj 1 (pv 1)
 exact Snd.b (zM (zb 0 (pv 0)) zd)
 exact zO
 refine zh ?_ ?_
 refine zP ?_ ?_ ?_
 exact zy zS (zv hr.units) (Snd.b (zM (zb 0 (pv 0)) zd)) (Snd.b zF) (zm _)
 refine zn ?_
 refine zr ?_
 exact Jt yK (UL hr.units) (zj 1 (pv 1)) (Snd.b (cZ hy O_k hr tx.C_k (za (zb 0 (pv 0)) zi))) (by rfl)
 exact zO
 refine zh ?_ ?_
 refine zP ?_ ?_ ?_
 exact zy zS (zv hr.units) (Snd.b (zM (zb 0 (pv 0)) zd)) (Snd.b zF) (zm _)
 refine zn ?_
 refine zr ?_
 refine jd ?_ ?_
 refine cZ hy O_d hr tx.C_d ?_
 refine za ?_ ?_
 exact zb 1 (pv 1)
 refine za ?_ ?_
 exact Z9 (by rfl) tx.z_len (Snd.b (zM (zb 0 (pv 0)) zd))
 exact za (Z9 (by rfl) tx.z_len (Snd.b (zM (zb 0 (pv 0)) zd))) zi
 refine jP ?_
 refine cZ hy O_13 hr tx.C_13 ?_
 exact za (zM (zb 0 (pv 0)) zd) (za (zb 1 (pv 1)) zi)
 exact zO
 refine zn ?_
 refine zr ?_
 refine jd ?_ ?_
 refine cZ hy O_d hr tx.C_d ?_
 refine za ?_ ?_
 exact zb 1 (pv 1)
 refine za ?_ ?_
 exact zM (zb 0 (pv 0)) zd
 exact za (zM (zb 0 (pv 0)) zd) zi
 refine jP ?_
 refine cZ hy O_13 hr tx.C_13 ?_
 refine za ?_ ?_
 refine j9 ?_ ?_
 exact ZK (za (zM (zb 0 (pv 0)) zd) zi)
 exact Z9 (by rfl) tx.z_len (zj 1 (pv 1))
 exact za (zb 1 (pv 1)) zi
theorem GP {j:Nat} (hj:1<=j) {c_h:List T->R T} (O_h:Q_h P w base cl tx j c_h):g6 P w base cl tx (j+1) (fun ts=>zo (kT c_h (en0 2 ts))):=by
 refine Zj tx.C_13.F Gw rfl (fun cdv A outer s H E Y hy hr=> ?_) (fun ts h=>rfl)
 refine zn ?_
 refine zr ?_
 refine QV hr.hd (by rfl) tx.z_all ?_
 refine Snd.b ?_
 refine Zo (zW ["kind","part"] N_13 (zf Gv) (by rfl) (by rfl) (by decide+kernel) (by rfl) ?_ (fun _ _ _ _ _ _=>W2 (by rfl) (ZF (zu (show List.Nodup (["kind","part"]:List Str) by decide+kernel) (by rfl) (.inl (by rfl)) (.inr (by rfl))) (ZF (zu (show List.Nodup (["kind","part"]:List Str) by decide+kernel) (by rfl) (.inl (by rfl)) (.inr (by rfl))) JF))) (Jx _ 0 1) (Jy 0 1) (fun Y' hy' _ _ _ _ _ _=> ?_) (fun Y' hy' _ _ _ _ _ _=> ?_))
 exact xL (by rfl) tx.z_zip (zb 0 (pv 0)) (zb 1 (pv 1))
 exact Zx
 exact cZ (hy'.trans hy) O_h hr tx.C_h (za (zb 0 (pv 0)) (za (zb 1 (pv 1)) zi))
theorem ok_u {c_10 c_h:List T->R T} (O_10:GF P w base cl tx 25 c_10) (O_h:Q_h P w base cl tx 21 c_h):Q_u P w base cl tx 26 (fun ts=>zo (b_u c_10 c_h (en0 2 ts))):=by
 refine Wc tx.C_u.F sc_u rfl (fun cdv A outer s H E Y hy hE hr=> ?_) (fun ts h=>rfl)
 refine zh ?_ ?_
 exact YU (cX hy (hE ▸ yE) O_10 hr tx.C_10 (za (zb 0 (pv 0)) zi))
 refine zn ?_
 exact zr (cZ hy O_h hr tx.C_h (za (zb 0 (pv 0)) (za (zb 1 (pv 1)) zi)))
theorem ok_o {c_u:List T->R T} (xq:Tq K mg base cl) (O_u:Q_u P w base cl tx 26 c_u):Q_o P w base cl tx 27 (fun ts=>zo (b_o c_u (en0 2 ts))):=by
 refine Wc tx.C_o.F sc_o rfl (fun cdv A outer s H E Y hy hE hr=> ?_) (fun ts h=>rfl)
 refine zn ?_
 refine zP ?_ ?_ ?_
 refine jJ ?_
 refine jw ?_
 exact Snd.b (cX hy (hE ▸ yE) O_u hr tx.C_u (za (zb 0 (pv 0)) (za (zb 1 (pv 1)) zi)))
 exact zn (qf (c:=1) xq.o_NoWorth PySem.F.excBase_ValueError (by decide) PySem.F.excBase_ValueError hE (by rw [hy]; exact xq.l_NoWorth) (by rfl))
 exact zO
theorem ok_q:Q_q P w base cl tx 1 (fun ts=>zo (b_q  (en0 1 ts))):=by
 refine Zj tx.C_q.F sc_q rfl (fun cdv A outer s H E Y hy hr=> ?_) (fun ts h=>rfl)
 refine zn ?_
 refine zr ?_
 refine YR (by rfl) (by rfl) tx.z_min ?_ ?_
 exact kQ (by rfl) (by rfl) tx.z_max zd (zM (zb 0 (pv 0)) zd)
 exact zM (zb 0 (pv 0)) zd
theorem ok_j {j:Nat} (hj:1<=j) {c_k c_q c_12:List T->R T} (O_k:Q_k P w base cl tx 1 c_k) (O_q:Q_q P w base cl tx 1 c_q) (O_12:g9 P w base cl tx j c_12):Q_j P w base cl tx (j+1) (fun ts=>zo (b_j c_k c_q c_12 (en0 2 ts))):=by
 refine Zj tx.C_j.F sc_j rfl (fun cdv A outer s H E Y hy hr=> ?_) (fun ts h=>rfl)
 refine zh ?_ ?_
 refine zP ?_ ?_ ?_
 exact zy zS (zv hr.units) (Snd.b (zM (zb 0 (pv 0)) zd)) (Snd.b zF) (zm _)
 refine zn ?_
 refine zr ?_
 refine qp (by rfl) tx.z_abs ?_
 exact Snd.b (jN (zb 1 (pv 1)) (cZ hy O_q hr tx.C_q (za (zb 0 (pv 0)) zi)))
 exact zO
 refine zh ?_ ?_
 refine zP ?_ ?_ ?_
 exact zy zS (zv hr.units) (Snd.b (zM (zb 0 (pv 0)) zd)) (Snd.b zF) (zm _)
 refine zn ?_
 refine zr ?_
 exact Wy hr.units (Snd.b (cZ hy O_k hr tx.C_k (za (zb 0 (pv 0)) zi))) (zj 1 (pv 1))
 exact zO
 refine zh ?_ ?_
 refine zP ?_ ?_ ?_
 exact zy zS (zv hr.units) (Snd.b (zM (zb 0 (pv 0)) zd)) (Snd.b zF) (zm _)
 refine zn ?_
 refine zr ?_
 refine cZ hy O_12 hr tx.C_12 ?_
 exact za (zM (zb 0 (pv 0)) zd) (za (zb 1 (pv 1)) zi)
 exact zO
 refine zn ?_
 refine zr ?_
 refine jN ?_ ?_
 refine zC ?_ ?_
 refine cZ hy O_12 hr tx.C_12 ?_
 refine za ?_ ?_
 refine j9 ?_ ?_
 exact ZK (za (zM (zb 0 (pv 0)) zd) zi)
 exact Z9 (by rfl) tx.z_len (zj 1 (pv 1))
 exact za (zb 1 (pv 1)) zi
 exact Z9 (by rfl) tx.z_len (zj 1 (pv 1))
 exact zM (zb 0 (pv 0)) zd
theorem GQ {j:Nat} (hj:1<=j) {c_j:List T->R T} (O_j:Q_j P w base cl tx j c_j):g9 P w base cl tx (j+1) (fun ts=>zo (kU c_j (en0 2 ts))):=by
 refine Zj tx.C_12.F Gy rfl (fun cdv A outer s H E Y hy hr=> ?_) (fun ts h=>rfl)
 refine zn ?_
 refine zr ?_
 refine G1 hr.hd (by rfl) tx.z_sum ?_
 refine Snd.b ?_
 refine Zo (zW ["kind","part"] N_12 (zf Gx) (by rfl) (by rfl) (by decide+kernel) (by rfl) ?_ (fun _ _ _ _ _ _=>W2 (by rfl) (ZF (zu (show List.Nodup (["kind","part"]:List Str) by decide+kernel) (by rfl) (.inl (by rfl)) (.inr (by rfl))) (ZF (zu (show List.Nodup (["kind","part"]:List Str) by decide+kernel) (by rfl) (.inl (by rfl)) (.inr (by rfl))) JF))) (Jx _ 0 1) (Jy 0 1) (fun Y' hy' _ _ _ _ _ _=> ?_) (fun Y' hy' _ _ _ _ _ _=> ?_))
 exact xL (by rfl) tx.z_zip (zb 0 (pv 0)) (zb 1 (pv 1))
 exact Zx
 exact cZ (hy'.trans hy) O_j hr tx.C_j (za (zb 0 (pv 0)) (za (zb 1 (pv 1)) zi))
theorem ok_1 {c_o c_j:List T->R T} (O_o:Q_o P w base cl tx 27 c_o) (O_j:Q_j P w base cl tx 21 c_j):Q_1 P w base cl tx 28 (fun ts=>zo (b_1 c_o c_j (en0 2 ts))):=by
 refine Wc tx.C_1.F sc_1 rfl (fun cdv A outer s H E Y hy hE hr=> ?_) (fun ts h=>rfl)
 refine zh ?_ ?_
 exact YU (cX hy (hE ▸ yE) O_o hr tx.C_o (za (zb 0 (pv 0)) (za (zb 1 (pv 1)) zi)))
 refine zn ?_
 exact zr (cZ hy O_j hr tx.C_j (za (zb 0 (pv 0)) (za (zb 1 (pv 1)) zi)))
theorem GR {c_q:List T->R T} (O_q:Q_q P w base cl tx 1 c_q):GG P w base cl tx 2 (fun ts=>zo (KK c_q (en0 3 ts))):=by
 refine Zj tx.C_17.F Kq rfl (fun cdv A outer s H E Y hy hr=> ?_) (fun ts h=>rfl)
 refine zh ?_ ?_
 exact Z1 (i:=2) Kq.nd (by rfl) (.inl (by rfl)) (cZ hy O_q hr tx.C_q (za (zb 0 (pv 0)) zi))
 refine zh ?_ ?_
 refine zP ?_ ?_ ?_
 exact zy zS (zv hr.units) (zj 1 (pv 1)) (zj 2 (pv 2)) (zm _)
 exact zn (zr (ZK zi))
 exact zO
 refine zn ?_
 refine zr ?_
 refine V5 ?_ ?_ ?_
 exact zy YI uj (zj 1 (pv 1)) (zj 2 (pv 2)) (zm _)
 exact ZK (za (jN (zb 1 (pv 1)) zd) zi)
 exact ZK (za (zC (zb 1 (pv 1)) zd) zi)
theorem GS {c_k:List T->R T} (O_k:Q_k P w base cl tx 1 c_k):GH P w base cl tx 2 (fun ts=>zo (KL c_k (en0 4 ts))):=by
 refine Zj tx.C_15.F Xu rfl (fun cdv A outer s H E Y hy hr=> ?_) (fun ts h=>rfl)
 refine zh ?_ ?_
 exact Z1 (i:=2) Xu.nd (by rfl) (.inl (by rfl)) (cZ hy O_k hr tx.C_k (za (zb 0 (pv 0)) zi))
 refine zh ?_ ?_
 exact Z1 (i:=3) Xu.nd (by rfl) (.inl (by rfl)) (Wy hr.units (zj 2 (pv 2)) (zj 1 (pv 1)))
 refine zn ?_
 refine zr ?_
 refine V5 ?_ ?_ ?_
 exact zy YI uj (zj 3 (pv 3)) (Snd.b zd) (zm _)
 refine ZK ?_
 exact za (zM (zb 2 (pv 2)) (jN (zb 3 (pv 3)) zd)) zi
 exact ZK zi
theorem GT:GI P w base cl tx 1 (fun ts=>zo (KM  (en0 2 ts))):=by
 refine Zj tx.C_16.F GA rfl (fun cdv A outer s H E Y hy hr=> ?_) (fun ts h=>rfl)
 refine zh ?_ ?_
 refine zP ?_ ?_ ?_
 refine zy zS (zv hr.units) ?_ ?_ (zm _)
 exact Snd.b (Z9 (by rfl) tx.z_len (zj 1 (pv 1)))
 exact Snd.b (zM (zb 0 (pv 0)) zd)
 exact zn (zr (ZK zi))
 exact zO
 refine zn ?_
 refine zr ?_
 refine Zo (zW ["place","worth"] N_16 (zf Gz) (by rfl) (by rfl) (by decide+kernel) (by rfl) ?_ (fun _ _ _ _ _ _=>zu (show List.Nodup (["place","worth"]:List Str) by decide+kernel) (by rfl) (.inl (by rfl)) (.inr (by rfl))) (zA 0) (zB 0) (fun Y' hy' _ _ _ _ _ _=> ?_) (fun Y' hy' _ _ _ _ _ _=> ?_))
 exact jE (by rfl) tx.z_range (Z9 (by rfl) tx.z_len (zj 1 (pv 1)))
 exact Zx
 refine zC ?_ ?_
 exact Zr (zb 1 (pv 1)) ZY (ZN (zb 0 (pv 0)))
 exact Zr (zb 1 (pv 1)) (ZN (zC (zb 0 (pv 0)) zd)) ZY
theorem ok_i {j:Nat} (hj:2<=j) {c_17 c_15 c_16 c_z:List T->R T} (O_17:GG P w base cl tx 2 c_17) (O_15:GH P w base cl tx 2 c_15) (O_16:GI P w base cl tx 1 c_16) (O_z:Q_z P w base cl tx j c_z):Q_i P w base cl tx (j+1) (fun ts=>zo (b_i c_17 c_15 c_16 c_z (en0 2 ts))):=by
 refine Zj tx.C_i.F sc_i rfl (fun cdv A outer s H E Y hy hr=> ?_) (fun ts h=>rfl)
 refine zh ?_ ?_
 refine zP ?_ ?_ ?_
 exact zy zS (zv hr.units) (Snd.b (zM (zb 0 (pv 0)) zd)) (Snd.b zF) (zm _)
 refine zn ?_
 exact zr (cZ hy O_17 hr tx.C_17 (za (zb 0 (pv 0)) (za (zb 1 (pv 1)) zi)))
 exact zO
 refine zh ?_ ?_
 refine zP ?_ ?_ ?_
 exact zy zS (zv hr.units) (Snd.b (zM (zb 0 (pv 0)) zd)) (Snd.b zF) (zm _)
 refine zn ?_
 exact zr (cZ hy O_15 hr tx.C_15 (za (zb 0 (pv 0)) (za (zb 1 (pv 1)) zi)))
 exact zO
 refine zh ?_ ?_
 refine zP ?_ ?_ ?_
 exact zy zS (zv hr.units) (Snd.b (zM (zb 0 (pv 0)) zd)) (Snd.b zF) (zm _)
 refine zn ?_
 refine zr ?_
 refine cZ hy O_z hr tx.C_z ?_
 exact za (zM (zb 0 (pv 0)) zd) (za (zb 1 (pv 1)) zi)
 exact zO
 refine zn ?_
 refine zr ?_
 refine zC ?_ ?_
 exact cZ hy O_16 hr tx.C_16 (za (zb 0 (pv 0)) (za (zb 1 (pv 1)) zi))
 refine cZ hy O_z hr tx.C_z ?_
 refine za ?_ ?_
 refine j9 ?_ ?_
 exact ZK (za (zM (zb 0 (pv 0)) zd) zi)
 exact Z9 (by rfl) tx.z_len (zj 1 (pv 1))
 exact za (zb 1 (pv 1)) zi
theorem ok_z {j:Nat} (hj:2<=j) {c_i:List T->R T} (O_i:Q_i P w base cl tx j c_i):Q_z P w base cl tx (j+1) (fun ts=>zo (b_z c_i (en0 6 ts))):=by
 refine Zj tx.C_z.F KW rfl (fun cdv A outer s H E Y hy hr=> ?_) (fun ts h=>rfl)
 refine zh ?_ ?_
 exact wz (i:=2) KW.nd (by rfl) (.inl (by rfl)) zi
 refine zh ?_ ?_
 refine JJ PassesOwn.never (by rfl) ?_ ?_ ?_
 exact xO (by rfl) tx.z_enumerate (zb 1 (pv 1))
 exact Vd (i:=3) (j:=4) (by rfl) KW.nd (by rfl) (by rfl) (.inl (by rfl)) (.inl (by rfl))
 refine zn ?_
 refine JJ PassesOwn.never (by rfl) ?_ ?_ ?_
 refine ZZ ?_
 refine cZ hy O_i hr tx.C_i ?_
 exact za (zM (zb 0 (pv 0)) (zb 3 (pv 3))) (za (zb 4 (pv 4)) zi)
 exact jQ (i:=5) KW.nd (by rfl) (.inl (by rfl))
 refine zn ?_
 refine kw (i:=2) (pv 2) ?_
 refine zC ?_ ?_
 refine zC ?_ ?_
 exact Zr (zb 1 (pv 1)) ZY (ZN (zb 3 (pv 3)))
 exact jk (za (zb 5 (pv 5)) zi)
 exact Zr (zb 1 (pv 1)) (ZN (zC (zb 3 (pv 3)) zd)) ZY
 exact zn (zr (zb 2 (pv 2)))
theorem ok_3 {c_o c_i:List T->R T} (O_o:Q_o P w base cl tx 27 c_o) (O_i:Q_i P w base cl tx 22 c_i):Q_3 P w base cl tx 28 (fun ts=>zo (b_3 c_o c_i (en0 2 ts))):=by
 refine Wc tx.C_3.F sc_3 rfl (fun cdv A outer s H E Y hy hE hr=> ?_) (fun ts h=>rfl)
 refine zh ?_ ?_
 exact YU (cX hy (hE ▸ yE) O_o hr tx.C_o (za (zb 0 (pv 0)) (za (zb 1 (pv 1)) zi)))
 refine zn ?_
 exact zr (cZ hy O_i hr tx.C_i (za (zb 0 (pv 0)) (za (zb 1 (pv 1)) zi)))
theorem ok_8 (xq:Tq K mg base cl):Q_8 P w base cl tx 1 (fun c=>zo (b_8  (enC 2 c))):=by
 refine kJ tx.C_8.F sc_8 (by decide) (fun cdv A outer s H E Y hy hr=> ?_) (fun c=>rfl)
 refine zh ?_ ?_
 refine wz (i:=1) sc_8.nd (by rfl) (.inl (by rfl)) ?_
 refine za ?_ ?_
 exact JK (hy ▸ xq.X_k) (hy ▸ xq.t_Ended) (by rfl) tx.z_isinstance (pv 0) (by rfl) xq.m_Ended
 exact za (JK (hy ▸ xq.X_k) (hy ▸ xq.t_NoKind) (by rfl) tx.z_isinstance (pv 0) (by rfl) xq.m_NoKind) (za (JK (hy ▸ xq.X_k) (hy ▸ xq.t_NoRule) (by rfl) tx.z_isinstance (pv 0) (by rfl) xq.m_NoRule) (za (JK (hy ▸ xq.X_k) (hy ▸ xq.t_NoText) (by rfl) tx.z_isinstance (pv 0) (by rfl) xq.m_NoText) zi))
 refine zh ?_ ?_
 exact YV (i:=1) (pv 1) (ZK (za (JK (hy ▸ xq.X_k) (hy ▸ xq.t_NoWorth) (by rfl) tx.z_isinstance (pv 0) (by rfl) xq.m_NoWorth) (za (JK (hy ▸ xq.X_k) (hy ▸ xq.t_TooMany) (by rfl) tx.z_isinstance (pv 0) (by rfl) xq.m_TooMany) zi)))
 refine zh ?_ ?_
 refine zP ?_ ?_ ?_
 refine JH.t ?_
 refine WZ ?_ ?_
 refine zy Ju (jl hr.units) ?_ ?_ (zm _)
 exact Snd.b (xN hr.units (zj 1 (pv 1)) (Snd.b uZ))
 exact Snd.b zd
 exact wx (jJ (jw (Snd.b (xA (n:="ValueError") (hy ▸ xq.X_k) (hy ▸ xq.t_ValueError) (by rfl) tx.z_isinstance (pv 0) (by rfl) tx.z_ValueError PyProof.Rows.Boot.«ValueError»))))
 exact zn (zr zF)
 exact zO
 refine zn ?_
 refine zr ?_
 refine zM ?_ ?_
 refine ZK ?_
 refine za ?_ ?_
 exact zF
 refine za ?_ ?_
 exact zF
 refine za ?_ ?_
 exact zF
 exact za zF (za zF (za zF zi))
 exact Wy hr.units (zj 1 (pv 1)) (Snd.b uZ)
theorem ok_l {c_1 c_3:List T->R T} {c_8:Nat->R T} (xq:Tq K mg base cl) (O_8:Q_8 P w base cl tx 1 c_8) (O_1:Q_1 P w base cl tx 28 c_1) (O_3:Q_3 P w base cl tx 28 c_3):Q_l P w base cl tx 29 (fun ts=>zo (b_l c_8 c_1 c_3 (en0 6 ts))):=by
 refine Zj tx.C_l.F Kr rfl (fun cdv A outer s H E Y hy hr=> ?_) (fun ts h=>rfl)
 refine zh ?_ ?_
 exact Z1 (i:=3) Kr.nd (by rfl) (.inl (by rfl)) QQ
 refine zh ?_ ?_
 exact Z1 (i:=4) Kr.nd (by rfl) (.inl (by rfl)) QQ
 refine zh ?_ ?_
 refine gW (i:=5) (k:=3) (ok:=okX) (by rfl) (by rfl) Kr.nd (by rfl) (by rfl) (by rfl) (by rfl) (by decide) (by rfl) xq.m_WorthError (hy ▸ xq.e_WorthError) (fun E' pn xe hp=> ?_)
 refine zn ?_
 refine Z1 (i:=4) Kr.nd (by rfl) (.inl (by rfl)) ?_
 refine V5 ?_ ?_ ?_
 exact zy zS (zv hr.units) (zj 0 (pv 0)) (Snd.b zd) (zm _)
 exact cX hy hp O_3 hr tx.C_3 (za (zb 1 (pv 1)) (za (zb 2 (pv 2)) zi))
 exact cX hy hp O_1 hr tx.C_1 (za (zb 1 (pv 1)) (za (zb 2 (pv 2)) zi))
 refine zh ?_ ?_
 exact zP (kI (pv 3)) (zn (zr (zb 4 (pv 4)))) zO
 exact zn (zr (xC hy O_8 hr (by omega) (by rfl) tx.C_8.m tx.C_8.F.kp tx.C_8.b (pv 3)))
theorem ok_0 {c_4 c_5 c_w c_b c_r c_l c_1 c_3 c_6 c_c:List T->R T} (O_4:Q_4 P w base cl tx 2 c_4) (O_5:Q_5 P w base cl tx 9 c_5) (O_w:Q_w P w base cl tx 18 c_w) (O_b:Q_b P w base cl tx 13 c_b) (O_r:Q_r P w base cl tx 41 c_r) (O_l:Q_l P w base cl tx 29 c_l) (O_1:Q_1 P w base cl tx 28 c_1) (O_3:Q_3 P w base cl tx 28 c_3) (O_6:Q_6 P w base cl tx 9 c_6) (O_c:Q_c P w base cl tx 17 c_c):Q_0 P w base cl tx 42 (fun ts=>zo (b_0 c_4 c_5 c_w c_b c_r c_l c_1 c_3 c_6 c_c (en0 11 ts))):=by
 refine Wc tx.C_0.F yv rfl (fun cdv A outer s H E Y hy hE hr=> ?_) (fun ts h=>rfl)
 refine zh ?_ ?_
 refine Z1 (i:=1) yv.nd (by rfl) (.inr (by rfl)) ?_
 refine cZ hy O_w hr tx.C_w ?_
 exact za (zb 0 (pv 0)) (za zd (za zd zi))
 refine zh ?_ ?_
 exact Z1 (i:=2) yv.nd (by rfl) (.inr (by rfl)) (cZ hy O_5 hr tx.C_5 (za (zb 1 (pv 1)) zi))
 refine zh ?_ ?_
 refine wD (i:=3) (zW ["_law_worth","_law_kind_here"] N_0 (zf s_0) (by rfl) (by rfl) (by decide+kernel) (by rfl) ?_ (fun _ _ _ _ _ _=>zu (show List.Nodup (["_law_worth","_law_kind_here"]:List Str) by decide+kernel) (by rfl) (.inl (by rfl)) (.inr (by rfl))) (zA 0) (zB 0) (fun Y' hy' _ _ _ _ _ _=> ?_) (fun Y' hy' _ _ _ _ _ _=> ?_)) yv.nd (by rfl) (.inl (by rfl)) (by rfl)
 exact ZZ (zb 2 (pv 2))
 refine Jg ?_
 refine zy zS (zv hr.units) ?_ ?_ (zm _)
 exact Snd.b (cZ (hy'.trans hy) O_6 hr tx.C_6 (za (zb 1 (pv 1)) (za (zb 0 (pv 0)) zi)))
 exact Snd.b zd
 exact zb 0 (pv 0)
 refine zh ?_ ?_
 refine JJ PassesOwn.leaving (by rfl) ?_ ?_ ?_
 exact jE (by rfl) tx.z_range zd
 exact jQ (i:=4) yv.nd (by rfl) (.inl (by rfl))
 refine zh ?_ ?_
 refine Z1 (i:=5) yv.nd (by rfl) (.inr (by rfl)) ?_
 refine zM ?_ ?_
 exact zb 2 (pv 2)
 refine cZ hy O_4 hr tx.C_4 ?_
 refine za ?_ ?_
 exact zb 0 (pv 0)
 refine za ?_ ?_
 exact zC zd (zb 4 (pv 4))
 exact za (Z9 (by rfl) tx.z_len (zj 2 (pv 2))) zi
 refine zh ?_ ?_
 exact Z1 (i:=6) yv.nd (by rfl) (.inl (by rfl)) (cZ hy O_c hr tx.C_c (za (zb 1 (pv 1)) (za (zb 5 (pv 5)) zi)))
 refine zh ?_ ?_
 refine zP ?_ ?_ ?_
 refine JH.t ?_
 refine WZ ?_ ?_
 refine zy Ju (jl hr.units) ?_ ?_ (zm _)
 refine Snd.b ?_
 refine cZ hy O_l hr tx.C_l ?_
 exact za zd (za (zb 1 (pv 1)) (za (zb 5 (pv 5)) zi))
 exact zj 6 (pv 6)
 refine wx ?_
 refine zy Ju (jl hr.units) ?_ ?_ (zm _)
 refine Snd.b ?_
 refine cZ hy O_l hr tx.C_l ?_
 exact za zd (za (zb 1 (pv 1)) (za (zb 5 (pv 5)) zi))
 exact Snd.b (cZ hy O_6 hr tx.C_6 (za (zb 1 (pv 1)) (za (zb 5 (pv 5)) zi)))
 exact zn (zr uZ)
 exact zO
 refine zh ?_ ?_
 refine zP ?_ ?_ ?_
 refine zy Ju (jl hr.units) ?_ ?_ (zm _)
 refine Snd.b ?_
 refine Zo (zW ["_law_one","_law_kind_here","_law_every","_law_worth"] N_0 (zf s_0) (by rfl) (by rfl) (by decide+kernel) (by rfl) ?_ (fun _ _ _ _ _ _=>zu (show List.Nodup (["_law_one","_law_kind_here","_law_every","_law_worth"]:List Str) by decide+kernel) (by rfl) (.inl (by rfl)) (.inr (by rfl))) (zA 0) (zB 0) (fun Y' hy' _ _ _ _ _ _=> ?_) (fun Y' hy' _ _ _ _ _ _=> ?_))
 exact ZZ (zb 6 (pv 6))
 refine Jg ?_
 refine JH.t ?_
 refine WZ ?_ ?_
 exact zy YJ (Ub hr.units) (zj 0 (pv 0)) (zj 2 (pv 2)) (by rfl)
 refine wx ?_
 refine zy gL kn ?_ ?_ (zm _)
 exact Snd.b (cZ (hy'.trans hy) (noex O_1) hr tx.C_1 (za (zb 1 (pv 1)) (za (zb 0 (pv 0)) zi)))
 exact Snd.b (cZ (hy'.trans hy) (noex O_1) hr tx.C_1 (za (zb 1 (pv 1)) (za (zb 3 (pv 3)) zi)))
 exact zb 0 (pv 0)
 exact Snd.b (ZK zi)
 exact zn (zr uZ)
 exact zO
 refine zh ?_ ?_
 refine wD (i:=7) (zW ["_law_one","_law_kind_here"] N_0 (zf s_0) (by rfl) (by rfl) (by decide+kernel) (by rfl) ?_ (fun _ _ _ _ _ _=>zu (show List.Nodup (["_law_one","_law_kind_here"]:List Str) by decide+kernel) (by rfl) (.inl (by rfl)) (.inr (by rfl))) (zA 0) (zB 0) (fun Y' hy' _ _ _ _ _ _=> ?_) (fun Y' hy' _ _ _ _ _ _=> ?_)) yv.nd (by rfl) (.inl (by rfl)) (by rfl)
 exact ZZ (zb 6 (pv 6))
 exact Zx
 exact cZ (hy'.trans hy) (noex O_1) hr tx.C_1 (za (zb 1 (pv 1)) (za (zb 0 (pv 0)) zi))
 refine zh ?_ ?_
 refine zP ?_ ?_ ?_
 refine JH.t ?_
 refine yL ?_ ?_
 exact zy Ju (jl hr.units) (zj 6 (pv 6)) (Snd.b (ZK zi)) (zm _)
 refine W8 ?_
 refine zy Ju (jl hr.units) ?_ ?_ (zm _)
 exact Snd.b (kR hr.hd (by rfl) tx.z_max (zj 7 (pv 7)))
 refine Snd.b ?_
 refine jN ?_ ?_
 exact cX hy (hE ▸ yE) O_1 hr tx.C_1 (za (zb 1 (pv 1)) (za (zb 5 (pv 5)) zi))
 exact zd
 exact zn (zr uZ)
 exact zO
 refine zh ?_ ?_
 exact Z1 (i:=8) yv.nd (by rfl) (.inl (by rfl)) zd
 refine zh ?_ ?_
 refine xh (n:=1000000) PassesOwn.leaving ?_ ?_
 exact zy Ju (jl hr.units) (zj 6 (pv 6)) (Snd.b (ZK zi)) (zm _)
 refine zh ?_ ?_
 refine Z1 (i:=5) yv.nd (by rfl) (.inr (by rfl)) ?_
 refine zM ?_ ?_
 exact zb 6 (pv 6)
 refine cZ hy O_4 hr tx.C_4 ?_
 refine za ?_ ?_
 exact zb 0 (pv 0)
 refine za ?_ ?_
 exact zC zd (zb 8 (pv 8))
 exact za (Z9 (by rfl) tx.z_len (zj 6 (pv 6))) zi
 refine zh ?_ ?_
 exact Z1 (i:=8) yv.nd (by rfl) (.inl (by rfl)) (zC (zb 8 (pv 8)) zd)
 refine zn ?_
 exact Z1 (i:=6) yv.nd (by rfl) (.inl (by rfl)) (cX hy (hE ▸ yE) O_3 hr tx.C_3 (za (zb 1 (pv 1)) (za (zb 5 (pv 5)) zi)))
 refine zn ?_
 refine zP ?_ ?_ ?_
 exact zy Ju (jl hr.units) (Snd.b (ZK (za (zb 5 (pv 5)) zi))) (zj 3 (pv 3)) (zm _)
 exact zn (zr uZ)
 exact zO
 refine zh ?_ ?_
 refine Z1 (i:=9) yv.nd (by rfl) (.inr (by rfl)) ?_
 refine cZ hy O_r hr tx.C_r ?_
 refine za ?_ ?_
 exact zb 0 (pv 0)
 exact za zd (za (zM (zb 2 (pv 2)) zd) zi)
 refine zh ?_ ?_
 refine zP ?_ ?_ ?_
 refine JH.t ?_
 refine yL ?_ ?_
 exact zy YJ (Ub hr.units) (zj 9 (pv 9)) (zj 2 (pv 2)) (by rfl)
 refine W8 ?_
 refine zy Ju (jl hr.units) ?_ ?_ (zm _)
 refine Snd.b ?_
 refine Zo (zW ["_law_what","_law_kind_here","_law_thing"] N_0 (zf s_0) (by rfl) (by rfl) (by decide+kernel) (by rfl) ?_ (fun _ _ _ _ _ _=>zu (show List.Nodup (["_law_what","_law_kind_here","_law_thing"]:List Str) by decide+kernel) (by rfl) (.inl (by rfl)) (.inr (by rfl))) (zA 0) (zB 0) (fun Y' hy' _ _ _ _ _ _=> ?_) (fun Y' hy' _ _ _ _ _ _=> ?_))
 exact jE (by rfl) tx.z_range zd
 exact Zx
 refine cZ (hy'.trans hy) O_l hr tx.C_l ?_
 exact za (zb 0 (pv 0)) (za (zb 1 (pv 1)) (za (zb 2 (pv 2)) zi))
 exact Snd.b (j9 (ZK (za zF zi)) zd)
 exact zn (zr uZ)
 exact zO
 refine zh ?_ ?_
 refine Z1 (i:=10) yv.nd (by rfl) (.inr (by rfl)) ?_
 refine cZ hy O_r hr tx.C_r ?_
 exact za (zb 0 (pv 0)) (za zd (za (zb 1 (pv 1)) zi))
 refine zn ?_
 refine zr ?_
 refine s_or ?_ ?_
 exact cZ hy O_b hr tx.C_b (za (zb 10 (pv 10)) (za zd zi))
 refine jP ?_
 refine Jt zS (zv hr.units) ?_ ?_ (zm _)
 refine Snd.b ?_
 refine Zo (zW ["_law_what","_law_bad"] N_0 (zf s_0) (by rfl) (by rfl) (by decide+kernel) (by rfl) ?_ (fun _ _ _ _ _ _=>zu (show List.Nodup (["_law_what","_law_bad"]:List Str) by decide+kernel) (by rfl) (.inl (by rfl)) (.inr (by rfl))) (zA 0) (zB 0) (fun Y' hy' _ _ _ _ _ _=> ?_) (fun Y' hy' _ _ _ _ _ _=> ?_))
 exact jE (by rfl) tx.z_range zd
 exact Zx
 refine cZ (hy'.trans hy) O_l hr tx.C_l ?_
 exact za (zb 0 (pv 0)) (za (zb 1 (pv 1)) (za QQ zi))
 exact Snd.b (j9 (ZK (za zF zi)) zd)
end
theorem j7 {P:Program} {w:World} {K:PySem.W.Frag} {mg:Str->Option Value} {base:Heap} {CX:CXT} {cl:Nat->Value} {k n:Nat} {f:Addr} {fd:FuncData} {ps:List Str} (hn:n=ps.length):ZB P w K mg base CX k f fd ps (spP cl n (fun _=> .bad)):=
 ⟨fun vs H Q E h=>by rw [← hn]; exact spP.len vs H Q E h,fun A outer s H args us vs Q E _ _ _ _ ⟨B,ts,_,_,_,q⟩=>q.elim⟩
section
variable {P:Program} {w:World} {K:PySem.W.Frag} {mg:Str->Option Value} {base:Heap} {cl:Nat->Value} {tx:Tx K mg}
theorem Ks (xq:Tq K mg base cl):Q_0 P w base cl tx 42 f_0:=by
 have O_1a:GB P w base cl tx 1 kS:=GJ
 have O_4:Q_4 P w base cl tx 2 f_4:=ok_4 O_1a
 have O_y:Q_y P w base cl tx 3 f_y:=ok_y O_4
 have O_s:Q_s P w base cl tx 4 f_s:=ok_s O_4 O_y
 have R_g:∀ n:Nat,Q_g P w base cl tx (4+n) (S_g n 0):=by
  intro n
  induction n with
  | zero=>exact j7 rfl
  | succ n ih=>
   exact ok_g (j:=4+n) (by omega) O_4 O_s ih
 have O_g:Q_g P w base cl tx 12 (f_g 8):=(R_g 8)
 have O_f:Q_f P w base cl tx 1 f_f:=ok_f
 have R_5:∀ n:Nat,Q_5 P w base cl tx (1+n) (S_5 n 0):=by
  intro n
  induction n with
  | zero=>exact j7 rfl
  | succ n ih=>
   exact ok_5 (j:=1+n) (by omega) ih O_f
 have O_5:Q_5 P w base cl tx 9 (f_5 8):=(R_5 8)
 have R_9:∀ n:Nat,Q_9 P w base cl tx (9+n) (S_9 n 0):=by
  intro n
  induction n with
  | zero=>exact j7 rfl
  | succ n ih=>
   exact ok_9 (j:=9+n) (by omega) O_5 ih
 have O_9:Q_9 P w base cl tx 17 (f_9 8):=(R_9 8)
 have O_w:Q_w P w base cl tx 18 f_w:=ok_w O_g O_9
 have R_n:∀ n:Nat,Q_n P w base cl tx (0+n) (S_n n 0):=by
  intro n
  induction n with
  | zero=>exact j7 rfl
  | succ n ih=>
   exact ok_n (j:=0+n) (by omega) ih
 have O_n:Q_n P w base cl tx 40 (f_n 40):=(R_n 40)
 have O_11:GC P w base cl tx 1 Xy:=GK
 have R_a:∀ n:Nat,Q_a P w base cl tx (0+n) (S_a n 0):=by
  intro n
  induction n with
  | zero=>exact j7 rfl
  | succ n ih=>
   exact ok_a (j:=0+n) (by omega) ih
 have O_a:Q_a P w base cl tx 40 (f_a 40):=(R_a 40)
 have O_r:Q_r P w base cl tx 41 f_r:=ok_r O_4 O_n O_11 O_a
 have O_x:Q_x P w base cl tx 1 f_x:=ok_x
 have R_6:∀ n:Nat,Q_6 P w base cl tx (1+n) (S_6 n 0):=by
  intro n
  induction n with
  | zero=>exact j7 rfl
  | succ n ih=>
   exact ok_6 (j:=1+n) (by omega) ih O_x
 have O_6:Q_6 P w base cl tx 9 (f_6 8):=(R_6 8)
 have R_c:∀ n:Nat,Q_c P w base cl tx (9+n) (S_c n 0):=by
  intro n
  induction n with
  | zero=>exact j7 rfl
  | succ n ih=>
   exact ok_c (j:=9+n) (by omega) O_5 O_6 ih
 have O_c:Q_c P w base cl tx 17 (f_c 8):=(R_c 8)
 have O_p:Q_p P w base cl tx 1 f_p:=ok_p
 have O_t:Q_t P w base cl tx 1 f_t:=ok_t
 have R_b:∀ n:Nat,Q_b P w base cl tx (1+n) (S_b n 0):=by
  intro n
  induction n with
  | zero=>exact j7 rfl
  | succ n ih=>
   exact ok_b (j:=1+n) (by omega) O_p O_t ih
 have O_b:Q_b P w base cl tx 13 (f_b 12):=(R_b 12)
 have O_m:Q_m P w base cl tx 1 f_m:=ok_m
 have O_18:GD P w base cl tx 2 KG:=GL O_m
 have O_d:Q_d P w base cl tx 1 f_d:=ok_d
 have O_7:Q_7 P w base cl tx 1 f_7:=ok_7
 have O_14:GE P w base cl tx 2 xQ:=GM O_m O_d O_7
 have O_v:Q_v P w base cl tx 3 f_v:=ok_v O_d O_14
 have R_e:∀ n:Nat,Q_e P w base cl tx (3+n) (S_e n 0)/\KZ P w base cl tx (3+n) (S_e n 1):=by
  intro n
  induction n with
  | zero=>exact ⟨j7 rfl,j7 rfl⟩
  | succ n ih=>
   exact ⟨ok_e (j:=3+n) (by omega) O_18 ih.1 O_v ih.2,GN (j:=3+n) (by omega) O_d ih.1⟩
 have O_e:Q_e P w base cl tx 23 (f_e 20):=(R_e 20).1
 have O_19:KZ P w base cl tx 23 (f_19 20):=(R_e 20).2
 have O_2:Q_2 P w base cl tx 24 f_2:=ok_2 O_e
 have O_10:GF P w base cl tx 25 Vg:=GO xq O_2
 have O_k:Q_k P w base cl tx 1 f_k:=ok_k
 have R_h:∀ n:Nat,Q_h P w base cl tx (1+n) (S_h n 0)/\g6 P w base cl tx (1+n) (S_h n 1):=by
  intro n
  induction n with
  | zero=>exact ⟨j7 rfl,j7 rfl⟩
  | succ n ih=>
   exact ⟨ok_h (j:=1+n) (by omega) O_m O_d O_k ih.2,GP (j:=1+n) (by omega) ih.1⟩
 have O_h:Q_h P w base cl tx 21 (f_h 20):=(R_h 20).1
 have O_13:g6 P w base cl tx 21 (f_13 20):=(R_h 20).2
 have O_u:Q_u P w base cl tx 26 f_u:=ok_u O_10 O_h
 have O_o:Q_o P w base cl tx 27 f_o:=ok_o xq O_u
 have O_q:Q_q P w base cl tx 1 f_q:=ok_q
 have R_j:∀ n:Nat,Q_j P w base cl tx (1+n) (S_j n 0)/\g9 P w base cl tx (1+n) (S_j n 1):=by
  intro n
  induction n with
  | zero=>exact ⟨j7 rfl,j7 rfl⟩
  | succ n ih=>
   exact ⟨ok_j (j:=1+n) (by omega) O_k O_q ih.2,GQ (j:=1+n) (by omega) ih.1⟩
 have O_j:Q_j P w base cl tx 21 (f_j 20):=(R_j 20).1
 have O_12:g9 P w base cl tx 21 (f_12 20):=(R_j 20).2
 have O_1:Q_1 P w base cl tx 28 f_1:=ok_1 O_o O_j
 have O_17:GG P w base cl tx 2 kW:=GR O_q
 have O_15:GH P w base cl tx 2 kX:=GS O_k
 have O_16:GI P w base cl tx 1 kY:=GT
 have R_i:∀ n:Nat,Q_i P w base cl tx (2+n) (S_i n 0)/\Q_z P w base cl tx (2+n) (S_i n 1):=by
  intro n
  induction n with
  | zero=>exact ⟨j7 rfl,j7 rfl⟩
  | succ n ih=>
   exact ⟨ok_i (j:=2+n) (by omega) O_17 O_15 O_16 ih.2,ok_z (j:=2+n) (by omega) ih.1⟩
 have O_i:Q_i P w base cl tx 22 (f_i 20):=(R_i 20).1
 have O_z:Q_z P w base cl tx 22 (f_z 20):=(R_i 20).2
 have O_3:Q_3 P w base cl tx 28 f_3:=ok_3 O_o O_i
 have O_8:Q_8 P w base cl tx 1 f_8:=ok_8 xq
 have O_l:Q_l P w base cl tx 29 f_l:=ok_l xq O_8 O_1 O_3
 have O_0:Q_0 P w base cl tx 42 f_0:=ok_0 O_4 O_5 O_w O_b O_r O_l O_1 O_3 O_6 O_c
 exact O_0
end
def VB:List Str:=["NoKind","NoWorth","NoRule","TooMany","Ended","NoText","NoBack"]
def clK (K:PySem.W.Frag) (c:Nat):Value:=match PySem.W.nsIn K mainGlobals (VB.getD c "") with
 | some (some v)=>v
 | _=> .none
theorem VC {K:PySem.W.Frag} {c:Nat} {x:Str} {q:Addr} (hx:VB.getD c ""=x) (h:PySem.W.nsIn K mainGlobals x=some (some (.ref q))):clK K c= .ref q:=by unfold clK; rw [hx,h]
def GU:List Nat:=[0,1,2,3,4,5]
def QB (p:Nat->Bool):Bool:=GU.all p
theorem Kt {c:Nat} (h:okX c=true):c∈GU:=by
 have h:c < 6:=of_decide_eq_true h
 unfold GU; simp; omega
theorem jD {p:Nat->Bool} (h:QB p=true) {c:Nat} (hc:okX c=true):p c=true:=List.all_eq_true.mp h c (Kt hc)
def Xv (K:PySem.W.Frag) (v:Value):Bool:=match v with
 | .ref C=>PySem.W.findIn K (.ref C) "__getattribute__" == some (some (.builtin "BaseException.__getattribute__")) && (PySem.W.findIn K (.ref C) "__getattr__" == some none && (PySem.W.findIn K (.ref C) "__class__" == some (some (.builtin "object.__class__")) && (PySem.W.specialIn K (.builtin "object.__class__") "__get__" == some (some (.builtin "getset_descriptor.__get__")) && (PySem.W.takesIn K (.builtin "object.__class__") == some true && (PySem.W.mroIn K C (.type "object") == some true && (PySem.W.mroIn K C (.type "BaseException") == some true && (PySem.W.clsIn K C).isSome))))))
 | _=>false
theorem vY {K:PySem.W.Frag} {v:Value} (h:Xv K v=true):∃ C,v= .ref C/\PySem.W.XCls K C:=by
 unfold Xv at h
 split at h
 ·rename_i C
  simp only [Bool.and_eq_true,beq_iff_eq] at h
  obtain ⟨h1,h2,h3,h4,h5,h6,h7,h8⟩:=h
  exact ⟨C,rfl,h1,h2,h3,h4,h5,h6,h7,h8⟩
 ·cases h
theorem VD {K:PySem.W.Frag} {base:Heap} {mg:Str->Option Value} {x:Str} {C:Addr} {bmB:List Value} {newId:String} (KB:K.In base) (hb:mg x=some (.ref C)) (h:PySem.W.excIn K C bmB newId=true):OwnCls x C bmB newId mg base:=by
 unfold PySem.W.excIn at h
 split at h
 ·rename_i dd cd sl hC
  split at h
  ·rename_i C1 bm a0 a1 a2 a3 m a5 hm hs
   simp only [Bool.and_eq_true,beq_iff_eq,Bool.not_eq_true'] at h
   obtain ⟨⟨⟨⟨⟨h1,h2⟩,h3⟩,h4⟩,h5⟩,h6⟩:=h
   subst h1 h2
   cases cd with
   | mk nm bs mro ns qn hd sn sub ab col del=>
    dsimp only at hm h3 h5 h6
    subst hm h3
    obtain rfl:sl= #[a0,a1,a2,a3,some (.builtin m),a5]:=by
     cases sl; simp only at hs; rw [hs]
    exact ⟨hb,bm,ns,nm,qn,bs,hd,sn,sub,ab,col,dd,a0,a1,a2,a3,a5,_,KB _ _ hC, .of_isNs (PySem.W.isNs_of_in KB h5),PySem.W.nsMap_none_of_in KB h5 h6,PySem.W.tail_of_in KB h4⟩
  ·cases h
 ·cases h
theorem fn1 {K:PySem.W.Frag} {h:Heap} {mg:Str->Option Value} {f:Addr} {od an:Option Addr} {sl:Array (Option Value)} {oc kV dc pm cd ct:Value} {x:Str} {st:Stmt} {ps:List Str} (X:K.In h) (G:h.Ns mainGlobals mg) (e:PySem.W.nsIn K mainGlobals x=some (some (.ref f))) (l:K.lookup f=some ⟨oc,od, .func (PySem.W.fnOf x x (jM st) (ZT st) (zf st) .none kV dc pm an cd ct),sl⟩) (g:PySem.W.codeIn K cd x=true) (k:PySem.W.keepIn K (.ref f)=true)
  (hb:∀ F:Fun K x x st f (PySem.W.fnOf x x (jM st) (ZT st) (zf st) .none kV dc pm an cd ct),L2.Binds K (PySem.W.fnOf x x (jM st) (ZT st) (zf st) .none kV dc pm an cd ct) ps []):Fn K mg x st ps f (PySem.W.fnOf x x (jM st) (ZT st) (zf st) .none kV dc pm an cd ct):=
 have F:=kl (st:=st) l g k
 ⟨F,hb F,PySem.W.mg_of X G e⟩
theorem fin_ {l:PySem.W.OpenLaw} {w:World} {K:PySem.W.Frag} {h:Heap} {mg:Str->Option Value} {fa:Addr} (X:K.In h) (G:h.Ns mainGlobals mg) (hfa:mg "law"=some (.ref fa)) (tx:Tx K mg) (hB:∀ (s:Shared) (v:Value),BindsTo s tx.d_0 ⟨[v],[]⟩ [("_law_script",v)]) {q_Ended q_NoKind q_NoRule q_NoText q_NoWorth q_TooMany q_WorthError:Addr} (n_Ended:PySem.W.nsIn K mainGlobals "Ended"=some (some (.ref q_Ended))) (n_NoKind:PySem.W.nsIn K mainGlobals "NoKind"=some (some (.ref q_NoKind))) (n_NoRule:PySem.W.nsIn K mainGlobals "NoRule"=some (some (.ref q_NoRule))) (n_NoText:PySem.W.nsIn K mainGlobals "NoText"=some (some (.ref q_NoText))) (n_NoWorth:PySem.W.nsIn K mainGlobals "NoWorth"=some (some (.ref q_NoWorth))) (n_TooMany:PySem.W.nsIn K mainGlobals "TooMany"=some (some (.ref q_TooMany))) (n_WorthError:PySem.W.nsIn K mainGlobals "WorthError"=some (some (.ref q_WorthError))) (b_K:QB (fun c=>Xv K (clK K c))=true) (b_e_WorthError:QB (fun c=>PySem.W.exmOne K (clK K c) (.ref q_WorthError) == some true)=true) (b_o_NoKind:PySem.W.excIn K q_NoKind KY "ValueError.__new__"=true) (b_o_NoWorth:PySem.W.excIn K q_NoWorth KY "ValueError.__new__"=true) (b_t_Ended:QB (fun c=>PySem.W.kitOne K (clK K c) (.ref q_Ended) == some (wG c))=true) (b_t_NoKind:QB (fun c=>PySem.W.kitOne K (clK K c) (.ref q_NoKind) == some (JL c))=true) (b_t_NoRule:QB (fun c=>PySem.W.kitOne K (clK K c) (.ref q_NoRule) == some (JM c))=true) (b_t_NoText:QB (fun c=>PySem.W.kitOne K (clK K c) (.ref q_NoText) == some (JN c))=true) (b_t_NoWorth:QB (fun c=>PySem.W.kitOne K (clK K c) (.ref q_NoWorth) == some (Jk c))=true) (b_t_TooMany:QB (fun c=>PySem.W.kitOne K (clK K c) (.ref q_TooMany) == some (Jl c))=true) (b_t_ValueError:QB (fun c=>PySem.W.kitOne K (clK K c) (.type "ValueError") == some (jr c))=true):∃ fd:FuncData,(∀ (s:Shared) (v:Value),BindsTo s fd ⟨[v],[]⟩ [("_law_script",v)])/\∀ base:Heap,K.In base->base.Ns mainGlobals mg->ZB l.prog w K mg base (CX1 l.prog w) 42 fa fd ["_law_script"] (spP (clK K) 1 f_0):=by
 have e:=hfa.symm.trans tx.C_0.m
 cases e
 exact ⟨tx.d_0,hB,fun base KB _=>Ks ⟨q_Ended,q_NoKind,q_NoRule,q_NoText,q_NoWorth,q_TooMany,q_WorthError,⟨fun c hc=>vY (jD b_K hc)⟩,(fun c hc=>beq_iff_eq.mp (jD b_e_WorthError hc)),(VC (x:="NoKind") rfl n_NoKind),(VC (x:="NoWorth") rfl n_NoWorth),(PySem.W.mg_of X G n_Ended),(PySem.W.mg_of X G n_NoKind),(PySem.W.mg_of X G n_NoRule),(PySem.W.mg_of X G n_NoText),(PySem.W.mg_of X G n_NoWorth),(PySem.W.mg_of X G n_TooMany),(PySem.W.mg_of X G n_WorthError),(VD KB (PySem.W.mg_of X G n_NoKind) b_o_NoKind),(VD KB (PySem.W.mg_of X G n_NoWorth) b_o_NoWorth),(fun c hc=>beq_iff_eq.mp (jD b_t_Ended hc)),(fun c hc=>beq_iff_eq.mp (jD b_t_NoKind hc)),(fun c hc=>beq_iff_eq.mp (jD b_t_NoRule hc)),(fun c hc=>beq_iff_eq.mp (jD b_t_NoText hc)),(fun c hc=>beq_iff_eq.mp (jD b_t_NoWorth hc)),(fun c hc=>beq_iff_eq.mp (jD b_t_TooMany hc)),(fun c hc=>beq_iff_eq.mp (jD b_t_ValueError hc))⟩⟩
def UF (K:PySem.W.Frag):Bool:=K.all fun p=> !(p.2.cls == Value.type "list")
theorem Xw {K:PySem.W.Frag} (h:UF K=true) {a:Addr} {o:Obj} (e:K.lookup a=some o) (c:o.cls=Value.type "list"):False:=by
 have hm:(a,o)∈K:=by
  clear h
  induction K with
  | nil=>cases e
  | cons p r ih=>
   obtain ⟨b,u⟩:=p
   by_cases hb:a=b
   ·subst hb
    have e' :some u=some o:=by simpa [List.lookup_cons] using e
    cases e'; exact List.mem_cons_self
   ·have e' :r.lookup a=some o:=by rw [List.lookup_cons,(beq_eq_false_iff_ne.mpr hb)] at e; exact e
    exact List.mem_cons_of_mem _ (ih e')
 have:=List.all_eq_true.mp h _ hm
 rw [c] at this
 simp at this
theorem Ku {cl:Nat->Value} {K:PySem.W.Frag} {H:Hp} {a:Addr} {ns:List Int} (hL:f_0 [.fz (ns.map T.int)]= .ok (.bl true)) (hK:UF K=true) (hO:Kx H) (hS:SqL K H a (ns.map V.int)):spP cl 1 f_0 [.ref a] H (fun v _=>v= .bl true) fun _ _ _=>False:=by
 have scrR:∀ ns:List Int,zY H (ns.map V.int) (ns.map T.int):=fun ns=>by
  induction ns with
  | nil=>exact .nil
  | cons n r ih=>exact .cons (.int n) ih
 rcases hS with (h | ⟨o,h⟩) | ⟨o,its,n,e,c,_⟩
 ·rcases hO a with z | ⟨ob,xs,z⟩ <;> (rw [h] at z; cases z)
 ·refine ⟨H,[.fz (ns.map T.int)],rfl,zK.refl H, .cons (.fz h (scrR ns)) .nil, ?_⟩
  rw [hL]
  intro v H' _ r
  cases r; rfl
 ·exact (Xw hK e c).elim
theorem walk {l:PySem.W.OpenLaw} {q:Program} {loose:List Str} {XP:(Str->Option Value)->Heap->Prop} {YP:World->Heap->Prop} {d:DefRec} {K:Params->PySem.W.Frag} (hn:l.most=some 63) (hdf:d.params.defaults=[])
  (hL:∀ ns:List Int,ns.length<=63->f_0 [.fz (ns.map T.int)]= .ok (.bl true)) (hK:∀ p,UF (K p)=true)
  (hY:∀ (w:World) (h:Heap),YP w h->(K w.params).In h)
  (F:∀ (w:World) (mg:Str->Option Value) (fa:Addr) (h:Heap),(K w.params).In h->h.Ns mainGlobals mg->mg d.name=some (.ref fa)->
   ∃ fd:FuncData,(∀ (s:Shared) (u:Value),BindsTo s fd ⟨[u],[]⟩ [("_law_script",u)])/\∀ base:Heap,(K w.params).In base->base.Ns mainGlobals mg->ZB l.prog w (K w.params) mg base (CX1 l.prog w) 42 fa fd ["_law_script"] (spP (clK (K w.params)) 1 f_0)):
  PySem.W.WalkO q loose XP YP l.row.toRowW d [] (fun f vs=>PySem.call f vs):=
 L2.walk_of (n:=63) (k:=42) (x:="_law_script") (CX:=fun w=>(CX1 l.prog w)) (sp:=fun w=>spP (clK (K w.params)) 1 f_0) hn (by decide) hdf ⟨rfl,by decide,by decide⟩ hY F (fun w H a ns hl hO hS=>Ku (hL ns hl) (hK w.params) hO hS) fun _ _ _ _ _ ⟨_,_,_,_,_,_,_,z⟩=>z
end G
namespace PySem.W.Fast
def tw7967702682164476432:=0
def tw8040744425620944563:=0
def tw12628233757364298041:=0
def tw4594877613836614401:=0
def tw4726356045268817102:=0
def tw1796872355538190773:=0
def tw8820641373708858130:=0
def tw13820932121266324757:=0
def tw6851620188906938286:=0
def tw10893564841652200111:=0
def tw10272273585508912089:=0
def tw16967519950207665927:=0
def tw852260281617244017:=0
def tw12279258035941090580:=0
def tw4926099611159651108:=0
def tw7117660585797574097:=0
def tw2717828940681628197:=0
def tw13484371055430622153:=0
def tw7793506676412369710:=0
def tw4426052995545445028:=0
def tw3250552061587721015:=0
def tw12838207761839572640:=0
def tw16121025838751766842:=0
def tw4935862572809503766:=0
def tw8100791518559633280:=0
def tw2003253577286484267:=0
def tw2123866082701736385:=0
def tw3437025616451311470:=0
def tw3315225900471271053:=0
def tw10677476895302038540:=0
def tw3846814356052384881:=0
def tw4147716774694828139:=0
def tw8045126531037002634:=0
def tw12701538353482486279:=0
def tw15781496774564447960:=0
def tw14842600061921989095:=0
def tw15137905525978286494:=0
def tw13787881306835101904:=0
def tw8790482521467585403:=0
def tw3516810703910408336:=0
def tw9187151291744768445:=0
def tw10126758806506740271:=0
def tw6447404520726790473:=0
def tw15189787151745250594:=0
def tw14651843957715797770:=0
def tw15455909871661479723:=0
def tw10485478675484281920:=0
def tw10974810300573901521:=0
def tw7088053823771918841:=0
def tw6650492838659274903:=0
def tw17389215320259963402:=0
def tw4932794053697693208:=0
def tw10630912954742152220:=0
def tw9017076271433412501:=0
def tw3529140230509969796:=0
def tw9908423128561094935:=0
def tw5735214710269220747:=0
def tw2952263989070022291:=0
def tw5463934820099315129:=0
def tw11750584282926683195:=0
def tw106454916471024416:=0
def tw3093419065848318442:=0
def tw9332840164906394189:=0
def tw14125592758241325175:=0
def tw14191268467780160877:=0
def tw3261772416275088829:=0
def tw12209469288291563830:=0
def tw8315345589011096068:=0
def tw612043241258308493:=0
def tw16049804488079965206:=0
def tw10528280959427346759:=0
end PySem.W.Fast
open PySem PySem.W PyProof.Rows
set_option maxRecDepth 100000 in
set_option maxHeartbeats 0 in
theorem PySem.Challenge.cw_worthkinds_k50_whole_lesser_holds : PySem.Challenge.rw_worthkinds_k50_whole_lesser.Holds := by
 w_on; o_law; k_head; (case hw=>w_witness2)
 k_fill
 refine G.walk (l:=PySem.Challenge.rw_worthkinds_k50_whole_lesser) rfl rfl G.law_ok ?nl (fun w h Y=>PySem.W.kIn_of Y) ?F
 case nl=>intro p; kernel_rfl
 case F=>
  intro w mg fa h KX G0 hmg
  obtain ⟨a0,d0,C0⟩:∃ a d,G.Fn _ mg "_law_cell" G.s_1a ["_law_script","_law_k"] a d:=by
   refine' ⟨_,_,G.fn1 KX G0 ?e ?l ?g ?k (fun F=>F.binds (ps:=["_law_script","_law_k"]) fun _ _ _ _ _ _ us hl=>match us,hl with | [_,_],_=>rfl)⟩
   (case e=>k_is)
   (case l=>k_is)
   (case g=>k_is)
   (case k=>k_is)
  obtain ⟨a1,d1,C1⟩:∃ a d,G.Fn _ mg "_law_pick" G.s_4 ["_law_script","_law_k","_law_many"] a d:=by
   refine' ⟨_,_,G.fn1 KX G0 ?e ?l ?g ?k (fun F=>F.binds (ps:=["_law_script","_law_k","_law_many"]) fun _ _ _ _ _ _ us hl=>match us,hl with | [_,_,_],_=>rfl)⟩
   (case e=>k_is)
   (case l=>k_is)
   (case g=>k_is)
   (case k=>k_is)
  obtain ⟨a2,d2,C2⟩:∃ a d,G.Fn _ mg "_law_word_of" G.s_y ["_law_script","_law_at_here"] a d:=by
   refine' ⟨_,_,G.fn1 KX G0 ?e ?l ?g ?k (fun F=>F.binds (ps:=["_law_script","_law_at_here"]) fun _ _ _ _ _ _ us hl=>match us,hl with | [_,_],_=>rfl)⟩
   (case e=>k_is)
   (case l=>k_is)
   (case g=>k_is)
   (case k=>k_is)
  obtain ⟨a3,d3,C3⟩:∃ a d,G.Fn _ mg "_law_leaf_kind" G.s_s ["_law_script","_law_at_here"] a d:=by
   refine' ⟨_,_,G.fn1 KX G0 ?e ?l ?g ?k (fun F=>F.binds (ps:=["_law_script","_law_at_here"]) fun _ _ _ _ _ _ us hl=>match us,hl with | [_,_],_=>rfl)⟩
   (case e=>k_is)
   (case l=>k_is)
   (case g=>k_is)
   (case k=>k_is)
  obtain ⟨a4,d4,C4⟩:∃ a d,G.Fn _ mg "_law_kind" G.s_g ["_law_script","_law_at_here","_law_deep"] a d:=by
   refine' ⟨_,_,G.fn1 KX G0 ?e ?l ?g ?k (fun F=>F.binds (ps:=["_law_script","_law_at_here","_law_deep"]) fun _ _ _ _ _ _ us hl=>match us,hl with | [_,_,_],_=>rfl)⟩
   (case e=>k_is)
   (case l=>k_is)
   (case g=>k_is)
   (case k=>k_is)
  obtain ⟨a5,d5,C5⟩:∃ a d,G.Fn _ mg "_law_rows_of" G.s_f ["_law_lists"] a d:=by
   refine' ⟨_,_,G.fn1 KX G0 ?e ?l ?g ?k (fun F=>F.binds (ps:=["_law_lists"]) fun _ _ _ _ _ _ us hl=>match us,hl with | [_],_=>rfl)⟩
   (case e=>k_is)
   (case l=>k_is)
   (case g=>k_is)
   (case k=>k_is)
  obtain ⟨a6,d6,C6⟩:∃ a d,G.Fn _ mg "_law_all" G.s_5 ["_law_kind_here"] a d:=by
   refine' ⟨_,_,G.fn1 KX G0 ?e ?l ?g ?k (fun F=>F.binds (ps:=["_law_kind_here"]) fun _ _ _ _ _ _ us hl=>match us,hl with | [_],_=>rfl)⟩
   (case e=>k_is)
   (case l=>k_is)
   (case g=>k_is)
   (case k=>k_is)
  obtain ⟨a7,d7,C7⟩:∃ a d,G.Fn _ mg "_law_size" G.s_9 ["_law_kind_here"] a d:=by
   refine' ⟨_,_,G.fn1 KX G0 ?e ?l ?g ?k (fun F=>F.binds (ps:=["_law_kind_here"]) fun _ _ _ _ _ _ us hl=>match us,hl with | [_],_=>rfl)⟩
   (case e=>k_is)
   (case l=>k_is)
   (case g=>k_is)
   (case k=>k_is)
  obtain ⟨a8,d8,C8⟩:∃ a d,G.Fn _ mg "_law_small" G.s_w ["_law_script","_law_at_here","_law_most"] a d:=by
   refine' ⟨_,_,G.fn1 KX G0 ?e ?l ?g ?k (fun F=>F.binds (ps:=["_law_script","_law_at_here","_law_most"]) fun _ _ _ _ _ _ us hl=>match us,hl with | [_,_,_],_=>rfl)⟩
   (case e=>k_is)
   (case l=>k_is)
   (case g=>k_is)
   (case k=>k_is)
  obtain ⟨a9,d9,C9⟩:∃ a d,G.Fn _ mg "_law_places" G.s_n ["_law_thing"] a d:=by
   refine' ⟨_,_,G.fn1 KX G0 ?e ?l ?g ?k (fun F=>F.binds (ps:=["_law_thing"]) fun _ _ _ _ _ _ us hl=>match us,hl with | [_],_=>rfl)⟩
   (case e=>k_is)
   (case l=>k_is)
   (case g=>k_is)
   (case k=>k_is)
  obtain ⟨a10,d10,C10⟩:∃ a d,G.Fn _ mg "_law_at" G.s_11 ["_law_thing","_law_place"] a d:=by
   refine' ⟨_,_,G.fn1 KX G0 ?e ?l ?g ?k (fun F=>F.binds (ps:=["_law_thing","_law_place"]) fun _ _ _ _ _ _ us hl=>match us,hl with | [_,_],_=>rfl)⟩
   (case e=>k_is)
   (case l=>k_is)
   (case g=>k_is)
   (case k=>k_is)
  obtain ⟨a11,d11,C11⟩:∃ a d,G.Fn _ mg "_law_put" G.s_a ["_law_thing","_law_place","_law_new"] a d:=by
   refine' ⟨_,_,G.fn1 KX G0 ?e ?l ?g ?k (fun F=>F.binds (ps:=["_law_thing","_law_place","_law_new"]) fun _ _ _ _ _ _ us hl=>match us,hl with | [_,_,_],_=>rfl)⟩
   (case e=>k_is)
   (case l=>k_is)
   (case g=>k_is)
   (case k=>k_is)
  obtain ⟨a12,d12,C12⟩:∃ a d,G.Fn _ mg "_law_spoilt_thing" G.s_r ["_law_script","_law_at_here","_law_thing"] a d:=by
   refine' ⟨_,_,G.fn1 KX G0 ?e ?l ?g ?k (fun F=>F.binds (ps:=["_law_script","_law_at_here","_law_thing"]) fun _ _ _ _ _ _ us hl=>match us,hl with | [_,_,_],_=>rfl)⟩
   (case e=>k_is)
   (case l=>k_is)
   (case g=>k_is)
   (case k=>k_is)
  obtain ⟨a13,d13,C13⟩:∃ a d,G.Fn _ mg "_law_nearest" G.s_x ["_law_kind_here"] a d:=by
   refine' ⟨_,_,G.fn1 KX G0 ?e ?l ?g ?k (fun F=>F.binds (ps:=["_law_kind_here"]) fun _ _ _ _ _ _ us hl=>match us,hl with | [_],_=>rfl)⟩
   (case e=>k_is)
   (case l=>k_is)
   (case g=>k_is)
   (case k=>k_is)
  obtain ⟨a14,d14,C14⟩:∃ a d,G.Fn _ mg "_law_weight" G.s_6 ["_law_kind_here","_law_worth"] a d:=by
   refine' ⟨_,_,G.fn1 KX G0 ?e ?l ?g ?k (fun F=>F.binds (ps:=["_law_kind_here","_law_worth"]) fun _ _ _ _ _ _ us hl=>match us,hl with | [_,_],_=>rfl)⟩
   (case e=>k_is)
   (case l=>k_is)
   (case g=>k_is)
   (case k=>k_is)
  obtain ⟨a15,d15,C15⟩:∃ a d,G.Fn _ mg "_law_lesser" G.s_c ["_law_kind_here","_law_worth"] a d:=by
   refine' ⟨_,_,G.fn1 KX G0 ?e ?l ?g ?k (fun F=>F.binds (ps:=["_law_kind_here","_law_worth"]) fun _ _ _ _ _ _ us hl=>match us,hl with | [_,_],_=>rfl)⟩
   (case e=>k_is)
   (case l=>k_is)
   (case g=>k_is)
   (case k=>k_is)
  obtain ⟨a16,d16,C16⟩:∃ a d,G.Fn _ mg "_law_whole" G.s_p ["_law_thing","_law_low","_law_high"] a d:=by
   refine' ⟨_,_,G.fn1 KX G0 ?e ?l ?g ?k (fun F=>F.binds (ps:=["_law_thing","_law_low","_law_high"]) fun _ _ _ _ _ _ us hl=>match us,hl with | [_,_,_],_=>rfl)⟩
   (case e=>k_is)
   (case l=>k_is)
   (case g=>k_is)
   (case k=>k_is)
  obtain ⟨a17,d17,C17⟩:∃ a d,G.Fn _ mg "_law_is_word" G.s_t ["_law_thing"] a d:=by
   refine' ⟨_,_,G.fn1 KX G0 ?e ?l ?g ?k (fun F=>F.binds (ps:=["_law_thing"]) fun _ _ _ _ _ _ us hl=>match us,hl with | [_],_=>rfl)⟩
   (case e=>k_is)
   (case l=>k_is)
   (case g=>k_is)
   (case k=>k_is)
  obtain ⟨a18,d18,C18⟩:∃ a d,G.Fn _ mg "_law_is_kind" G.s_b ["_law_thing","_law_deep"] a d:=by
   refine' ⟨_,_,G.fn1 KX G0 ?e ?l ?g ?k (fun F=>F.binds (ps:=["_law_thing","_law_deep"]) fun _ _ _ _ _ _ us hl=>match us,hl with | [_,_],_=>rfl)⟩
   (case e=>k_is)
   (case l=>k_is)
   (case g=>k_is)
   (case k=>k_is)
  obtain ⟨a19,d19,C19⟩:∃ a d,G.Fn _ mg "is_whole" G.s_m ["thing"] a d:=by
   refine' ⟨_,_,G.fn1 KX G0 ?e ?l ?g ?k (fun F=>F.binds (ps:=["thing"]) fun _ _ _ _ _ _ us hl=>match us,hl with | [_],_=>rfl)⟩
   (case e=>k_is)
   (case l=>k_is)
   (case g=>k_is)
   (case k=>k_is)
  obtain ⟨a20,d20,C20⟩:∃ a d,G.Fn _ mg "is_span" G.s_18 ["low","high","least","most"] a d:=by
   refine' ⟨_,_,G.fn1 KX G0 ?e ?l ?g ?k (fun F=>F.binds (ps:=["low","high","least","most"]) fun _ _ _ _ _ _ us hl=>match us,hl with | [_,_,_,_],_=>rfl)⟩
   (case e=>k_is)
   (case l=>k_is)
   (case g=>k_is)
   (case k=>k_is)
  obtain ⟨a21,d21,C21⟩:∃ a d,G.Fn _ mg "is_tuple_of" G.s_d ["thing","least","most"] a d:=by
   refine' ⟨_,_,G.fn1 KX G0 ?e ?l ?g ?k (fun F=>F.binds (ps:=["thing","least","most"]) fun _ _ _ _ _ _ us hl=>match us,hl with | [_,_,_],_=>rfl)⟩
   (case e=>k_is)
   (case l=>k_is)
   (case g=>k_is)
   (case k=>k_is)
  obtain ⟨a22,d22,C22⟩:∃ a d,G.Fn _ mg "is_word" G.s_7 ["thing"] a d:=by
   refine' ⟨_,_,G.fn1 KX G0 ?e ?l ?g ?k (fun F=>F.binds (ps:=["thing"]) fun _ _ _ _ _ _ us hl=>match us,hl with | [_],_=>rfl)⟩
   (case e=>k_is)
   (case l=>k_is)
   (case g=>k_is)
   (case k=>k_is)
  obtain ⟨a23,d23,C23⟩:∃ a d,G.Fn _ mg "is_choice" G.s_14 ["thing"] a d:=by
   refine' ⟨_,_,G.fn1 KX G0 ?e ?l ?g ?k (fun F=>F.binds (ps:=["thing"]) fun _ _ _ _ _ _ us hl=>match us,hl with | [_],_=>rfl)⟩
   (case e=>k_is)
   (case l=>k_is)
   (case g=>k_is)
   (case k=>k_is)
  obtain ⟨a24,d24,C24⟩:∃ a d,G.Fn _ mg "are_choices" G.s_v ["thing"] a d:=by
   refine' ⟨_,_,G.fn1 KX G0 ?e ?l ?g ?k (fun F=>F.binds (ps:=["thing"]) fun _ _ _ _ _ _ us hl=>match us,hl with | [_],_=>rfl)⟩
   (case e=>k_is)
   (case l=>k_is)
   (case g=>k_is)
   (case k=>k_is)
  obtain ⟨a25,d25,C25⟩:∃ a d,G.Fn _ mg "is_kind_within" G.s_e ["thing","levels"] a d:=by
   refine' ⟨_,_,G.fn1 KX G0 ?e ?l ?g ?k (fun F=>F.binds (ps:=["thing","levels"]) fun _ _ _ _ _ _ us hl=>match us,hl with | [_,_],_=>rfl)⟩
   (case e=>k_is)
   (case l=>k_is)
   (case g=>k_is)
   (case k=>k_is)
  obtain ⟨a26,d26,C26⟩:∃ a d,G.Fn _ mg "are_kinds_within" G.Gr ["thing","levels"] a d:=by
   refine' ⟨_,_,G.fn1 KX G0 ?e ?l ?g ?k (fun F=>F.binds (ps:=["thing","levels"]) fun _ _ _ _ _ _ us hl=>match us,hl with | [_,_],_=>rfl)⟩
   (case e=>k_is)
   (case l=>k_is)
   (case g=>k_is)
   (case k=>k_is)
  obtain ⟨a27,d27,C27⟩:∃ a d,G.Fn _ mg "is_kind" G.s_2 ["thing"] a d:=by
   refine' ⟨_,_,G.fn1 KX G0 ?e ?l ?g ?k (fun F=>F.binds (ps:=["thing"]) fun _ _ _ _ _ _ us hl=>match us,hl with | [_],_=>rfl)⟩
   (case e=>k_is)
   (case l=>k_is)
   (case g=>k_is)
   (case k=>k_is)
  obtain ⟨a28,d28,C28⟩:∃ a d,G.Fn _ mg "need_kind" G.s_10 ["kind"] a d:=by
   refine' ⟨_,_,G.fn1 KX G0 ?e ?l ?g ?k (fun F=>F.binds (ps:=["kind"]) fun _ _ _ _ _ _ us hl=>match us,hl with | [_],_=>rfl)⟩
   (case e=>k_is)
   (case l=>k_is)
   (case g=>k_is)
   (case k=>k_is)
  obtain ⟨a29,d29,C29⟩:∃ a d,G.Fn _ mg "words_of_pick" G.s_k ["kind"] a d:=by
   refine' ⟨_,_,G.fn1 KX G0 ?e ?l ?g ?k (fun F=>F.binds (ps:=["kind"]) fun _ _ _ _ _ _ us hl=>match us,hl with | [_],_=>rfl)⟩
   (case e=>k_is)
   (case l=>k_is)
   (case g=>k_is)
   (case k=>k_is)
  obtain ⟨a30,d30,C30⟩:∃ a d,G.Fn _ mg "has_worth" G.s_h ["kind","thing"] a d:=by
   refine' ⟨_,_,G.fn1 KX G0 ?e ?l ?g ?k (fun F=>F.binds (ps:=["kind","thing"]) fun _ _ _ _ _ _ us hl=>match us,hl with | [_,_],_=>rfl)⟩
   (case e=>k_is)
   (case l=>k_is)
   (case g=>k_is)
   (case k=>k_is)
  obtain ⟨a31,d31,C31⟩:∃ a d,G.Fn _ mg "have_parts" G.Gv ["kinds","parts"] a d:=by
   refine' ⟨_,_,G.fn1 KX G0 ?e ?l ?g ?k (fun F=>F.binds (ps:=["kinds","parts"]) fun _ _ _ _ _ _ us hl=>match us,hl with | [_,_],_=>rfl)⟩
   (case e=>k_is)
   (case l=>k_is)
   (case g=>k_is)
   (case k=>k_is)
  obtain ⟨a32,d32,C32⟩:∃ a d,G.Fn _ mg "is_worth" G.s_u ["kind","thing"] a d:=by
   refine' ⟨_,_,G.fn1 KX G0 ?e ?l ?g ?k (fun F=>F.binds (ps:=["kind","thing"]) fun _ _ _ _ _ _ us hl=>match us,hl with | [_,_],_=>rfl)⟩
   (case e=>k_is)
   (case l=>k_is)
   (case g=>k_is)
   (case k=>k_is)
  obtain ⟨a33,d33,C33⟩:∃ a d,G.Fn _ mg "need_worth" G.s_o ["kind","worth"] a d:=by
   refine' ⟨_,_,G.fn1 KX G0 ?e ?l ?g ?k (fun F=>F.binds (ps:=["kind","worth"]) fun _ _ _ _ _ _ us hl=>match us,hl with | [_,_],_=>rfl)⟩
   (case e=>k_is)
   (case l=>k_is)
   (case g=>k_is)
   (case k=>k_is)
  obtain ⟨a34,d34,C34⟩:∃ a d,G.Fn _ mg "nearest_to_nought" G.s_q ["kind"] a d:=by
   refine' ⟨_,_,G.fn1 KX G0 ?e ?l ?g ?k (fun F=>F.binds (ps:=["kind"]) fun _ _ _ _ _ _ us hl=>match us,hl with | [_],_=>rfl)⟩
   (case e=>k_is)
   (case l=>k_is)
   (case g=>k_is)
   (case k=>k_is)
  obtain ⟨a35,d35,C35⟩:∃ a d,G.Fn _ mg "weight_within" G.s_j ["kind","worth"] a d:=by
   refine' ⟨_,_,G.fn1 KX G0 ?e ?l ?g ?k (fun F=>F.binds (ps:=["kind","worth"]) fun _ _ _ _ _ _ us hl=>match us,hl with | [_,_],_=>rfl)⟩
   (case e=>k_is)
   (case l=>k_is)
   (case g=>k_is)
   (case k=>k_is)
  obtain ⟨a36,d36,C36⟩:∃ a d,G.Fn _ mg "weight_of_parts" G.Gx ["kinds","parts"] a d:=by
   refine' ⟨_,_,G.fn1 KX G0 ?e ?l ?g ?k (fun F=>F.binds (ps:=["kinds","parts"]) fun _ _ _ _ _ _ us hl=>match us,hl with | [_,_],_=>rfl)⟩
   (case e=>k_is)
   (case l=>k_is)
   (case g=>k_is)
   (case k=>k_is)
  obtain ⟨a37,d37,C37⟩:∃ a d,G.Fn _ mg "weight" G.s_1 ["kind","worth"] a d:=by
   refine' ⟨_,_,G.fn1 KX G0 ?e ?l ?g ?k (fun F=>F.binds (ps:=["kind","worth"]) fun _ _ _ _ _ _ us hl=>match us,hl with | [_,_],_=>rfl)⟩
   (case e=>k_is)
   (case l=>k_is)
   (case g=>k_is)
   (case k=>k_is)
  obtain ⟨a38,d38,C38⟩:∃ a d,G.Fn _ mg "number_less" G.s_17 ["kind","number"] a d:=by
   refine' ⟨_,_,G.fn1 KX G0 ?e ?l ?g ?k (fun F=>F.binds (ps:=["kind","number"]) fun _ _ _ _ _ _ us hl=>match us,hl with | [_,_],_=>rfl)⟩
   (case e=>k_is)
   (case l=>k_is)
   (case g=>k_is)
   (case k=>k_is)
  obtain ⟨a39,d39,C39⟩:∃ a d,G.Fn _ mg "word_less" G.s_15 ["kind","word"] a d:=by
   refine' ⟨_,_,G.fn1 KX G0 ?e ?l ?g ?k (fun F=>F.binds (ps:=["kind","word"]) fun _ _ _ _ _ _ us hl=>match us,hl with | [_,_],_=>rfl)⟩
   (case e=>k_is)
   (case l=>k_is)
   (case g=>k_is)
   (case k=>k_is)
  obtain ⟨a40,d40,C40⟩:∃ a d,G.Fn _ mg "shorter" G.Gz ["kind","worth"] a d:=by
   refine' ⟨_,_,G.fn1 KX G0 ?e ?l ?g ?k (fun F=>F.binds (ps:=["kind","worth"]) fun _ _ _ _ _ _ us hl=>match us,hl with | [_,_],_=>rfl)⟩
   (case e=>k_is)
   (case l=>k_is)
   (case g=>k_is)
   (case k=>k_is)
  obtain ⟨a41,d41,C41⟩:∃ a d,G.Fn _ mg "one_step_less" G.s_i ["kind","worth"] a d:=by
   refine' ⟨_,_,G.fn1 KX G0 ?e ?l ?g ?k (fun F=>F.binds (ps:=["kind","worth"]) fun _ _ _ _ _ _ us hl=>match us,hl with | [_,_],_=>rfl)⟩
   (case e=>k_is)
   (case l=>k_is)
   (case g=>k_is)
   (case k=>k_is)
  obtain ⟨a42,d42,C42⟩:∃ a d,G.Fn _ mg "parts_less" G.s_z ["kinds","parts"] a d:=by
   refine' ⟨_,_,G.fn1 KX G0 ?e ?l ?g ?k (fun F=>F.binds (ps:=["kinds","parts"]) fun _ _ _ _ _ _ us hl=>match us,hl with | [_,_],_=>rfl)⟩
   (case e=>k_is)
   (case l=>k_is)
   (case g=>k_is)
   (case k=>k_is)
  obtain ⟨a43,d43,C43⟩:∃ a d,G.Fn _ mg "lesser" G.s_3 ["kind","worth"] a d:=by
   refine' ⟨_,_,G.fn1 KX G0 ?e ?l ?g ?k (fun F=>F.binds (ps:=["kind","worth"]) fun _ _ _ _ _ _ us hl=>match us,hl with | [_,_],_=>rfl)⟩
   (case e=>k_is)
   (case l=>k_is)
   (case g=>k_is)
   (case k=>k_is)
  obtain ⟨a44,d44,C44⟩:∃ a d,G.Fn _ mg "_law_word" G.s_8 ["_law_kept"] a d:=by
   refine' ⟨_,_,G.fn1 KX G0 ?e ?l ?g ?k (fun F=>F.binds (ps:=["_law_kept"]) fun _ _ _ _ _ _ us hl=>match us,hl with | [_],_=>rfl)⟩
   (case e=>k_is)
   (case l=>k_is)
   (case g=>k_is)
   (case k=>k_is)
  obtain ⟨a45,d45,C45⟩:∃ a d,G.Fn _ mg "_law_tried" G.s_l ["_law_what","_law_kind_here","_law_worth"] a d:=by
   refine' ⟨_,_,G.fn1 KX G0 ?e ?l ?g ?k (fun F=>F.binds (ps:=["_law_what","_law_kind_here","_law_worth"]) fun _ _ _ _ _ _ us hl=>match us,hl with | [_,_,_],_=>rfl)⟩
   (case e=>k_is)
   (case l=>k_is)
   (case g=>k_is)
   (case k=>k_is)
  obtain ⟨a46,d46,C46,hB⟩:∃ a d,G.Fn _ mg "law" G.s_0 ["_law_script"] a d/\∀ (s:PySem.Shared) (v:PySem.Value),BindsTo s d ⟨[v],[]⟩ [("_law_script",v)]:=by
   refine' ⟨_,_,G.fn1 KX G0 ?e ?l ?g ?k (fun F=>F.binds (ps:=["_law_script"]) fun _ _ _ _ _ _ us hl=>match us,hl with | [_],_=>rfl),fun s v=> .of_eq rfl⟩
   (case e=>k_is)
   (case l=>k_is)
   (case g=>k_is)
   (case k=>k_is)
  refine' G.fin_ KX G0 hmg ⟨a0,d0,C0,a1,d1,C1,a2,d2,C2,a3,d3,C3,a4,d4,C4,a5,d5,C5,a6,d6,C6,a7,d7,C7,a8,d8,C8,a9,d9,C9,a10,d10,C10,a11,d11,C11,a12,d12,C12,a13,d13,C13,a14,d14,C14,a15,d15,C15,a16,d16,C16,a17,d17,C17,a18,d18,C18,a19,d19,C19,a20,d20,C20,a21,d21,C21,a22,d22,C22,a23,d23,C23,a24,d24,C24,a25,d25,C25,a26,d26,C26,a27,d27,C27,a28,d28,C28,a29,d29,C29,a30,d30,C30,a31,d31,C31,a32,d32,C32,a33,d33,C33,a34,d34,C34,a35,d35,C35,a36,d36,C36,a37,d37,C37,a38,d38,C38,a39,d39,C39,a40,d40,C40,a41,d41,C41,a42,d42,C42,a43,d43,C43,a44,d44,C44,a45,d45,C45,a46,d46,C46,PySem.W.mg_none_of KX G0 (by k_is),PySem.W.mg_none_of KX G0 (by k_is),PySem.W.mg_none_of KX G0 (by k_is),PySem.W.mg_none_of KX G0 (by k_is),PySem.W.mg_none_of KX G0 (by k_is),PySem.W.mg_none_of KX G0 (by k_is),PySem.W.mg_none_of KX G0 (by k_is),PySem.W.mg_none_of KX G0 (by k_is),PySem.W.mg_none_of KX G0 (by k_is),PySem.W.mg_none_of KX G0 (by k_is),PySem.W.mg_none_of KX G0 (by k_is),PySem.W.mg_none_of KX G0 (by k_is),PySem.W.mg_none_of KX G0 (by k_is),PySem.W.mg_none_of KX G0 (by k_is),PySem.W.mg_none_of KX G0 (by k_is),PySem.W.mg_none_of KX G0 (by k_is),PySem.W.mg_none_of KX G0 (by k_is),⟨_,PySem.W.mg_of KX G0 (by k_is),_,rfl⟩⟩ hB ?n0 ?n1 ?n2 ?n3 ?n4 ?n5 ?n6 ?b0 ?b1 ?b2 ?b3 ?b4 ?b5 ?b6 ?b7 ?b8 ?b9 ?b10
  (case n0=>k_is)
  (case n1=>k_is)
  (case n2=>k_is)
  (case n3=>k_is)
  (case n4=>k_is)
  (case n5=>k_is)
  (case n6=>k_is)
  (case b0=>kernel_rfl)
  (case b1=>kernel_rfl)
  (case b2=>kernel_rfl)
  (case b3=>kernel_rfl)
  (case b4=>kernel_rfl)
  (case b5=>kernel_rfl)
  (case b6=>kernel_rfl)
  (case b7=>kernel_rfl)
  (case b8=>kernel_rfl)
  (case b9=>kernel_rfl)
  (case b10=>kernel_rfl)
