import PyProof.Rows.All
import Wide.All
import OpenK.AllK
import Wide.FinOn
import Lean
import PyProof.EqAt
import PyProof.EqKinds
import PyProof.TupleCall
import PyProof.NeKinds
import PyProof.WalksEnum
import PyProof.StrWalks
import PyProof.ExcAttrAll.ValueError
import PyProof.ZipIter
import KE.KRevIter
import PyProof.ListNew
import PyProof.WalksMore
import PyProof.ReprLoop
import PyProof.FactsAll.list
import PyProof.CollectIter
import PyProof.TupleOfGen
import PyProof.Draws
import PyProof.EnumMake
import PyProof.SeqI3
import KE.KMinBuiltin
import PyProof.SetRoads
import PyProof.CollectWalk
import KE.KDictSum
import PySem.Challenge.RW_worthkinds_k03_whole_shapes
noncomputable section
set_option maxHeartbeats 4000000
set_option Elab.async false
set_option linter.all false
set_option maxRecDepth 100000
namespace L2
open PySem PySem.Spec PyProof.Rows
abbrev Key:=Sum Int Str
def QC:Key->Value->Bool
 | .inl k,v=>Value.isInt k v
 | .inr x,v=>Value.isStrOf x v
def xF (w:World):Key->Int
 | .inl k=>hashInt k
 | .inr x=>hashStr w x
theorem zG:∀ {k:Key} {v:Value},QC k v=true->(∃ i t,k=Sum.inl i/\v=Value.int i t)\/(∃ x t,k=Sum.inr x/\v=Value.str x t)
 | .inl i,v,h=>by
  obtain ⟨t,e⟩:=Value.isInt_shape (k:=i) (v:=v) h
  exact .inl ⟨i,t,rfl,e⟩
 | .inr x,v,h=>by
  obtain ⟨t,e⟩:=Value.isStrOf_shape (x:=x) (v:=v) h
  exact .inr ⟨x,t,rfl,e⟩
theorem QD (a b:Int):decide ((Sum.inl a:Key)=Sum.inl b)=(a == b):=by
 by_cases e:a=b
 ·subst e; simp
 ·have h:¬ (Sum.inl a:Key)=Sum.inl b:=fun q=>e (Sum.inl.inj q)
  rw [decide_eq_false h]
  exact (beq_eq_false_iff_ne.mpr e).symm
theorem QE (a b:Str):decide ((Sum.inr a:Key)=Sum.inr b)=decide (a=b):=by
 by_cases e:a=b
 ·subst e; simp
 ·have h:¬ (Sum.inr a:Key)=Sum.inr b:=fun q=>e (Sum.inr.inj q)
  rw [decide_eq_false h,decide_eq_false e]
theorem QF (a:Int) (b:Str):decide ((Sum.inl a:Key)=Sum.inr b)=false:=decide_eq_false (fun q=>nomatch q)
theorem QG (a:Str) (b:Int):decide ((Sum.inr a:Key)=Sum.inl b)=false:=decide_eq_false (fun q=>nomatch q)
def W2 (prog:Program) (w:World):PySem.KeyKind prog w Key where
 is:=QC
 hash:=xF w
 inj:=fun v a b ha hb=>by
  rcases zG ha with ⟨i,t,rfl,rfl⟩ | ⟨x,t,rfl,rfl⟩
  ·rcases zG hb with ⟨j,u,rfl,e⟩ | ⟨y,u,rfl,e⟩
   ·injection e with e1 _; rw [e1]
   ·exact nomatch e
  ·rcases zG hb with ⟨j,u,rfl,e⟩ | ⟨y,u,rfl,e⟩
   ·exact nomatch e
   ·injection e with e1 _; rw [e1]
 byValue:=fun k v h=>by
  rcases zG h with ⟨i,t,rfl,rfl⟩ | ⟨x,t,rfl,rfl⟩ <;> rfl
 pyHash:=fun hv h=>by
  rcases zG hv with ⟨i,t,rfl,rfl⟩ | ⟨x,t,rfl,rfl⟩
  ·exact wpAny_pyHash_int h
  ·exact wpAny_pyHash_str h
 eqBool:=fun hu hv h=>by
  rcases zG hu with ⟨i,t,rfl,rfl⟩ | ⟨x,t,rfl,rfl⟩
  ·rcases zG hv with ⟨j,u,rfl,rfl⟩ | ⟨y,u,rfl,rfl⟩
   ·rw [QD] at h; exact wpAny_eqBool_int h
   ·rw [QF] at h; exact SeqAt.EqAt.int_str i t y u _ _ _ _ h
  ·rcases zG hv with ⟨j,u,rfl,rfl⟩ | ⟨y,u,rfl,rfl⟩
   ·rw [QG] at h; exact SeqAt.EqAt.str_int x t j u _ _ _ _ h
   ·rw [QE] at h; exact wpAny_eqBool_str h
 «strs»:=fun k x t v h=>by
  rcases zG h with ⟨i,u,rfl,e⟩ | ⟨y,u,rfl,e⟩
  ·exact nomatch e
  ·injection e with e1 _
   subst e1
   cases v <;> rfl
end L2
namespace L2
open PySem PySem.Spec PyProof.Rows
inductive V where
 | non | bl (b:Bool) | int (i:Int) | str (x:Str) | byt (b:Array UInt8) | flt (b:UInt64) | ref (a:Addr) | ty (n:String)
 deriving DecidableEq
def Zj:V->Value->Prop
 | .non,u=>u=Value.none
 | .bl b,u=>u=Value.bool b
 | .int i,u=>∃ t,u=Value.int i t
 | .str x,u=>∃ t,u=Value.str x t
 | .byt b,u=>∃ t,u=Value.bytes b t
 | .flt b,u=>∃ t,u=Value.float b t
 | .ref a,u=>u=Value.ref a
 | .ty n,u=>u=Value.type n
abbrev Z3:List V->List Value->Prop:=Paired Zj
theorem Z3.length {xs:List V} {us:List Value} (r:Z3 xs us):xs.length=us.length:=Paired.length r
theorem Z3.get:∀ {xs:List V} {us:List Value} {i:Nat} {x:V},Z3 xs us->xs[i]? =some x->∃ u,us[i]? =some u/\Zj x u
 | _,_,_,_, .nil,e=>by simp at e
 | _,_,0,_, .cons r _,e=>by simp at e; subst e; exact ⟨_,rfl,r⟩
 | _,_,i+1,x, .cons _ t,e=>by
  obtain ⟨u,h1,h2⟩:=Z3.get (i:=i) (x:=x) t (by simpa using e)
  exact ⟨u,by simpa using h1,h2⟩
theorem Z3.append:∀ {xs ys:List V} {us ws:List Value},Z3 xs us->Z3 ys ws->Z3 (xs++ys) (us++ws)
 | _,_,_,_, .nil,s=>s
 | _,_,_,_, .cons r t,s=> .cons r (Z3.append t s)
theorem Z3.take:∀ {xs:List V} {us:List Value} (n:Nat),Z3 xs us->Z3 (xs.take n) (us.take n)
 | _,_,0,_=> .nil
 | _,_,_+1, .nil=> .nil
 | _,_,n+1, .cons r t=> .cons r (Z3.take n t)
theorem Z3.drop:∀ {xs:List V} {us:List Value} (n:Nat),Z3 xs us->Z3 (xs.drop n) (us.drop n)
 | _,_,0,r=>r
 | _,_,_+1, .nil=> .nil
 | _,_,n+1, .cons _ t=>Z3.drop n t
def Vl:Option V->Option Value->Prop
 | some v,some u=>Zj v u
 | none,none=>True
 | _,_=>False
def KV {κ:Type}:List (κ×V)->List (κ×Value)->Prop:=Paired fun (p:κ×V) (q:κ×Value)=>p.1=q.1/\Zj p.2 q.2
def kV:Key->V
 | .inl i=> .int i
 | .inr x=> .str x
inductive HO where
 | lst (xs:List V)
 | tup (xs:List V)
 | dK (kvs:List (Key×V)) | dT (kvs:List (List Key×V))
 | set (S:Int->Bool) (n:Nat)
 | ins (C dx:Addr) (fs:List (Str×V))
 | own (x:Addr)
 | xd (fs:List (Str×V))
 | met (f x:Addr)
 | rng (lo hi:Int)
 | frz (o:Obj) (u:HO)
 | tbl (ps:Array Value)
 | ext (φ:Heap->Prop)
abbrev Hp:=Addr->Option HO
def upd (H:Hp) (a:Addr) (o:HO):Hp:=fun b=>if b=a then some o else H b
theorem zA {H:Hp} {a:Addr} {o:HO}:upd H a o a=some o:=by unfold upd; rw [if_pos rfl]
theorem zo {H:Hp} {a b:Addr} {o:HO} (h:b ≠ a):upd H a o b=H b:=by unfold upd; rw [if_neg h]
theorem zy {H:Hp} {a b:Addr} {o:HO} (h:H a=some o) (h' :H b=none):a ≠ b:=by
 intro e; subst e; rw [h] at h'; cases h'
section
variable (P:Program) (w:World)
def Zm (H:Hp) (h:Heap) (a:Addr):HO->Prop
 | .lst xs=>xs.length<=sizeLine/\∃ (its:List Value) (n:Nat),Z3 xs its/\h.get? a=some { cls:= .type "list",data:= .seq its.toArray n }
 | .tup xs=>xs.length<=sizeLine/\∃ its:List Value,Z3 xs its/\IsTup h a its.toArray
 | .dK kvs=>kvs.length<=sizeLine/\(a == sysModules)=false/\∃ vs,KV kvs vs/\h.DictOf (W2 P w) a vs
 | .dT kvs=>kvs.length<=sizeLine/\(a == sysModules)=false/\∃ xs:List (List Key×Addr×Value),
   Paired (fun (p:List Key×V) (q:List Key×Addr×Value)=>p.1=q.1/\H q.2.1=some (.tup (p.1.map kV))/\Zj p.2 q.2.2) kvs xs/\
   ∃ o es ep,h.get? a=some o/\o.ExactDict/\o.data= .dict es ep/\es.toList=xs.map (entryOfKey (tupleKind (W2 P w)))/\(xs.map (·.1)).Nodup
 | .set S n=>h.SetOf (intKind P w) a S n
 | .ins C dx fs=>H dx=some (.own a)/\fs.length<=1000/\dx ≠ a/\h.get? a=some (PySem.W.instObj C dx)/\
   ∃ mA,h.Ns1 dx mA/\(∀ f,Vl (fs.lookup f) (mA f))/\PySem.Within mA (fs.map (·.1))
 | .own _=>∃ o,h.get? a=some o
 | .xd fs=>∃ mA,h.Ns1 a mA/\∀ f,Vl (fs.lookup f) (mA f)
 | .rng lo hi=>∃ t u v,h.get? a=some { cls:= .type "range",data:= .fields #[.int lo t, .int hi u, .int 1 v] }
 | .frz o u=>h.get? a=some o/\Zm H h a u
 | .tbl ps=>h.get? a=some { cls:= .none,data:= .fields ps }
 | .met f x=>h.get? a=some (PySem.W.methodObj (.ref f) (.ref x))
 | .ext φ=>φ h/\(∃ o,h.get? a=some o)/\∀ h1 h2:Heap,φ h1->(∀ o,h1.get? a=some o->h2.get? a=some o)->φ h2
def HOk (H:Hp) (h:Heap):Prop:=∀ a o,H a=some o->Zm P w H h a o
end
section
variable {P:Program} {w:World} {H H' :Hp} {h h' :Heap} {a:Addr} {o:HO}
theorem Zm.lt (x:Zm P w H h a o):a < h.objs.size:=by
 cases o with
 | lst xs=>obtain ⟨_,_,_,_,e⟩:=x; exact Heap.lt_size e
 | tup xs=>obtain ⟨_,_,_,p⟩:=x; exact p.lt
 | dK kvs=>obtain ⟨_,_,_,_,o,_,_,e,_⟩:=x; exact Heap.lt_size e
 | dT kvs=>obtain ⟨_,_,_,_,o,_,_,e,_⟩:=x; exact Heap.lt_size e
 | set S n=>obtain ⟨o,_,_,_,e,_⟩:=x; exact Heap.lt_size e
 | ins C dx fs=>obtain ⟨_,_,_,e,_⟩:=x; exact Heap.lt_size e
 | own y=>obtain ⟨_,e⟩:=x; exact Heap.lt_size e
 | xd fs=>obtain ⟨_,⟨_,_,_,e,_⟩,_⟩:=x; exact Heap.lt_size e
 | rng lo hi=>obtain ⟨_,_,_,e⟩:=x; exact Heap.lt_size e
 | frz ob u=>obtain ⟨e,_⟩:=x; exact Heap.lt_size e
 | tbl ps=>exact Heap.lt_size (show h.get? a=some _ from x)
 | met f y=>exact Heap.lt_size (show h.get? a=some _ from x)
 | ext φ=>obtain ⟨_,⟨_,e⟩,_⟩:=x; exact Heap.lt_size e
theorem Paired.mapP {α β:Type} {F G:α->β->Prop}:∀ {l₁:List α} {l₂:List β},Paired F l₁ l₂->(∀ a b,F a b->G a b)->Paired G l₁ l₂
 | _,_, .nil,_=> .nil
 | _,_, .cons r t,f=> .cons (f _ _ r) (Paired.mapP t f)
theorem Zm.stay (x:Zm P w H h a o) (k:∀ b u,(b=a\/H b=some (.own a))->h.get? b=some u->h'.get? b=some u)
  (ho:∀ b,H b=some (.own a)->H' b=some (.own a)) (ht:∀ b xs,H b=some (.tup xs)->H' b=some (.tup xs)):Zm P w H' h' a o:=by
 induction o with
 | lst xs=>obtain ⟨z,its,n,r,e⟩:=x; exact ⟨z,its,n,r,k _ _ (.inl rfl) e⟩
 | tup xs=>obtain ⟨z,its,r,ob,e,c⟩:=x; exact ⟨z,its,r,ob,k _ _ (.inl rfl) e,c⟩
 | dK kvs=>obtain ⟨z,y,vs,r,ob,es,ep,e,c⟩:=x; exact ⟨z,y,vs,r,ob,es,ep,k _ _ (.inl rfl) e,c⟩
 | dT kvs=>
  obtain ⟨z,y,xs,r,ob,es,ep,e,c⟩:=x
  exact ⟨z,y,xs,Paired.mapP r fun p q z=>⟨z.1,ht _ _ z.2.1,z.2.2⟩,ob,es,ep,k _ _ (.inl rfl) e,c⟩
 | set S n=>obtain ⟨ob,es,ep,t,e,c⟩:=x; exact ⟨ob,es,ep,t,k _ _ (.inl rfl) e,c⟩
 | ins C dx fs=>
  obtain ⟨d,z,ne,e,mA,⟨od,es,ep,e2,c⟩,r⟩:=x
  exact ⟨ho _ d,z,ne,k _ _ (.inl rfl) e,mA,⟨od,es,ep,k _ _ (.inr d) e2,c⟩,r⟩
 | own y=>obtain ⟨ob,e⟩:=x; exact ⟨ob,k _ _ (.inl rfl) e⟩
 | xd fs=>obtain ⟨mA,⟨od,es,ep,e,c⟩,r⟩:=x; exact ⟨mA,⟨od,es,ep,k _ _ (.inl rfl) e,c⟩,r⟩
 | rng lo hi=>obtain ⟨t,u,v,e⟩:=x; exact ⟨t,u,v,k _ _ (.inl rfl) e⟩
 | frz ob u ih=>obtain ⟨e,q⟩:=x; exact ⟨k _ _ (.inl rfl) e,ih q⟩
 | tbl ps=>
  have e:h.get? a=some { cls:= .none,data:= .fields ps }:=x
  show h'.get? a=some { cls:= .none,data:= .fields ps }
  exact k a _ (.inl rfl) e
 | met f y=>
  have e:h.get? a=some (PySem.W.methodObj (.ref f) (.ref y)):=x
  show h'.get? a=some (PySem.W.methodObj (.ref f) (.ref y))
  exact k a _ (.inl rfl) e
 | ext φ=>obtain ⟨p,⟨o,e⟩,st⟩:=x; exact ⟨st _ _ p fun o q=>k _ _ (.inl rfl) q,⟨o,k _ _ (.inl rfl) e⟩,st⟩
theorem HOk.lt (x:HOk P w H h) (e:H a=some o):a < h.objs.size:=(x a o e).lt
theorem HOk.fresh (x:HOk P w H h) (e:h.objs.size<=a):H a=none:=by
 cases q:H a with
 | none=>rfl
 | some u=>exact absurd (Nat.lt_of_lt_of_le (x.lt q) e) (Nat.lt_irrefl _)
theorem HOk.kept (x:HOk P w H h) (k:∀ b u,h.get? b=some u->h'.get? b=some u):HOk P w H h' :=fun a o e=>
 (x a o e).stay (fun b u _ q=>k b u q) (fun _ q=>q) fun _ _ q=>q
theorem HOk.laid (x:HOk P w H h) (k:∀ b u,h.get? b=some u->h'.get? b=some u) (hp:h.objs.size<=a) (new:Zm P w (upd H a o) h' a o):HOk P w (upd H a o) h' :=fun b u e=>by
 have hn:=x.fresh hp
 by_cases hb:b=a
 ·subst hb; rw [zA] at e; cases e; exact new
 ·rw [zo hb] at e
  exact (x b u e).stay (fun c v _ q=>k c v q) (fun c q=>by rw [zo (zy q hn)]; exact q) fun c xs q=>by rw [zo (zy q hn)]; exact q
end
def Rd (H:Hp) (a:Addr) (u:HO):Prop:=H a=some u\/∃ o,H a=some (.frz o u)
theorem Rd.ok {P:Program} {w:World} {H:Hp} {h:Heap} {a:Addr} {u:HO} (r:Rd H a u) (x:HOk P w H h):Zm P w H h a u:=by
 rcases r with r | ⟨o,r⟩
 ·exact x a u r
 ·obtain ⟨_,q⟩:=x a _ r
  exact q
def Mut:Option HO->Prop
 | some (.lst _)=>True
 | some (.dK _)=>True
 | some (.dT _)=>True
 | some (.set _ _)=>True
 | some (.ins _ _ _)=>True
 | some (.ext _)=>True
 | _=>False
section
variable {P:Program} {w:World} {H:Hp} {h h' :Heap} {x e:Addr} {o' :HO}
theorem HOk.write (ok:HOk P w H h) (mu:Mut (H x)) (he:e=x\/H e=some (.own x)) (k:∀ b u,b ≠ e->h.get? b=some u->h'.get? b=some u) (heo:∃ u,h'.get? e=some u)
  (new:Zm P w (upd H x o') h' x o'):HOk P w (upd H x o') h' :=fun b u q=>by
 have nown:∀ c y,H c=some (.own y)->c ≠ x:=fun c y r z=>by subst z; rw [r] at mu; exact mu
 have ntup:∀ c xs,H c=some (.tup xs)->c ≠ x:=fun c xs r z=>by subst z; rw [r] at mu; exact mu
 by_cases hb:b=x
 ·subst hb; rw [zA] at q; cases q; exact new
 ·rw [zo hb] at q
  by_cases hbe:b=e
  ·have q' :H b=some (.own x):=by
    rcases he with z | z
    ·exact absurd (hbe.trans z) hb
    ·rw [hbe]; exact z
   rw [q] at q'; cases q'
   obtain ⟨v,hv⟩:=heo
   exact ⟨v,by rw [hbe]; exact hv⟩
  ·refine (ok b u q).stay (fun c v hc r=>k c v ?_ r) (fun c r=>by rw [zo (nown c b r)]; exact r) fun c xs r=>by rw [zo (ntup c xs r)]; exact r
   rcases hc with rfl | hc
   ·exact hbe
   ·rintro rfl
    rcases he with z | z
    ·exact nown c b hc z
    ·rw [hc] at z; cases z; exact hb rfl
end
structure Un (fs ex:List Addr) (H H' :Hp) (h h' :Heap):Prop where
 keep:∀ b o,h.get? b=some o->H b=none->b ∉ fs->b ∉ ex->h'.get? b=some o
 slot:∀ b o,h.get? b=some o->H b=none->b∈fs->b ∉ ex->∃ sl,h'.get? b=some { o with slots:=sl }
 free:∀ b o,h.get? b=some o->H b=none->b ∉ ex->H' b=none
 there:∀ b o,h.get? b=some o->b ∉ ex->∃ o',h'.get? b=some o'
 tups:∀ b xs,H b=some (.tup xs)->H' b=some (.tup xs)
 frzs:∀ b o u,H b=some (.frz o u)->H' b=some (.frz o u)
 tbls:∀ b ps,H b=some (.tbl ps)->∃ more,H' b=some (.tbl (ps++more))
section
variable {fs fs' ex ex' :List Addr} {H H1 H2:Hp} {h h1 h2 h' :Heap} {a x e:Addr} {o:HO}
theorem Un.any (u:Un fs ex H H1 h h1) {b:Addr} {ob:Obj} (q:h.get? b=some ob) (n:H b=none) (hx:b ∉ ex):∃ sl,h1.get? b=some { ob with slots:=sl }:=by
 by_cases hb:b∈fs
 ·exact u.slot b ob q n hb hx
 ·exact ⟨ob.slots,u.keep b ob q n hb hx⟩
theorem Un.kept (k:∀ b u,h.get? b=some u->h'.get? b=some u):Un fs ex H H h h' :=
 ⟨fun b ob q _ _ _=>k b ob q,fun b ob q _ _ _=>⟨ob.slots,k b ob q⟩,fun _ _ _ n _=>n,fun b ob q _=>⟨ob,k b ob q⟩,fun _ _ q=>q,fun _ _ _ q=>q,fun _ ps q=>⟨#[],by rw [q]; simp⟩⟩
theorem Un.refl:Un fs ex H H h h:=Un.kept fun _ _ q=>q
theorem Un.laid (k:∀ b u,h.get? b=some u->h'.get? b=some u) (hp:h.objs.size<=a) (hn:H a=none):Un fs ex H (upd H a o) h h' where
 keep:=fun b u q _ _ _=>k b u q
 slot:=fun b u q _ _ _=>⟨u.slots,k b u q⟩
 free:=fun b u q n _=>by rw [zo (Nat.ne_of_lt (Nat.lt_of_lt_of_le (Heap.lt_size q) hp))]; exact n
 there:=fun b u q _=>⟨u,k b u q⟩
 tups:=fun b xs q=>by rw [zo (zy q hn)]; exact q
 frzs:=fun b u xs q=>by rw [zo (zy q hn)]; exact q
 tbls:=fun b ps q=>⟨#[],by rw [zo (zy q hn),q]; simp⟩
theorem Un.write (mu:Mut (H x)) (he:e=x\/H e=some (.own x)) (k:∀ b u,b ≠ e->h.get? b=some u->h'.get? b=some u) (heo:∃ u,h'.get? e=some u):Un fs ex H (upd H x o) h h' :=by
 have hx:∀ b,H b=none->b ≠ x:=fun b n z=>by subst z; rw [n] at mu; exact mu
 have hb:∀ b,H b=none->b ≠ e:=fun b n z=>by
  subst z
  rcases he with r | r
  ·exact hx b n r
  ·rw [n] at r; cases r
 have hm:∀ b u,H b=some u->¬ Mut (some u)->b ≠ x:=fun b u q nm z=>by subst z; rw [q] at mu; exact nm mu
 refine ⟨fun b u q n _ _=>k b u (hb b n) q,fun b u q n _ _=>⟨u.slots,k b u (hb b n) q⟩,fun b u q n _=>by rw [zo (hx b n)]; exact n,fun b u q _=> ?_,
  fun b xs q=>by rw [zo (hm b _ q fun z=>z)]; exact q,fun b u xs q=>by rw [zo (hm b _ q fun z=>z)]; exact q,fun b ps q=>⟨#[],by rw [zo (hm b _ q fun z=>z),q]; simp⟩⟩
 by_cases hbe:b=e
 ·subst hbe; exact heo
 ·exact ⟨u,k b u hbe q⟩
end
def trk (h:Heap) (H:Hp):List Addr:=(List.range h.objs.size).filter fun a=>(H a).isSome
def yA (h:Heap) (H:Hp):Heap:=PySem.W.hideAll h (trk h H)
theorem uC (h:Heap) (H:Hp):(yA h H).objs.size=h.objs.size:=PySem.W.hideAll_size _ _
theorem yB {h:Heap} {H:Hp} {b:Addr} {o:Obj} (e:h.get? b=some o) (n:H b=none):(yA h H).get? b=some o:=
 PySem.W.hideAll_get _ e fun hm=>by
  have q:(H b).isSome=true:=(List.mem_filter.mp hm).2
  rw [n] at q; simp at q
theorem qd {h:Heap} {H:Hp} {b:Addr} {o:Obj} (e:(yA h H).get? b=some o):h.get? b=some o/\H b=none:=by
 have e' :h.get? b=some o:=PySem.W.of_hideAll (trk h H) e
 refine ⟨e', ?_⟩
 cases q:H b with
 | none=>rfl
 | some x=>
  have hm:b∈trk h H:=List.mem_filter.mpr ⟨List.mem_range.mpr (Heap.lt_size e'),by simp [q]⟩
  have z:(yA h H).get? b=none:=PySem.W.hideAll_none (trk h H) hm
  rw [z] at e; cases e
end L2
namespace L2
open PySem PySem.Spec PyProof.Rows
structure Mod (K:PySem.W.Frag) (mg:Str->Option Value) (base:Heap):Prop where
 kin:K.In base
 glob:base.Ns mainGlobals mg
 blt:∃ mb,base.Ns builtinsNs mb/\∀ x:Str,x ≠ "__name__"->mb x=bootBuiltins x
 nolimit:base.NoLimit
structure Cx where
 prog:Program
 w:World
 K:PySem.W.Frag
 mg:Str->Option Value
 base:Heap
 A:Around
 N:List Str
 s₀:Shared
 H₀:Hp
 env:Env
 outer:List Env
 stack:List Env
 ex:List Addr
 fn:Str->Bool
 calm:Bool
 pn:List (Addr×Obj)
 xe:Value->Shared->Prop
def frs (l:List Env):List Addr:=l.filterMap (·.frame)
abbrev Cx.fs (X:Cx):List Addr:=frs X.outer
def Vis (sc:Scope) (x:Str):Prop:=sc.names.lookup x=some .local\/sc.names.lookup x=some .cell\/sc.names.lookup x=some .free
def Loc (sc:Scope) (x:Str):Prop:=sc.names.lookup x=some .local\/sc.names.lookup x=some .cell
def xG (env:Env) (h:Heap) (m:Str->Option Value) (x:Str) (u:Value):Prop:=
 (env.kindOf x=some .local/\m x=some u)\/((env.kindOf x=some .cell\/env.kindOf x=some .free)/\∃ c,env.cells.lookup x=some c/\h.IsCell c (some u))
structure Cx.Ok (X:Cx):Prop where
 mod:Mod X.K X.mg X.base
 kind:X.env.scope.kind= .function
 glob:X.env.globals=mainGlobals
 blt:X.env.builtins=builtinsNs
 above:X.s₀.heap.objs.size<=X.env.locals
 inj:∀ x y c,X.env.cells.lookup x=some c->X.env.cells.lookup y=some c->x=y
 has:∀ x,(X.env.kindOf x=some .cell\/X.env.kindOf x=some .free)->∃ c,X.env.cells.lookup x=some c
 cab:∀ x c,X.fn x=true->X.env.cells.lookup x=some c->X.s₀.heap.objs.size<=c
 hd:X.calm=true->X.A.handled=none
 frames:X.A.frames=some X.stack
 stk:X.stack=X.outer\/(X.stack=X.env :: X.outer/\X.env.frame=some X.env.locals)
 exf:∀ b∈X.ex,b ≠ X.env.locals/\∀ x c,X.env.cells.lookup x=some c->c ≠ b
 bs:∀ b o,X.base.get? b=some o->X.s₀.heap.get? b=some o/\X.H₀ b=none
 bsz:X.base.objs.size<=X.s₀.heap.objs.size
 noex:∀ b o,X.base.get? b=some o->b ∉ X.ex
 exfs:∀ b∈X.ex,b ∉ X.fs
 funs:X.s₀.heap.FunFrames X.base X.outer
 frf:∀ b∈X.fs,X.H₀ b=none
structure Inv (X:Cx) (pins:List (Addr×Obj)) (σ:List (Option V)) (H:Hp) (s:Shared):Prop where
 ok:X.Ok
 os:s.os=X.s₀.os
 bare:AllBare s.gens
 base:Un X.fs X.ex X.H₀ H X.s₀.heap s.heap
 loc:∃ m,s.heap.Ns X.env.locals m/\∀ (i:Nat) (x:Str) (v:V),X.N[i]? =some x->σ[i]? =some (some v)->Vis X.env.scope x->∃ u,Zj v u/\xG X.env s.heap m x u
 cell:∀ x c,X.env.cells.lookup x=some c->∃ v,s.heap.IsCell c v
 free:H X.env.locals=none
 freeC:∀ x c,X.env.cells.lookup x=some c->H c=none
 pin:∀ p∈X.pn++pins,s.heap.get? p.1=some p.2/\H p.1=none/\p.1 ≠ X.env.locals/\p.1 ∉ X.fs/\∀ v,p.2.data ≠ .cell v
 hok:HOk X.prog X.w H s.heap
 len:σ.length=X.N.length
section
variable {X:Cx} {pins:List (Addr×Obj)} {σ:List (Option V)} {H H' :Hp} {s:Shared} {h' :Heap}
theorem Cx.Ok.nofr (ok:X.Ok) {b:Addr} {o:Obj} (e:X.base.get? b=some o):b ∉ X.fs:=fun hb=>by
 have:=(ok.funs.mem hb).1
 rw [e] at this; cases this
theorem Inv.bs (I:Inv X pins σ H s):∀ b o,X.base.get? b=some o->s.heap.get? b=some o/\H b=none:=fun b o e=>
 ⟨I.base.keep b o (I.ok.bs b o e).1 (I.ok.bs b o e).2 (I.ok.nofr e) (I.ok.noex b o e),I.base.free b o (I.ok.bs b o e).1 (I.ok.bs b o e).2 (I.ok.noex b o e)⟩
theorem Inv.bk (I:Inv X pins σ H s):∀ b o,X.base.get? b=some o->s.heap.get? b=some o:=fun b o e=>(I.bs b o e).1
theorem Inv.mod (I:Inv X pins σ H s):Mod X.K X.mg X.base:=I.ok.mod
theorem Inv.kIn (I:Inv X pins σ H s):X.K.In s.heap:=I.ok.mod.kin.keeps I.bk
theorem Inv.lt (I:Inv X pins σ H s):X.env.locals < s.heap.objs.size:=let ⟨_,hn,_⟩:=I.loc; hn.lt
theorem Inv.sz (I:Inv X pins σ H s):X.s₀.heap.objs.size<=s.heap.objs.size:=Nat.le_trans I.ok.above (Nat.le_of_lt I.lt)
theorem Inv.nofs (I:Inv X pins σ H s) {a:Addr} (h:s.heap.objs.size<=a):a ∉ X.fs:=fun hb=>by
 obtain ⟨_,o,ho,_⟩:=I.ok.funs.mem hb
 exact absurd (Nat.lt_of_lt_of_le (Heap.lt_size ho) (Nat.le_trans I.sz h)) (Nat.lt_irrefl _)
theorem Inv.cne (I:Inv X pins σ H s):∀ x c,X.env.cells.lookup x=some c->c ≠ X.env.locals:=fun x c e z=>by
 obtain ⟨v,o,ho,hd⟩:=I.cell x c e
 obtain ⟨m,⟨o',es,ep,ho',hd',_⟩,_⟩:=I.loc
 rw [z,ho'] at ho; cases ho; rw [hd'] at hd; cases hd
theorem Inv.funs (I:Inv X pins σ H s):s.heap.FunFrames X.base X.outer:=by
 have all:∀ (l:List Env),(∀ b∈frs l,b∈X.fs)->X.s₀.heap.FunFrames X.base l->s.heap.FunFrames X.base l:=by
  intro l
  induction l with
  | nil=>intro _ _; trivial
  | cons env r ih=>
   intro hs hl
   obtain ⟨hk,⟨L,o,hf,hn,ho,hd⟩,hr⟩:=hl
   have hL:L∈X.fs:=hs L (by unfold frs; rw [List.filterMap_cons,hf]; exact List.mem_cons_self)
   obtain ⟨sl,e⟩:=I.base.slot L o ho (I.ok.frf L hL) hL fun z=>I.ok.exfs L z hL
   exact ⟨hk,⟨L,_,hf,hn,e,hd⟩,ih (fun b hb=>hs b (by unfold frs; rw [List.filterMap_cons,hf]; exact List.mem_cons_of_mem _ hb)) hr⟩
 exact all X.outer (fun _ hb=>hb) I.ok.funs
theorem Inv.stack (I:Inv X pins σ H s):s.heap.FunFrames X.base X.stack:=by
 rcases I.ok.stk with e | ⟨e,hf⟩
 ·rw [e]; exact I.funs
 ·rw [e]
  obtain ⟨m,hn,_⟩:=I.loc
  refine .cons (by rw [I.ok.kind]; decide) hf hn ?_ I.funs
  exact Heap.get?_none_of_le (Nat.le_trans I.ok.bsz I.ok.above)
theorem Inv.stkSub (I:Inv X pins σ H s):∀ b∈frs X.stack,b∈X.env.locals :: X.fs:=fun b hb=>by
 rcases I.ok.stk with e | ⟨e,hf⟩
 ·rw [e] at hb; exact List.mem_cons_of_mem _ hb
 ·rw [e] at hb
  unfold frs at hb
  rw [List.filterMap_cons,hf] at hb
  exact hb
theorem Inv.stkFree (I:Inv X pins σ H s):∀ b∈frs X.stack,H b=none:=fun b hb=>by
 rcases List.mem_cons.mp (I.stkSub b hb) with e | hb
 ·rw [e]; exact I.free
 ·obtain ⟨_,o,ho,_⟩:=I.ok.funs.mem hb
  exact I.base.free b o ho (I.ok.frf b hb) fun z=>I.ok.exfs b z hb
theorem Inv.step {g' :Array GenState} {t' :Nat} {d' :Drawn} {ch:List Addr} (I:Inv X pins σ H s)
  (hch:∀ b∈ch,(b∈X.ex\/X.s₀.heap.objs.size<=b)/\b ≠ X.env.locals/\(∀ x c,X.env.cells.lookup x=some c->c ≠ b)/\∀ p∈X.pn++pins,p.1 ≠ b)
  (keep:∀ b o,b ≠ X.env.locals->b ∉ X.fs->b ∉ ch->s.heap.get? b=some o->H b=none->h'.get? b=some o)
  (slot:∀ b o,b ≠ X.env.locals->b∈X.fs->b ∉ ch->s.heap.get? b=some o->H b=none->∃ sl,h'.get? b=some { o with slots:=sl }) (free:∀ b o,b ∉ ch->s.heap.get? b=some o->H b=none->H' b=none)
  (there:∀ b o,b ∉ ch->s.heap.get? b=some o->∃ o',h'.get? b=some o')
  (tups:∀ b xs,H b=some (.tup xs)->H' b=some (.tup xs)) (frzs:∀ b o u,H b=some (.frz o u)->H' b=some (.frz o u)) (tbls:∀ b ps,H b=some (.tbl ps)->∃ more,H' b=some (.tbl (ps++more)))
  (ns:∀ m,s.heap.Ns X.env.locals m->h'.Ns X.env.locals m) (hok:HOk X.prog X.w H' h') (hg:AllBare g'):
  Inv X pins σ H' { s with heap:=h',gens:=g',drawn:=d',toks:=t' }:=by
 have neL:∀ b o,X.s₀.heap.get? b=some o->b ≠ X.env.locals:=fun b o e=>Nat.ne_of_lt (Nat.lt_of_lt_of_le (Heap.lt_size e) I.ok.above)
 have neC:∀ b o,X.s₀.heap.get? b=some o->b ∉ X.ex->b ∉ ch:=fun b o e hx hb=>by
  rcases (hch b hb).1 with z | z
  ·exact hx z
  ·exact absurd (Nat.lt_of_lt_of_le (Heap.lt_size e) z) (Nat.lt_irrefl _)
 have cellK:∀ x c,X.env.cells.lookup x=some c->∀ v,s.heap.IsCell c v->h'.IsCell c v:=fun x c e v ⟨o,ho,hd⟩=>by
  have nch:c ∉ ch:=fun z=>(hch c z).2.2.1 x c e rfl
  by_cases hc:c∈X.fs
  ·obtain ⟨sl,q⟩:=slot c o (I.cne x c e) hc nch ho (I.freeC x c e)
   exact ⟨_,q,hd⟩
  ·exact ⟨o,keep c o (I.cne x c e) hc nch ho (I.freeC x c e),hd⟩
 refine ⟨I.ok,I.os,hg,⟨fun b o e n hb hx=> ?_,fun b o e n hb hx=> ?_,fun b o e n hx=> ?_,fun b o e hx=> ?_,fun b xs e=>tups b xs (I.base.tups b xs e),fun b o xs e=>frzs b o xs (I.base.frzs b o xs e),fun b ps e=> ?_⟩, ?_,fun x c e=> ?_, ?_,fun x c e=> ?_,fun p hp=> ?_,hok,I.len⟩
 ·exact keep b o (neL b o e) hb (neC b o e hx) (I.base.keep b o e n hb hx) (I.base.free b o e n hx)
 ·obtain ⟨sl,e1⟩:=I.base.slot b o e n hb hx
  obtain ⟨sl',e2⟩:=slot b _ (neL b o e) hb (neC b o e hx) e1 (I.base.free b o e n hx)
  exact ⟨sl',e2⟩
 ·obtain ⟨o',e1⟩:=I.base.there b o e hx
  exact free b o' (neC b o e hx) e1 (I.base.free b o e n hx)
 ·obtain ⟨o',e1⟩:=I.base.there b o e hx
  exact there b o' (neC b o e hx) e1
 ·obtain ⟨m1,e1⟩:=I.base.tbls b ps e
  obtain ⟨m2,e2⟩:=tbls b _ e1
  exact ⟨m1++m2,by rw [e2,Array.append_assoc]⟩
 ·obtain ⟨m,hn,hl⟩:=I.loc
  refine ⟨m,ns m hn,fun i x v e1 e2 e3=> ?_⟩
  obtain ⟨u,r,l⟩:=hl i x v e1 e2 e3
  refine ⟨u,r, ?_⟩
  rcases l with l | ⟨k,c,e,z⟩
  ·exact .inl l
  ·exact .inr ⟨k,c,e,cellK x c e _ z⟩
 ·obtain ⟨v,z⟩:=I.cell x c e
  exact ⟨v,cellK x c e v z⟩
 ·obtain ⟨m,⟨o,_,_,ho,_⟩,_⟩:=I.loc
  exact free _ o (fun z=>(hch _ z).2.1 rfl) ho I.free
 ·obtain ⟨v,o,ho,hd⟩:=I.cell x c e
  exact free c o (fun z=>(hch c z).2.2.1 x c e rfl) ho (I.freeC x c e)
 ·obtain ⟨e,n,ne,nf,d⟩:=I.pin p hp
  have nch:p.1 ∉ ch:=fun z=>(hch p.1 z).2.2.2 p hp rfl
  exact ⟨keep p.1 p.2 ne nf nch e n,free p.1 p.2 nch e n,ne,nf,d⟩
theorem Inv.un {t' :Nat} (I:Inv X pins σ H s) (u:Un X.fs [] H H' s.heap h') (hok:HOk X.prog X.w H' h'):Inv X pins σ H' { s with heap:=h',toks:=t' }:=by
 obtain ⟨m,⟨o,es,ep,ho,r⟩,_⟩:=id I.loc
 obtain ⟨sl,hL⟩:=u.any ho I.free (by simp)
 exact I.step (g' :=s.gens) (d' :=s.drawn) (ch:=[]) (fun _ z=>nomatch z) (fun b o _ hb _ e n=>u.keep b o e n hb (by simp)) (fun b o _ hb _ e n=>u.slot b o e n hb (by simp)) (fun b o _ e n=>u.free b o e n (by simp)) (fun b o _ e=>u.there b o e (by simp)) u.tups u.frzs u.tbls (fun m' hm=>by
  obtain ⟨o',es',ep',ho',r'⟩:=hm
  rw [ho] at ho'; cases ho'
  exact ⟨_,es',ep',hL,r'⟩) hok I.bare
theorem Inv.call {g' :Array GenState} {t' :Nat} {d' :Drawn} {ch:List Addr} (I:Inv X pins σ H s) (u:Un (frs X.stack) ch H H' s.heap h') (hok:HOk X.prog X.w H' h') (hg:AllBare g')
  (hch:∀ b∈ch,(b∈X.ex\/X.s₀.heap.objs.size<=b)/\b ≠ X.env.locals/\(∀ x c,X.env.cells.lookup x=some c->c ≠ b)/\∀ p∈X.pn++pins,p.1 ≠ b):
  Inv X pins σ H' { s with heap:=h',gens:=g',drawn:=d',toks:=t' }:=by
 obtain ⟨m,⟨o,es,ep,ho,r⟩,_⟩:=id I.loc
 obtain ⟨sl,hL⟩:=u.any ho I.free fun z=>(hch _ z).2.1 rfl
 exact I.step (ch:=ch) hch (fun b o hL hb hc e n=>u.keep b o e n (fun z=>(List.mem_cons.mp (I.stkSub b z)).elim hL hb) hc) (fun b o _ _ hc e n=>u.any e n hc) (fun b o hc e n=>u.free b o e n hc) (fun b o hc e=>u.there b o e hc) u.tups u.frzs u.tbls (fun m' hm=>by
  obtain ⟨o',es',ep',ho',r'⟩:=hm
  rw [ho] at ho'; cases ho'
  exact ⟨_,es',ep',hL,r'⟩) hok hg
theorem Inv.turned {t' :Nat} {it:Addr} (I:Inv X pins σ H s) (k:∀ b o,b ≠ it->s.heap.get? b=some o->h'.get? b=some o) (hn:H it=none) (hL:it ≠ X.env.locals)
  (h1:it∈X.ex\/X.s₀.heap.objs.size<=it) (h2:∀ x c,X.env.cells.lookup x=some c->c ≠ it) (h3:∀ p∈X.pn++pins,p.1 ≠ it):Inv X pins σ H { s with heap:=h',toks:=t' }:=by
 have nit:∀ b u,H b=some u->b ≠ it:=fun b u e z=>by rw [z,hn] at e; cases e
 refine I.step (g' :=s.gens) (d' :=s.drawn) (ch:=[it]) (fun b hb=> ?_) (fun b o _ _ hc e _=>k b o (fun z=>hc (by simp [z])) e) (fun b o _ _ hc e _=>⟨o.slots,k b o (fun z=>hc (by simp [z])) e⟩) (fun _ _ _ _ n=>n)
  (fun b o hc e=>⟨o,k b o (fun z=>hc (by simp [z])) e⟩) (fun _ _ e=>e) (fun _ _ _ e=>e) (fun b ps e=>⟨#[],by rw [e]; simp⟩) (fun m hm=> ?_) (fun b u e=> ?_) I.bare
 ·have e:b=it:=by simpa using hb
  subst e
  exact ⟨h1,hL,h2,h3⟩
 ·obtain ⟨o,es,ep,ho,r⟩:=hm
  exact ⟨o,es,ep,k _ o (Ne.symm hL) ho,r⟩
 ·refine (I.hok b u e).stay (fun c v hc q=>k c v ?_ q) (fun _ q=>q) fun _ _ q=>q
  rcases hc with z | z
  ·rw [z]; exact nit b u e
  ·exact nit c _ z
theorem Inv.tok (I:Inv X pins σ H s) (t:Nat):Inv X pins σ H { s with toks:=t }:=I.un (h' :=s.heap) (t' :=t) Un.refl I.hok
theorem Inv.kept {t' :Nat} (I:Inv X pins σ H s) (k:∀ b u,s.heap.get? b=some u->h'.get? b=some u):Inv X pins σ H { s with heap:=h',toks:=t' }:=I.un (Un.kept k) (I.hok.kept k)
theorem Inv.laid {a:Addr} {o:HO} {t' :Nat} (I:Inv X pins σ H s) (k:∀ b u,s.heap.get? b=some u->h'.get? b=some u) (hp:s.heap.objs.size<=a) (new:Zm X.prog X.w (upd H a o) h' a o):
  Inv X pins σ (upd H a o) { s with heap:=h',toks:=t' }:=I.un (Un.laid k hp (I.hok.fresh hp)) (I.hok.laid k hp new)
theorem Inv.write {x e:Addr} {o:HO} {t' :Nat} (I:Inv X pins σ H s) (mu:Mut (H x)) (he:e=x\/H e=some (.own x)) (k:∀ b u,b ≠ e->s.heap.get? b=some u->h'.get? b=some u) (heo:∃ u,h'.get? e=some u)
  (new:Zm X.prog X.w (upd H x o) h' x o):Inv X pins σ (upd H x o) { s with heap:=h',toks:=t' }:=I.un (Un.write mu he k heo) (I.hok.write mu he k heo new)
theorem Inv.pins_of {pins' :List (Addr×Obj)} (I:Inv X pins σ H s) (h:∀ p∈pins',s.heap.get? p.1=some p.2/\H p.1=none/\p.1 ≠ X.env.locals/\p.1 ∉ X.fs/\∀ v,p.2.data ≠ .cell v):Inv X pins' σ H s:=
 ⟨I.ok,I.os,I.bare,I.base,I.loc,I.cell,I.free,I.freeC,fun p hp=>(List.mem_append.mp hp).elim (fun z=>I.pin p (List.mem_append_left _ z)) (h p),I.hok,I.len⟩
theorem Wv {N:List Str} (hN:N.Nodup) {i j:Nat} {x:Str} (a:N[i]? =some x) (b:N[j]? =some x):i=j:=by
 obtain ⟨h1,e1⟩:=List.getElem?_eq_some_iff.mp a
 obtain ⟨h2,e2⟩:=List.getElem?_eq_some_iff.mp b
 exact (List.getElem_inj hN).mp (e1.trans e2.symm)
theorem wc {M:Model} {A:Around} {E:Value->Shared->Prop} {i:Nat} {x:Str} {v:V} {u:Value} {Q:Unit->Shared->Prop} (I:Inv X pins σ H s) (hN:X.N.Nodup) (hi:X.N[i]? =some x) (hx:Loc X.env.scope x) (r:Zj v u)
  (h:∀ s',Inv X pins (σ.set i (some v)) H s' ->(∃ a,Heap.SameBut a s.heap s'.heap/\(a=X.env.locals\/X.env.cells.lookup x=some a))->Q () s') (hf:X.fn x=true\/X.env.scope.names.lookup x=some .local:=by first | exact .inl rfl | exact .inr rfl | assumption):wpAny M A (storeName X.env x u) Q E s:=by
 obtain ⟨m,hn,hl⟩:=id I.loc
 have hcls:(X.env.scope.kind == .class || (X.env.scope.kind == .module && X.env.locals != X.env.globals))=false:=by rw [I.ok.kind]; rfl
 have hiσ:i < σ.length:=by rw [I.len]; exact (List.getElem?_eq_some_iff.mp hi).1
 have cne:=I.cne
 have tracked:∀ {a:Addr} {h' :Heap},(∃ o,s.heap.get? a=some o/\H a=none)->Heap.SameBut a s.heap h' ->HOk X.prog X.w H h' :=fun {a h'} ha hs b ob e=>by
  obtain ⟨_,_,hfree⟩:=ha
  refine (I.hok b ob e).stay (fun c w' hc q=>(hs.2 c ?_).trans q) (fun _ q=>q) fun _ _ q=>q
  rintro rfl
  rcases hc with rfl | hc
  ·rw [hfree] at e; cases e
  ·rw [hfree] at hc; cases hc
 rcases hx with hk | hk
 ·refine wpAny_storeName_local hk hn (fun h' hn' hs=> ?_) hcls
  obtain ⟨oL,_,_,hoL,_⟩:=id hn
  refine h _ ⟨I.ok,I.os,I.bare,⟨fun b o e n hb hx=> ?_,fun b o e n hb hx=> ?_,I.base.free,fun b o e hx=> ?_,I.base.tups,I.base.frzs,I.base.tbls⟩,⟨_,hn',fun j y v' e1 e2 e3=> ?_⟩,fun y c e=> ?_,I.free,I.freeC,fun p hp=> ?_,tracked ⟨oL,hoL,I.free⟩ hs,by simpa using I.len⟩ ⟨_,hs, .inl rfl⟩
  ·exact (hs.2 b (Nat.ne_of_lt (Nat.lt_of_lt_of_le (Heap.lt_size e) I.ok.above))).trans (I.base.keep b o e n hb hx)
  ·obtain ⟨sl,e1⟩:=I.base.slot b o e n hb hx
   exact ⟨sl,(hs.2 b (Nat.ne_of_lt (Nat.lt_of_lt_of_le (Heap.lt_size e) I.ok.above))).trans e1⟩
  ·obtain ⟨o',e1⟩:=I.base.there b o e hx
   exact ⟨o',(hs.2 b (Nat.ne_of_lt (Nat.lt_of_lt_of_le (Heap.lt_size e) I.ok.above))).trans e1⟩
  ·by_cases hj:j=i
   ·subst hj
    rw [hi] at e1; cases e1
    rw [List.getElem?_set_self hiσ] at e2
    cases e2
    exact ⟨u,r, .inl ⟨hk,by simp⟩⟩
   ·rw [List.getElem?_set_ne (Ne.symm hj)] at e2
    obtain ⟨u',r',q⟩:=hl j y v' e1 e2 e3
    refine ⟨u',r', ?_⟩
    rcases q with ⟨k,e⟩ | ⟨k,c,e,z⟩
    ·refine .inl ⟨k, ?_⟩
     have:y ≠ x:=fun e=>hj (Wv hN e1 (e ▸ hi))
     simp [this,e]
    ·exact .inr ⟨k,c,e,z.sameBut hs (cne y c e)⟩
  ·obtain ⟨w',z⟩:=I.cell y c e
   exact ⟨w',z.sameBut hs (cne y c e)⟩
  ·obtain ⟨e,n,ne,nf,d⟩:=I.pin p hp
   exact ⟨(hs.2 p.1 ne).trans e,n,ne,nf,d⟩
 ·have hfn:X.fn x=true:=by
   rcases hf with z | z
   ·exact z
   ·rw [z] at hk; cases hk
  obtain ⟨c,hc⟩:=I.ok.has x (.inl hk)
  obtain ⟨w',z⟩:=I.cell x c hc
  refine wpAny_storeName_cell I.ok.kind hk hc z (fun h' hc' hs=> ?_)
  obtain ⟨oc,hoc,hocd⟩:=id z
  refine h { s with heap:=h' } ⟨I.ok,I.os,I.bare,⟨fun b o e n hb hx=> ?_,fun b o e n hb hx=> ?_,I.base.free,fun b o e hx=> ?_,I.base.tups,I.base.frzs,I.base.tbls⟩,⟨m,hn.sameBut hs (Ne.symm (cne x c hc)),fun j y v' e1 e2 e3=> ?_⟩,fun y c' e=> ?_,I.free,I.freeC,fun p hp=> ?_,tracked ⟨oc,hoc,I.freeC x c hc⟩ hs,by simpa using I.len⟩ ⟨c,hs, .inr hc⟩
  ·exact (hs.2 b (Nat.ne_of_lt (Nat.lt_of_lt_of_le (Heap.lt_size e) (I.ok.cab x c hfn hc)))).trans (I.base.keep b o e n hb hx)
  ·obtain ⟨sl,e1⟩:=I.base.slot b o e n hb hx
   exact ⟨sl,(hs.2 b (Nat.ne_of_lt (Nat.lt_of_lt_of_le (Heap.lt_size e) (I.ok.cab x c hfn hc)))).trans e1⟩
  ·obtain ⟨o',e1⟩:=I.base.there b o e hx
   exact ⟨o',(hs.2 b (Nat.ne_of_lt (Nat.lt_of_lt_of_le (Heap.lt_size e) (I.ok.cab x c hfn hc)))).trans e1⟩
  ·by_cases hj:j=i
   ·subst hj
    rw [hi] at e1; cases e1
    rw [List.getElem?_set_self hiσ] at e2
    cases e2
    exact ⟨u,r, .inr ⟨.inl hk,c,hc,hc'⟩⟩
   ·rw [List.getElem?_set_ne (Ne.symm hj)] at e2
    obtain ⟨u',r',q⟩:=hl j y v' e1 e2 e3
    refine ⟨u',r', ?_⟩
    rcases q with q | ⟨k,c',e,z'⟩
    ·exact .inl q
    ·refine .inr ⟨k,c',e,z'.sameBut hs ?_⟩
     rintro rfl
     exact hj (Wv hN e1 (I.ok.inj _ _ _ e hc ▸ hi))
  ·by_cases hcc:c' =c
   ·subst hcc; exact ⟨_,hc'⟩
   ·obtain ⟨w2,z2⟩:=I.cell y c' e
    exact ⟨w2,z2.sameBut hs hcc⟩
  ·obtain ⟨e,n,ne,nf,d⟩:=I.pin p hp
   refine ⟨(hs.2 p.1 ?_).trans e,n,ne,nf,d⟩
   intro q
   rw [q,hoc] at e
   have q' :oc=p.2:=Option.some.inj e
   exact d w' (by rw [← q']; exact hocd)
theorem Ww {M:Model} {A:Around} {E:Value->Shared->Prop} {i:Nat} {x:Str} {v:V} {u:Value} {Q:Unit->Shared->Prop} (I:Inv X pins σ H s) (hN:X.N.Nodup) (hi:X.N[i]? =some x) (hx:Loc X.env.scope x) (r:Zj v u)
  (h:∀ s',Inv X pins (σ.set i (some v)) H s' ->Q () s') (hf:X.fn x=true\/X.env.scope.names.lookup x=some .local:=by first | exact .inl rfl | exact .inr rfl | assumption):wpAny M A (storeName X.env x u) Q E s:=
 wc I hN hi hx r (fun s' I' _=>h s' I') hf
theorem Inv.call' {s' :Shared} {ch:List Addr} (I:Inv X pins σ H s) (ho:s'.os=s.os) (u:Un (frs X.stack) ch H H' s.heap s'.heap) (hok:HOk X.prog X.w H' s'.heap) (hg:AllBare s'.gens)
  (hch:∀ b∈ch,(b∈X.ex\/X.s₀.heap.objs.size<=b)/\b ≠ X.env.locals/\(∀ x c,X.env.cells.lookup x=some c->c ≠ b)/\∀ p∈X.pn++pins,p.1 ≠ b):Inv X pins σ H' s' :=by
 obtain ⟨h',g',d',t',o'⟩:=s'
 have e:o' =s.os:=ho
 subst e
 exact I.call (g' :=g') (t' :=t') (d' :=d') u hok hg hch
end
abbrev XK:=Value->Option Addr->Hp->Prop
abbrev St:=List (Option V)
abbrev VK:=V->Hp->Prop
abbrev TE:=St->Hp->VK->Prop
abbrev TT:=St->Hp->(Bool->Hp->Prop)->Prop
abbrev TA:=St->Hp->(List V->Hp->Prop)->Prop
structure Yt where
 nx:St->Hp->Prop
 rt:VK
 bk:St->Hp->Prop:=fun _ _=>False
 ct:St->Hp->Prop:=fun _ _=>False
abbrev TS:=Yt->St->Hp->Prop
def EP (X:Cx) (pins:List (Addr×Obj)) (σ:St) (Q:VK) (u:Value) (s' :Shared):Prop:=∃ v H',Inv X pins σ H' s' /\Zj v u/\Q v H'
def TP (X:Cx) (pins:List (Addr×Obj)) (σ:St) (Q:Bool->Hp->Prop) (b:Bool) (s' :Shared):Prop:=∃ H',Inv X pins σ H' s' /\Q b H'
def AP (X:Cx) (pins:List (Addr×Obj)) (σ:St) (Q:List V->Hp->Prop) (us:List Value) (s' :Shared):Prop:=∃ vs H',Inv X pins σ H' s' /\Z3 vs us/\Q vs H'
def SP (X:Cx) (pins:List (Addr×Obj)) (D:Yt) (f:Flow) (s' :Shared):Prop:=
 match f with
 | .next=>∃ σ' H',Inv X pins σ' H' s' /\D.nx σ' H'
 | .brk=>∃ σ' H',Inv X pins σ' H' s' /\D.bk σ' H'
 | .cont=>∃ σ' H',Inv X pins σ' H' s' /\D.ct σ' H'
 | .ret u=>∃ v σ' H',Inv X pins σ' H' s' /\Zj v u/\D.rt v H'
def PE (X:Cx) (e:Expr) (t:TE):Prop:=
 ∀ (pins:List (Addr×Obj)) (s:Shared) (σ:St) (H:Hp) (Q:VK),Inv X pins σ H s->t σ H Q->wpAny (model X.prog X.w) X.A (eval e X.env) (EP X pins σ Q) X.xe s
def PT (X:Cx) (e:Expr) (t:TT):Prop:=
 ∀ (pins:List (Addr×Obj)) (s:Shared) (σ:St) (H:Hp) (Q:Bool->Hp->Prop),Inv X pins σ H s->t σ H Q->wpAny (model X.prog X.w) X.A (isTrue e X.env (eval e X.env)) (TP X pins σ Q) X.xe s
def PW (X:Cx) (e:Expr) (t:TT):Prop:=
 ∀ (whole:Sem Value) (pins:List (Addr×Obj)) (s:Shared) (σ:St) (H:Hp) (Q:Bool->Hp->Prop),Inv X pins σ H s->t σ H Q->wpAny (model X.prog X.w) X.A (isTrue e X.env whole) (TP X pins σ Q) X.xe s
theorem PW.pt {X:Cx} {e:Expr} {t:TT} (h:PW X e t):PT X e t:=h _
def PA (X:Cx) (es:List Expr) (t:TA):Prop:=
 ∀ (pos:Pos) (pins:List (Addr×Obj)) (s:Shared) (σ:St) (H:Hp) (Q:List V->Hp->Prop),Inv X pins σ H s->t σ H Q->wpAny (model X.prog X.w) X.A (spliced (backTo pos (starEach es X.env))) (AP X pins σ Q) X.xe s
def PS (X:Cx) (st:Stmt) (t:TS):Prop:=
 ∀ (pins:List (Addr×Obj)) (s:Shared) (σ:St) (H:Hp) (D:Yt),Inv X pins σ H s->t D σ H->wpAny (model X.prog X.w) X.A (exec st X.env) (SP X pins D) X.xe s
def PSs (X:Cx) (st:List Stmt) (t:TS):Prop:=
 ∀ (pins:List (Addr×Obj)) (s:Shared) (σ:St) (H:Hp) (D:Yt),Inv X pins σ H s->t D σ H->wpAny (model X.prog X.w) X.A (execs st X.env) (SP X pins D) X.xe s
theorem thn {α:Type} {t:Sem α} {Q Q' :α->Shared->Prop} {M:Model} {A:Around} {E:Value->Shared->Prop} {s:Shared} (h:wpAny M A t Q E s) (hQ:∀ a s,Q a s->Q' a s):wpAny M A t Q' E s:=wpAny_mono h hQ fun _ _ x=>x
end L2
namespace L2
open PySem PySem.Spec PyProof.Rows
section
variable {X:Cx}
theorem bin {a b:Expr} {ta tb:TE} (ha:PE X a ta) (hb:PE X b tb) {pins:List (Addr×Obj)} {s:Shared} {σ:St} {H:Hp} {R:V->V->Hp->Prop} (I:Inv X pins σ H s) (h:ta σ H fun x H1=>tb σ H1 fun y H2=>R x y H2)
  {α:Type} {Q:α->Shared->Prop} {f:Value->Value->Sem α}
  (hf:∀ v u s2 x y H2,Inv X pins σ H2 s2->Zj x v->Zj y u->R x y H2->wpAny (model X.prog X.w) X.A (f v u) Q X.xe s2):
  wpAny (model X.prog X.w) X.A (eval a X.env) (fun v s₁=>wpAny (model X.prog X.w) X.A (eval b X.env) (fun u s₂=>wpAny (model X.prog X.w) X.A (f v u) Q X.xe s₂) X.xe s₁) X.xe s:=by
 refine thn (ha pins s σ H _ I h) fun v s1 ⟨x,H1,I1,r1,q1⟩=> ?_
 refine thn (hb pins s1 σ H1 _ I1 q1) fun u s2 ⟨y,H2,I2,r2,q2⟩=> ?_
 exact hf v u s2 x y H2 I2 r1 r2 q2
def qe (i:Nat):TE:=fun σ H Q=>∃ v,σ[i]? =some (some v)/\Q v H
def tC (v:V):TE:=fun _ H Q=>Q v H
theorem QH {i:Nat} {x:Str} {pos:Pos} (hN:X.N[i]? =some x) (hv:Vis X.env.scope x) (hd:(x == ("__debug__":Str))=false:=by decide) (hcd:(x == ("__classdict__":Str))=false:=by decide):PE X (.Name x pos) (qe i):=by
 intro pins s σ H Q I h
 obtain ⟨v,e,h⟩:=h
 obtain ⟨m,hn,hl⟩:=I.loc
 obtain ⟨u,r,l⟩:=hl i x v hN e hv
 have fin:EP X pins σ Q u s:=⟨v,H,I,r,h⟩
 rcases l with ⟨hk,hm⟩ | ⟨hk,c,hc,hcell⟩
 ·exact wpAny_Name (wpAny_loadName_local I.ok.kind hk hn hm fin) hd
 ·rcases hk with hk | hk
  ·exact wpAny_Name (wpAny_loadName_cell I.ok.kind hk hc hcell fin) hd
  ·exact wpAny_Name (wpAny_loadName_free I.ok.kind hk hc hcell fin hcd) hd
theorem QI {i j pos}:PE X (.Constant (.int i) j pos) (tC (.int i)):=fun _ _ _ H _ I h=>wpAny_Constant_int ⟨.int i,H,I.tok _,⟨_,rfl⟩,h⟩
theorem Vm {b j pos}:PE X (.Constant (.bool b) j pos) (tC (.bl b)):=fun _ _ _ H _ I h=>Constant_bool ⟨.bl b,H,I,rfl,h⟩
theorem Yu {x j pos}:PE X (.Constant (.str x) j pos) (tC (.str x)):=fun _ _ _ H _ I h=>Calls.Constant_str ⟨.str x,H,I.tok _,⟨_,rfl⟩,h⟩
def Gl (X:Cx) (x:Str):Prop:=X.env.kindOf x=some .globalImplicit
theorem W3 {E:Value->Shared->Prop} {pins:List (Addr×Obj)} {s:Shared} {σ:St} {H:Hp} {x:Str} {u:Value} {pos:Pos} {Q:Value->Shared->Prop} (I:Inv X pins σ H s) (hg:Gl X x) (hm:X.mg x=some u) (h:Q u s)
  (hd:(x == ("__debug__":Str))=false:=by decide):wpAny (model X.prog X.w) X.A (eval (.Name x pos) X.env) Q E s:=
 Calls.Name_function_global I.ok.kind hg (Calls.loadGlobal_global (by rw [I.ok.glob]; exact I.mod.glob.keeps I.bk) hm h) hd
theorem jF {E:Value->Shared->Prop} {pins:List (Addr×Obj)} {s:Shared} {σ:St} {H:Hp} {x:Str} {u:Value} {pos:Pos} {Q:Value->Shared->Prop} (I:Inv X pins σ H s) (hg:Gl X x) (hm:X.mg x=none) (hv:bootBuiltins x=some u) (h:Q u s)
  (hn:x ≠ "__name__":=by decide) (hd:(x == ("__debug__":Str))=false:=by decide):wpAny (model X.prog X.w) X.A (eval (.Name x pos) X.env) Q E s:=by
 obtain ⟨mb,h1,h2⟩:=I.mod.blt
 exact Calls.Name_function_global I.ok.kind hg (Calls.loadGlobal_builtin (by rw [I.ok.glob]; exact I.mod.glob.keeps I.bk) hm (by rw [I.ok.blt]; exact h1.keeps I.bk) ((h2 x hn).trans hv) h) hd
theorem qf {x:Str} {v:V} {u:Value} {pos:Pos} (hg:Gl X x) (hm:X.mg x=some u) (r:Zj v u) (hd:(x == ("__debug__":Str))=false:=by decide):PE X (.Name x pos) (tC v):=
 fun _ _ _ H _ I h=>W3 I hg hm ⟨v,H,I,r,h⟩ hd
theorem qg {x:Str} {v:V} {u:Value} {pos:Pos} (hg:Gl X x) (hm:X.mg x=none) (hv:bootBuiltins x=some u) (r:Zj v u) (hn:x ≠ "__name__":=by decide) (hd:(x == ("__debug__":Str))=false:=by decide):PE X (.Name x pos) (tC v):=
 fun _ _ _ H _ I h=>jF I hg hm hv ⟨v,H,I,r,h⟩ hn hd
variable {a b:Expr} {ta tb:TE} {pos:Pos}
variable {tA tB' :TT} {rest:List Expr}
def xH (t u:TT):TT:=fun σ H Q=>t σ H fun c H1=>if c=true then u σ H1 Q else Q false H1
def tOr (t u:TT):TT:=fun σ H Q=>t σ H fun c H1=>if c=true then Q true H1 else u σ H1 Q
def xI (t:TT):TT:=fun σ H Q=>t σ H fun c H1=>Q (!c) H1
theorem qh (ha:PT X a tA):PW X (.BoolOp .And [a] pos) tA:=by
 intro wh pins s σ H Q I h
 refine isTrue_and (thn (ha pins s σ H Q I h) fun c s1 e=> ?_)
 cases c with
 | true=>exact isTrue_and_nil e
 | false=>exact e
theorem QJ (ha:PT X a tA):PW X (.BoolOp .Or [a] pos) tA:=by
 intro wh pins s σ H Q I h
 refine isTrue_or (thn (ha pins s σ H Q I h) fun c s1 e=> ?_)
 cases c with
 | false=>exact isTrue_or_nil e
 | true=>exact e
theorem QK (ha:PT X a tA) (hb:PW X (.BoolOp .And (b :: rest) pos) tB'):PW X (.BoolOp .And (a :: b :: rest) pos) (xH tA tB'):=by
 intro wh pins s σ H Q I h
 refine isTrue_and (thn (ha pins s σ H _ I h) fun c s1 ⟨H1,I1,q1⟩=> ?_)
 cases c with
 | true=>exact hb wh pins s1 σ H1 Q I1 q1
 | false=>exact ⟨H1,I1,q1⟩
theorem Vn (ha:PT X a tA) (hb:PW X (.BoolOp .Or (b :: rest) pos) tB'):PW X (.BoolOp .Or (a :: b :: rest) pos) (tOr tA tB'):=by
 intro wh pins s σ H Q I h
 refine isTrue_or (thn (ha pins s σ H _ I h) fun c s1 ⟨H1,I1,q1⟩=> ?_)
 cases c with
 | true=>exact ⟨H1,I1,q1⟩
 | false=>exact hb wh pins s1 σ H1 Q I1 q1
theorem QL (ha:PT X a tA):PT X (.UnaryOp .Not a pos) (xI tA):=by
 intro pins s σ H Q I h
 exact isTrue_not (ha pins s σ H (fun c H1=>Q (!c) H1) I h)
def Vo (ta tb:TE):TE:=fun σ H Q=>ta σ H fun x H1=>∃ c,x= .bl c/\if c=true then tb σ H1 Q else Q (.bl false) H1
def Vp (ta:TE):TE:=fun σ H Q=>ta σ H fun x H1=>∃ c,x= .bl c/\Q (.bl (!c)) H1
theorem QM {op} {t:TE} (h:PE X a t):PE X (.BoolOp op [a] pos) t:=fun pins s σ H Q I hw=>BoolOp_one (h pins s σ H Q I hw)
theorem QN (ha:PE X a ta) (hb:PE X (.BoolOp .And (b :: rest) pos) tb):PE X (.BoolOp .And (a :: b :: rest) pos) (Vo ta tb):=by
 intro pins s σ H Q I h
 refine BoolOp_and (thn (ha pins s σ H _ I h) fun v s1 ⟨x,H1,I1,r1,q1⟩=> ?_)
 obtain ⟨c,rfl,q1⟩:=q1
 cases r1
 refine wpAny_truthy_bool ?_
 cases c with
 | true=>exact hb pins s1 σ H1 Q I1 q1
 | false=>exact ⟨.bl false,H1,I1,rfl,q1⟩
theorem QO (ha:PE X a ta):PE X (.UnaryOp .Not a pos) (Vp ta):=by
 intro pins s σ H Q I h
 refine UnaryOp_ (thn (ha pins s σ H _ I h) fun v s1 ⟨x,H1,I1,r1,q1⟩=> ?_)
 obtain ⟨c,rfl,q1⟩:=q1
 cases r1
 exact not_of (wpAny_truthy_bool ⟨.bl (!c),H1,I1,rfl,q1⟩)
def tIf (t:TT) (ta tb:TE):TE:=fun σ H Q=>t σ H fun c H1=>if c=true then ta σ H1 Q else tb σ H1 Q
theorem yC {c:Expr} (hc:PT X c tA) (ha:PE X a ta) (hb:PE X b tb):PE X (.IfExp c a b pos) (tIf tA ta tb):=by
 intro pins s σ H Q I h
 refine wpAny_IfExp (thn (hc pins s σ H _ I h) fun d s1 ⟨H1,I1,q1⟩=> ?_)
 cases d with
 | true=>exact ha pins s1 σ H1 Q I1 q1
 | false=>exact hb pins s1 σ H1 Q I1 q1
end
end L2
namespace L2
open PySem PySem.Spec PyProof.Rows
def SqL (K:PySem.W.Frag) (H:Hp) (a:Addr) (xs:List V):Prop:=
 Rd H a (.lst xs)\/
  ∃ (o:Obj) (its:Array Value) (n:Nat),K.lookup a=some o/\o.cls= .type "list"/\o.dict=none/\o.data= .seq its n/\its.size<=sizeLine/\Z3 xs its.toList
def SqT (K:PySem.W.Frag) (H:Hp) (a:Addr) (xs:List V):Prop:=
 Rd H a (.tup xs)\/
  ∃ (o:Obj) (its:Array Value) (n:Nat),K.lookup a=some o/\o.cls= .type "tuple"/\o.data= .seq its n/\its.size<=sizeLine/\Z3 xs its.toList
def xJ:Value->Option V
 | .none=>some .non
 | .bool b=>some (.bl b)
 | .int i _=>some (.int i)
 | .str x _=>some (.str x)
 | .bytes b _=>some (.byt b)
 | .float b _=>some (.flt b)
 | .ref a=>some (.ref a)
 | .type n=>some (.ty n)
 | _=>none
theorem Zj.abs {x:V} {u:Value} (r:Zj x u):xJ u=some x:=by
 cases x with
 | non=>cases r; rfl
 | bl _=>cases r; rfl
 | int _=>obtain ⟨t,rfl⟩:=r; rfl
 | str _=>obtain ⟨t,rfl⟩:=r; rfl
 | byt _=>obtain ⟨t,rfl⟩:=r; rfl
 | flt _=>obtain ⟨t,rfl⟩:=r; rfl
 | ref _=>cases r; rfl
 | ty _=>cases r; rfl
theorem Zj.inj {x y:V} {u:Value} (r:Zj x u) (q:Zj y u):x=y:=Option.some.inj (r.abs.symm.trans q.abs)
theorem Z3.inj:∀ {xs ys:List V} {us:List Value},Z3 xs us->Z3 ys us->xs=ys
 | _,_,_, .nil, .nil=>rfl
 | _,_,_, .cons r t, .cons r' t' =>by rw [r.inj r',Z3.inj t t']
section
variable {X:Cx} {pins:List (Addr×Obj)} {σ:St} {H:Hp} {s:Shared} {a:Addr} {xs ys:List V}
theorem SqL.of {K:PySem.W.Frag} (h:H a=some (.lst xs)):SqL K H a xs:= .inl (.inl h)
theorem SqT.of {K:PySem.W.Frag} (h:H a=some (.tup xs)):SqT K H a xs:= .inl (.inl h)
theorem Inv.list (I:Inv X pins σ H s) (h:SqL X.K H a xs):∃ its:List Value,Z3 xs its/\PlainL s.heap a its.toArray/\xs.length<=sizeLine:=by
 rcases h with h | ⟨o,its,n,hk,hc,hd,hs,hz,r⟩
 ·obtain ⟨z,its,n,r,e⟩:=h.ok I.hok
  exact ⟨its,r,⟨_,n,e,rfl,rfl,rfl⟩,z⟩
 ·refine ⟨its.toList,r,⟨o,n,I.kIn a o hk,hc,hd,by simpa using hs⟩, ?_⟩
  have e:=r.length
  simp only [Array.length_toList] at e
  omega
theorem Inv.tuple (I:Inv X pins σ H s) (h:SqT X.K H a xs):∃ its:List Value,Z3 xs its/\IsTup s.heap a its.toArray/\xs.length<=sizeLine:=by
 rcases h with h | ⟨o,its,n,hk,hc,hs,hz,r⟩
 ·obtain ⟨z,its,r,p⟩:=h.ok I.hok
  exact ⟨its,r,p,z⟩
 ·refine ⟨its.toList,r,⟨o,I.kIn a o hk,hc,n,by simpa using hs⟩, ?_⟩
  have e:=r.length
  simp only [Array.length_toList] at e
  omega
theorem Inv.list_inj (I:Inv X pins σ H s) (h:SqL X.K H a xs) (h' :SqL X.K H a ys):xs=ys:=by
 obtain ⟨its,r,⟨o,n,e,_,_,d⟩,_⟩:=I.list h
 obtain ⟨its',r',⟨o',n',e',_,_,d'⟩,_⟩:=I.list h'
 rw [e] at e'; cases e'
 rw [d] at d'
 injection d' with d1 _
 have:its=its' :=by simpa using congrArg Array.toList d1
 subst this
 exact r.inj r'
theorem Inv.tuple_inj (I:Inv X pins σ H s) (h:SqT X.K H a xs) (h' :SqT X.K H a ys):xs=ys:=by
 obtain ⟨its,r,⟨o,e,_,n,d⟩,_⟩:=I.tuple h
 obtain ⟨its',r',⟨o',e',_,n',d'⟩,_⟩:=I.tuple h'
 rw [e] at e'; cases e'
 rw [d] at d'
 injection d' with d1 _
 have:its=its' :=by simpa using congrArg Array.toList d1
 subst this
 exact r.inj r'
end
abbrev Cx.wish (X:Cx) (E:Value->Shared->Prop):Cx:={ X with xe:=E }
abbrev Cx.nox (X:Cx):Cx:=X.wish fun _ _=>False
theorem Cx.Ok.wish {X:Cx} (ok:X.Ok) (E:Value->Shared->Prop):(X.wish E).Ok:=
 ⟨ok.mod,ok.kind,ok.glob,ok.blt,ok.above,ok.inj,ok.has,ok.cab,ok.hd,ok.frames,ok.stk,ok.exf,ok.bs,ok.bsz,ok.noex,ok.exfs,ok.funs,ok.frf⟩
theorem Cx.Ok.unwish {X:Cx} {E:Value->Shared->Prop} (ok:(X.wish E).Ok):X.Ok:=
 ⟨ok.mod,ok.kind,ok.glob,ok.blt,ok.above,ok.inj,ok.has,ok.cab,ok.hd,ok.frames,ok.stk,ok.exf,ok.bs,ok.bsz,ok.noex,ok.exfs,ok.funs,ok.frf⟩
section
variable {X:Cx} {pins:List (Addr×Obj)} {σ:St} {H:Hp} {s:Shared} {E:Value->Shared->Prop}
theorem Inv.wish (I:Inv X pins σ H s) (E:Value->Shared->Prop):Inv (X.wish E) pins σ H s:=⟨I.ok.wish E,I.os,I.bare,I.base,I.loc,I.cell,I.free,I.freeC,I.pin,I.hok,I.len⟩
theorem Inv.unwish (I:Inv (X.wish E) pins σ H s):Inv X pins σ H s:=⟨I.ok.unwish,I.os,I.bare,I.base,I.loc,I.cell,I.free,I.freeC,I.pin,I.hok,I.len⟩
theorem SP.unwish {D:Yt} {f:Flow} {s' :Shared} (h:SP (X.wish E) pins D f s'):SP X pins D f s' :=by
 cases f with
 | next=>obtain ⟨σ',H',I,q⟩:=h; exact ⟨σ',H',I.unwish,q⟩
 | brk=>obtain ⟨σ',H',I,q⟩:=h; exact ⟨σ',H',I.unwish,q⟩
 | cont=>obtain ⟨σ',H',I,q⟩:=h; exact ⟨σ',H',I.unwish,q⟩
 | ret u=>obtain ⟨v,σ',H',I,r,q⟩:=h; exact ⟨v,σ',H',I.unwish,r,q⟩
theorem PSs.nox {st:List Stmt} {t:TS} (h:PSs X.nox st t):PSs X st t:=fun pins s σ H D I hw=>
 wpAny_mono (h pins s σ H D (I.wish _) hw) (fun _ _ q=>q.unwish) fun _ _ z=>False.elim z
end
section
variable {X:Cx} {st:Stmt} {rest:List Stmt} {t u:TS} {e:Expr} {te:TE} {pos:Pos}
def Vq:TS:=fun D σ H=>D.nx σ H
def xK (t u:TS):TS:=fun D σ H=>t { D with nx:=u D } σ H
theorem qi:PSs X [] Vq:=fun _ _ σ H _ I h=>wpAny_execs_nil ⟨σ,H,I,h⟩
theorem yD (h1:PS X st t) (h2:PSs X rest u):PSs X (st :: rest) (xK t u):=by
 intro pins s σ H D I h
 refine wpAny_execs_cons (thn (h1 pins s σ H { D with nx:=u D } I h) fun f s1 q=> ?_)
 cases f with
 | next=>
  obtain ⟨σ',H',I',q⟩:=q
  exact h2 pins s1 σ' H' D I' q
 | ret v=>exact q
 | brk=>exact q
 | cont=>exact q
theorem qj (h1:PS X st t):PSs X [st] t:=by
 intro pins s σ H D I h
 refine wpAny_execs_cons (thn (h1 pins s σ H D I h) fun f s1 q=> ?_)
 cases f with
 | next=>exact wpAny_execs_nil q
 | ret v=>exact q
 | brk=>exact q
 | cont=>exact q
theorem Inv.quiet {pins:List (Addr×Obj)} {σ:St} {H:Hp} {s:Shared} (I:Inv X pins σ H s):interactive X.env=false:=by simp [interactive,I.ok.kind]
def Vr (te:TE):TS:=fun D σ H=>te σ H fun _ H1=>D.nx σ H1
theorem W4 (he:PE X e te) (hs:swapsWith e none pos.line X.env=pure false:=by rfl):PS X (.Expr e pos) (Vr te):=by
 intro pins s σ H D I h
 exact wpAny_Expr_any (thn (he pins s σ H _ I h) fun v s1 ⟨x,H1,I1,r1,q1⟩=>⟨σ,H1,I1,q1⟩) I.quiet hs
def xL (te:TE):TS:=fun D σ H=>te σ H D.rt
theorem QP (he:PE X e te):PS X (.Return (some e) pos) (xL te):=by
 intro pins s σ H D I h
 exact wpAny_Return_some (thn (he pins s σ H _ I h) fun v s1 ⟨x,H1,I1,r1,q1⟩=>⟨x,σ,H1,I1,r1,q1⟩)
def xM (c:TT) (t u:TS):TS:=fun D σ H=>c σ H fun b H1=>if b=true then t D σ H1 else u D σ H1
theorem Vs {c:Expr} {a b:List Stmt} {tc:TT} (hc:PT X c tc) (ha:PSs X a t) (hb:PSs X b u):PS X (.If c a b pos) (xM tc t u):=by
 intro pins s σ H D I h
 refine wpAny_If (thn (hc pins s σ H _ I h) fun d s1 ⟨H1,I1,q1⟩=> ?_)
 cases d with
 | true=>exact ha pins s1 σ H1 D I1 q1
 | false=>exact hb pins s1 σ H1 D I1 q1
end
abbrev TG:=V->St->Hp->(St->Hp->Prop)->Prop
abbrev TGs:=List V->St->Hp->(St->Hp->Prop)->Prop
def PG (X:Cx) (target:Expr) (t:TG):Prop:=
 ∀ (pins:List (Addr×Obj)) (s:Shared) (σ:St) (H:Hp) (v:V) (u:Value) (Q:St->Hp->Prop),Inv X pins σ H s->Zj v u->t v σ H Q->
  wpAny (model X.prog X.w) X.A (assign target X.env u) (fun _ s' =>∃ σ' H',Inv X pins σ' H' s' /\Q σ' H') X.xe s
def PGs (X:Cx) (ts:List Expr) (t:TGs):Prop:=
 ∀ (pins:List (Addr×Obj)) (s:Shared) (σ:St) (H:Hp) (vs:List V) (us:List Value) (Q:St->Hp->Prop),Inv X pins σ H s->Z3 vs us->t vs σ H Q->
  wpAny (model X.prog X.w) X.A (assignInOrder ((assignEach ts X.env).map (·.2)) us) (fun _ s' =>∃ σ' H',Inv X pins σ' H' s' /\Q σ' H') X.xe s
section
variable {X:Cx} {pos:Pos}
def wd (i:Nat):TG:=fun v σ H Q=>Q (σ.set i (some v)) H
theorem zm {i:Nat} {x:Str} (hN:X.N.Nodup) (hi:X.N[i]? =some x) (hx:Loc X.env.scope x) (hf:X.fn x=true\/X.env.scope.names.lookup x=some .local:=by first | exact .inl rfl | exact .inr rfl | assumption):PG X (.Name x pos) (wd i):=by
 intro pins s σ H v u Q I r h
 exact wpAny_assign_Name (Ww I hN hi hx r (fun s' I' =>⟨_,H,I',h⟩) hf)
def Vt:TGs:=fun vs σ H Q=>vs=[]/\Q σ H
def uD (t:TG) (u:TGs):TGs:=fun vs σ H Q=>∃ v r,vs=v :: r/\t v σ H fun σ' H' =>u r σ' H' Q
theorem j8:PGs X [] Vt:=by
 intro pins s σ H vs us Q I r h
 obtain ⟨e,h⟩:=h
 subst e
 cases r
 exact assignInOrder_nil ⟨σ,H,I,h⟩
theorem zS {e:Expr} {es:List Expr} {t:TG} {u:TGs} (h1:PG X e t) (h2:PGs X es u)
  (hs:(assignEach (e :: es) X.env).map (·.2)=assign e X.env :: (assignEach es X.env).map (·.2):=by rfl):PGs X (e :: es) (uD t u):=by
 intro pins s σ H vs us Q I r h
 obtain ⟨v,vr,e1,h⟩:=h
 subst e1
 cases r with
 | cons r rr=>
  rw [hs]
  refine assignInOrder_cons (thn (h1 pins s σ H _ _ _ I r h) fun _ s1 ⟨σ1,H1,I1,q1⟩=> ?_)
  exact h2 pins s1 σ1 H1 _ _ Q I1 rr q1
def Vu (K:PySem.W.Frag) (n:Nat) (t:TGs):TG:=fun v σ H Q=>∃ a xs,v= .ref a/\SqT K H a xs/\xs.length=n/\t xs σ H Q
theorem jG {es:List Expr} {k:Nat} {t:TGs} {n:Nat} (hc:X.calm=true) (h:PGs X es t)
  (hn:(assignEach es X.env).length=n:=by rfl) (hst:(assignEach es X.env).findIdx? (·.1)=none:=by rfl):PG X (.Tuple es k pos) (Vu X.K n t):=by
 intro pins s σ H v u Q I r hw
 obtain ⟨a,xs,e1,hq,hl,hw⟩:=hw
 subst e1
 cases r
 obtain ⟨its,rv,ht,hz⟩:=I.tuple hq
 refine assign_Tuple_tuple (I.ok.hd hc) ht (by simp [hn,← hl,rv.length]) hst fun h' hx=> ?_
 have I1:Inv X pins σ H { s with heap:=h' }:=I.kept (t' :=s.toks) fun b o e=>hx b o (Nat.ne_of_lt (Heap.lt_size e)) e
 exact h pins _ σ H xs _ Q I1 (by simpa using rv) hw
def xg (te:TE) (g:TG):TS:=fun D σ H=>te σ H fun x H1=>g x σ H1 D.nx
theorem QQ {tg e:Expr} {te:TE} {g:TG} (he:PE X e te) (hg:PG X tg g) (hs:swapsWithSole [tg] e pos.line X.env=pure false:=by rfl) (hw:swappedStores [tg] e X.env=pure none:=by rfl)
  (h1:(assignEach [tg] X.env).map (·.2)=[assign tg X.env]:=by rfl):PS X (.Assign [tg] e pos) (xg te g):=by
 intro pins s σ H D I h
 refine wpAny_Assign_stores (thn (he pins s σ H _ I h) fun v s1 ⟨x,H1,I1,r1,q1⟩=> ?_) hs hw
 rw [h1]
 exact thn (hg pins s1 σ H1 x v _ I1 r1 q1) fun _ s2 q=>q
theorem uE {i:Nat} {x:Str} {e:Expr} {te:TE} {pos' :Pos} (hN:X.N.Nodup) (hi:X.N[i]? =some x) (hx:Loc X.env.scope x) (he:PE X e te) (hs:swapsWith e (some (.Name x pos')) pos.line X.env=pure false:=by rfl) (hf:X.fn x=true\/X.env.scope.names.lookup x=some .local:=by first | exact .inl rfl | exact .inr rfl | assumption):
  PS X (.Assign [.Name x pos'] e pos) (xg te (wd i)):=by
 intro pins s σ H D I h
 refine wpAny_Assign_Name (thn (he pins s σ H _ I h) fun v s1 ⟨y,H1,I1,r1,q1⟩=> ?_) hs
 exact Ww I1 hN hi hx r1 (fun s2 I2=>⟨_,H1,I2,q1⟩) hf
end
section
variable {X:Cx} {pos:Pos}
end
structure It where
 go:Nat->Hp->Prop
 yld:Nat->Hp->V->Hp->Prop
 stop:Nat->Hp->Prop
def Wx (X:Cx) (pins:List (Addr×Obj)) (H:Hp) (b:Addr):Prop:=
 H b=none/\b ≠ X.env.locals/\b ∉ X.fs/\(b∈X.ex\/X.s₀.heap.objs.size<=b)/\(∀ x c,X.env.cells.lookup x=some c->c ≠ b)/\∀ p∈X.pn++pins,p.1 ≠ b
theorem Inv.fpOk {X:Cx} {pins:List (Addr×Obj)} {σ:St} {H H' :Hp} {s:Shared} {b:Addr} (I:Inv X pins σ H s) (hb:s.heap.objs.size<=b) (hn:H' b=none):Wx X pins H' b:=by
 refine ⟨hn,Nat.ne_of_gt (Nat.lt_of_lt_of_le I.lt hb),I.nofs hb, .inr (Nat.le_trans I.sz hb),fun x c e z=> ?_,fun p hp z=> ?_⟩
 ·obtain ⟨v,q⟩:=I.cell x c e
  exact absurd (Nat.lt_of_lt_of_le q.lt (by rw [z]; exact hb)) (Nat.lt_irrefl _)
 ·exact absurd (Nat.lt_of_lt_of_le (Heap.lt_size (I.pin p hp).1) (by rw [z]; exact hb)) (Nat.lt_irrefl _)
structure Yv (P:Program) (w:World) (K:PySem.W.Frag) (tg:Expr) (J:It) (fp:List Addr) (it:Addr) (tn:Nat->Heap->Prop):Prop where
 mem:it∈fp
 obj:∀ i h,tn i h->∀ b∈fp,∃ o,h.get? b=some o/\∀ v,o.data ≠ .cell v
 keep:∀ i h h',tn i h->(∀ b∈fp,∀ o,h.get? b=some o->h'.get? b=some o)->tn i h'
 item:∀ (X:Cx),X.prog=P->X.w=w->X.K=K->X.calm=true->∀ (i:Nat) (pins:List (Addr×Obj)) (s:Shared) (σ:St) (H:Hp) (E:Value->Shared->Prop),Inv X pins σ H s->(∀ b∈fp,Wx X pins H b)->tn i s.heap->J.go i H->
  wpAny (model P w) X.A (pyNext (.ref it)) (fun r s1=>∃ u,r=some u/\
   wpAny (model P w) X.A (letOwnedTupleGo tg (.ref it) u) (fun _ s2=>∃ x H',Inv X pins σ H' s2/\Zj x u/\J.yld i H x H' /\tn (i+1) s2.heap/\∀ b∈fp,H' b=none) E s1) E s
 done:∀ (X:Cx),X.prog=P->X.w=w->X.K=K->X.calm=true->∀ (i:Nat) (pins:List (Addr×Obj)) (s:Shared) (σ:St) (H:Hp) (E:Value->Shared->Prop),Inv X pins σ H s->(∀ b∈fp,Wx X pins H b)->tn i s.heap->J.stop i H->
  wpAny (model P w) X.A (pyNext (.ref it)) (fun r s1=>r=none/\Inv X pins σ H s1) E s
 self:∀ (A:Around) (i:Nat) (s:Shared) (Q:Value->Shared->Prop) (E:Value->Shared->Prop),tn i s.heap->Q (.ref it) s->wpAny (model P w) A (pyIter (.ref it)) Q E s
abbrev TI:=St->Hp->(It->Hp->Prop)->Prop
def PIE (X:Cx) (pins:List (Addr×Obj)) (σ:St) (tg:Expr) (R:It->Hp->Prop) (itv:Value) (s2:Shared):Prop:=
 ∃ (it:Addr) (fp:List Addr) (tn:Nat->Heap->Prop) (J:It) (H' :Hp),itv= .ref it/\Inv X pins σ H' s2/\Yv X.prog X.w X.K tg J fp it tn/\tn 0 s2.heap/\(∀ b∈fp,Wx X pins H' b)/\R J H'
def PI (X:Cx) (tg iter:Expr) (wi:TI):Prop:=
 ∀ (pins:List (Addr×Obj)) (s:Shared) (σ:St) (H:Hp) (R:It->Hp->Prop),Inv X pins σ H s->wi σ H R->
  wpAny (model X.prog X.w) X.A (eval iter X.env) (fun v s1=>wpAny (model X.prog X.w) X.A (pyIter v) (PIE X pins σ tg R) X.xe s1) X.xe s
theorem yE {M:Model} {A:Around} {E:Value->Shared->Prop} {s:Shared} {tg:Expr} {it:Addr} {u:Value} {o:Obj} {n:String} {vs:Array Value} {Q:Unit->Shared->Prop} (ho:s.heap.get? it=some o) (hc:o.cls= .type n) (hd:o.data= .fields vs)
  (hn:["enumerate","zip","dict_itemiterator","dict_reverseitemiterator","odict_iterator","itertools.zip_longest","itertools.pairwise"].contains n=false) (hQ:Q () s):wpAny M A (letOwnedTupleGo tg (.ref it) u) Q E s:=by
 unfold letOwnedTupleGo
 cases tg <;> first
  | exact wpAny_pure hQ
  | (cases u <;> first
    | exact wpAny_pure hQ
    | (refine wpAny_bind (wpAny_load ho ?_); rw [hc,hd]; show wpAny M A (if (["enumerate","zip","dict_itemiterator","dict_reverseitemiterator","odict_iterator","itertools.zip_longest","itertools.pairwise"].contains n && vs[0]? == some (rawInt _))=true then _ else _) Q E s; rw [if_neg (by intro h; rw [hn,Bool.false_and] at h; cases h)]; exact wpAny_pure hQ))
def Itl (K:PySem.W.Frag) (a:Addr):It:=
 ⟨fun i H=>∃ xs x,SqL K H a xs/\xs[i]? =some x,fun i H x H' =>H' =H/\∀ xs,SqL K H a xs->xs[i]? =some x,fun i H=>∃ xs,SqL K H a xs/\xs.length<=i⟩
def Itt (K:PySem.W.Frag) (a:Addr):It:=
 ⟨fun i H=>∃ xs x,SqT K H a xs/\xs[i]? =some x,fun i H x H' =>H' =H/\∀ xs,SqT K H a xs->xs[i]? =some x,fun i H=>∃ xs,SqT K H a xs/\xs.length<=i⟩
def Itr (lo:Int) (n:Nat):It:=⟨fun i _=>i < n,fun i H x H' =>H' =H/\x= .int (lo+i),fun i _=>n<=i⟩
theorem uF {P:Program} {w:World} {K:PySem.W.Frag} {tg:Expr} (a it:Addr):Yv P w K tg (Itl K a) [it] it (fun i h=>h.IsListIter it a i) where
 mem:=by simp
 obj:=fun i h st b hb=>by
  have e:b=it:=by simpa using hb
  subst e
  obtain ⟨o,e,c,d⟩:=st
  exact ⟨o,e,fun v z=>by rw [d] at z; cases z⟩
 keep:=fun i h h' st k=>st.at fun o e=>k it (by simp) o e
 item:=by
  intro X hP hw hK hc i pins s σ H E I hf st hg
  subst hP hw hK
  obtain ⟨xs,x,hq,hx⟩:=hg
  obtain ⟨its,rv,p,hz⟩:=I.list hq
  obtain ⟨u,hu,ru⟩:=rv.get hx
  obtain ⟨f0,f1,f2,f3,f4,f5⟩:=hf it (by simp)
  refine wpAny_pyNext_list_item st p.isList (x:=u) (by simpa using hu) fun h' st' sb=> ?_
  have I1:Inv X pins σ H { s with heap:=h' }:=I.turned (t' :=s.toks) (fun b o hb e=>(sb.2 b hb).trans e) f0 f1 f3 f4 f5
  obtain ⟨o,e,c,d⟩:=id st'
  exact ⟨u,rfl,yE (s:={ s with heap:=h' }) e c d (by decide) ⟨x,H,I1,ru,⟨rfl,fun ys hy=>by rw [I.list_inj hy hq]; exact hx⟩,st',fun b hb=>(hf b hb).1⟩⟩
 done:=by
  intro X hP hw hK hc i pins s σ H E I hf st hg
  subst hP hw hK
  obtain ⟨xs,hq,hx⟩:=hg
  obtain ⟨its,rv,p,hz⟩:=I.list hq
  obtain ⟨f0,f1,f2,f3,f4,f5⟩:=hf it (by simp)
  have hl:=rv.length
  exact wpAny_pyNext_list_end (I.ok.hd hc) st p.isList (by simp; omega) fun h' eb=>⟨rfl,I.turned (t' :=s.toks) (fun b o hb e=>eb b o hb e) f0 f1 f3 f4 f5⟩
 self:=fun _ _ _ _ _ st h=>wpAny_pyIter_listiter st h
theorem u4 {P:Program} {w:World} {K:PySem.W.Frag} {tg:Expr} (a it:Addr):Yv P w K tg (Itt K a) [it] it (fun i h=>h.IsTupleIter it a i) where
 mem:=by simp
 obj:=fun i h st b hb=>by
  have e:b=it:=by simpa using hb
  subst e
  obtain ⟨o,e,c,d⟩:=st
  exact ⟨o,e,fun v z=>by rw [d] at z; cases z⟩
 keep:=fun i h h' st k=>st.at fun o e=>k it (by simp) o e
 item:=by
  intro X hP hw hK hc i pins s σ H E I hf st hg
  subst hP hw hK
  obtain ⟨xs,x,hq,hx⟩:=hg
  obtain ⟨its,rv,p,hz⟩:=I.tuple hq
  obtain ⟨u,hu,ru⟩:=rv.get hx
  obtain ⟨f0,f1,f2,f3,f4,f5⟩:=hf it (by simp)
  refine wpAny_pyNext_tuple_item st (show s.heap.IsTuple a its.toArray from p) (x:=u) (by simpa using hu) fun h' st' sb=> ?_
  have I1:Inv X pins σ H { s with heap:=h' }:=I.turned (t' :=s.toks) (fun b o hb e=>(sb.2 b hb).trans e) f0 f1 f3 f4 f5
  obtain ⟨o,e,c,d⟩:=id st'
  exact ⟨u,rfl,yE (s:={ s with heap:=h' }) e c d (by decide) ⟨x,H,I1,ru,⟨rfl,fun ys hy=>by rw [I.tuple_inj hy hq]; exact hx⟩,st',fun b hb=>(hf b hb).1⟩⟩
 done:=by
  intro X hP hw hK hc i pins s σ H E I hf st hg
  subst hP hw hK
  obtain ⟨xs,hq,hx⟩:=hg
  obtain ⟨its,rv,p,hz⟩:=I.tuple hq
  obtain ⟨f0,f1,f2,f3,f4,f5⟩:=hf it (by simp)
  have hl:=rv.length
  exact wpAny_pyNext_tuple_end (I.ok.hd hc) st (show s.heap.IsTuple a its.toArray from p) (by simp; omega) fun h' eb=>⟨rfl,I.turned (t' :=s.toks) (fun b o hb e=>eb b o hb e) f0 f1 f3 f4 f5⟩
 self:=fun _ _ _ _ _ st h=>wpAny_pyIter_tupleiter st h
theorem u5 {P:Program} {w:World} {K:PySem.W.Frag} {tg:Expr} (it:Addr) (lo:Int) (n:Nat):Yv P w K tg (Itr lo n) [it] it (fun i h=>IsRangeIter h it (lo+(i:Nat)*1) ((n:Int) - (i:Nat)) 1) where
 mem:=by simp
 obj:=fun i h st b hb=>by
  have e:b=it:=by simpa using hb
  subst e
  exact ⟨_,st,fun v z=>by
   have z' :Data.fields _=Data.cell v:=z
   cases z'⟩
 keep:=fun i h h' st k=>k it (by simp) _ st
 item:=by
  intro X hP hw hK hc i pins s σ H E I hf st hg
  subst hP hw hK
  obtain ⟨f0,f1,f2,f3,f4,f5⟩:=hf it (by simp)
  have W:=Walks.range (prog:=X.prog) (w:=X.w) (I.ok.hd hc) it lo 1 n
  refine W.item i s _ _ hg st fun v h' tk hv st' kk=> ?_
  obtain ⟨t,rfl⟩:=hv
  have I1:Inv X pins σ H { s with heap:=h',toks:=tk }:=I.turned (fun b o hb e=>kk b o (by simpa using hb) e) f0 f1 f3 f4 f5
  refine ⟨_,rfl,yE (s:={ s with heap:=h',toks:=tk }) (n:="range_iterator") st' rfl rfl (by decide) ⟨.int (lo+i),H,I1,⟨t, ?_⟩,⟨rfl,rfl⟩,st',fun b hb=>(hf b hb).1⟩⟩
  rw [Int.mul_one]
 done:=by
  intro X hP hw hK hc i pins s σ H E I hf st hg
  subst hP hw hK
  obtain ⟨f0,f1,f2,f3,f4,f5⟩:=hf it (by simp)
  exact wpAny_pyNext_range_end (I.ok.hd hc) st (by have:n<=i:=hg; omega) fun h' eb=>⟨rfl,I.turned (t' :=s.toks) (fun b o hb e=>eb b o hb e) f0 f1 f3 f4 f5⟩
 self:=fun _ _ _ _ _ st h=>wpAny_pyIter_rangeiter st h
end L2
namespace L2
open PySem PySem.Spec PyProof.Rows
section
variable {X:Cx} {tg:Expr}
theorem Wy {pins:List (Addr×Obj)} {σ:St} {H:Hp} {s:Shared} {R:It->Hp->Prop} {E:Value->Shared->Prop} {lo hi:Int} {t u v:Tok} {tk:Nat} (I:Inv X pins σ H s) (h1: -(2 ^ 62)<=lo) (h2:lo < 2 ^ 62) (h3: -(2 ^ 62)<=hi) (h4:hi < 2 ^ 62)
  (q:R (Itr lo (hi - lo).toNat) H):wpAny (model X.prog X.w) X.A (pyIter (.ref s.heap.objs.size)) (PIE X pins σ tg R) E { s with heap:=s.heap.push { cls:= .type "range",data:= .fields #[.int lo t, .int hi u, .int 1 v] },toks:=tk }:=by
 refine wpAny_pyIter_range (IsRange.new ..) (small_one h1 h2 h3 h4) ?_
 have I1:Inv X pins σ H { s with heap:=s.heap.push { cls:= .type "range",data:= .fields #[.int lo t, .int hi u, .int 1 v] },toks:=tk }:=I.kept fun b o e=>Heap.get?_push_of_some _ e
 refine ⟨(s.heap.push { cls:= .type "range",data:= .fields #[.int lo t, .int hi u, .int 1 v] }).objs.size,[(s.heap.push { cls:= .type "range",data:= .fields #[.int lo t, .int hi u, .int 1 v] }).objs.size],_,_,H,rfl,
  I1.kept (t' :=tk) fun b o e=>Heap.get?_push_of_some _ e,u5 _ lo (hi - lo).toNat, ?_,fun b hb=> ?_,q⟩
 ·have e1:lo+((0:Nat):Int)*1=lo:=by simp
  have e2:(((hi - lo).toNat:Nat):Int) - ((0:Nat):Int)=Builtin.Range.rangeSize lo hi 1:=by rw [rangeSize_one]; split <;> omega
  show IsRangeIter _ _ (lo+((0:Nat):Int)*1) ((((hi - lo).toNat:Nat):Int) - ((0:Nat):Int)) 1
  rw [e1,e2]
  exact Heap.get?_push_size _ rfl
 ·have e:b=(s.heap.push { cls:= .type "range",data:= .fields #[.int lo t, .int hi u, .int 1 v] }).objs.size:=by simpa using hb
  subst e
  exact I1.fpOk (Nat.le_refl _) (I1.hok.fresh (Nat.le_refl _))
def Vv (ta:TA):TI:=fun σ H R=>ta σ H fun vs H1=>∃ j:Int,vs=[.int j]/\ -(2 ^ 62)<=j/\j < 2 ^ 62/\R (Itr 0 j.toNat) H1
def Vw (ta:TA):TI:=fun σ H R=>ta σ H fun vs H1=>∃ i j:Int,vs=[.int i, .int j]/\(-(2 ^ 62)<=i/\i < 2 ^ 62/\ -(2 ^ 62)<=j/\j < 2 ^ 62)/\R (Itr i (j - i).toNat) H1
theorem uG {a:Expr} {ta:TA} {p pos:Pos} (hg:Gl X "range") (hm:X.mg "range"=none) (ha:PA X [a] ta) (hs:starEach [a] X.env=[(false,eval a X.env)]:=by rfl):PI X tg (.Call (.Name "range" p) [a] [] pos) (Vv ta):=by
 intro pins s σ H R I h
 refine Call_ (jF I hg hm boot_range (PyProof.Rows.callWith_type1 (thn (ha pos pins s σ H _ I h) fun us s1 ⟨vs,H1,I1,r1,q1⟩=> ?_) hs rfl))
 obtain ⟨j,e,q1,q2,q⟩:=q1
 subst e
 cases r1 with
 | cons r rr=>
  cases rr
  obtain ⟨t,rfl⟩:=r
  exact call_range_1 (Wy I1 (by omega) (by omega) q1 q2 (by simpa using q))
theorem uH {a b:Expr} {ta:TA} {p pos:Pos} (hg:Gl X "range") (hm:X.mg "range"=none) (ha:PA X [a,b] ta) (hs:starEach [a,b] X.env=[(false,eval a X.env),(false,eval b X.env)]:=by rfl) (hs2:starEach [b] X.env=[(false,eval b X.env)]:=by rfl):
  PI X tg (.Call (.Name "range" p) [a,b] [] pos) (Vw ta):=by
 intro pins s σ H R I h
 refine Call_ (jF I hg hm boot_range (PyProof.Rows.callWith_type1 (thn (ha pos pins s σ H _ I h) fun us s1 ⟨vs,H1,I1,r1,q1⟩=> ?_) (by rw [hs,hs2]) (by rw [hs2]; rfl)))
 obtain ⟨i,j,e,⟨q1,q2,q3,q4⟩,q⟩:=q1
 subst e
 cases r1 with
 | cons r rr=>
  cases rr with
  | cons r' rr=>
   cases rr
   obtain ⟨t,rfl⟩:=r
   obtain ⟨t',rfl⟩:=r'
   exact call_range_2 (Wy I1 q1 q2 q3 q4 q)
def xN (wi:TI) (g:TG) (tb:TS):TS:=fun D σ H=>wi σ H fun J H1=>∃ W:Nat->Nat->St->Hp->Prop,(∃ m,W 0 m σ H1)/\∀ i m σ H,W i m σ H->
 (J.stop i H/\D.nx σ H)\/(J.go i H/\∃ N:St->Hp->Prop,(∀ σ' H',N σ' H' ->∃ m',m' < m/\W (i+1) m' σ' H')/\∀ x H',J.yld i H x H' ->g x σ H' fun σ2 H2=>tb { D with nx:=N,ct:=N,bk:=D.nx } σ2 H2)
def we (fp:List Addr) (h:Heap):List (Addr×Obj):=fp.filterMap fun b=>(h.get? b).map fun o=>(b,o)
theorem ZZ {fp:List Addr} {h:Heap} {b:Addr} {o:Obj} (hb:b∈fp) (e:h.get? b=some o):(b,o)∈we fp h:=List.mem_filterMap.mpr ⟨b,hb,by rw [e]; rfl⟩
theorem uI {fp:List Addr} {h:Heap} {p:Addr×Obj} (hp:p∈we fp h):p.1∈fp/\h.get? p.1=some p.2:=by
 obtain ⟨b,hb,e⟩:=List.mem_filterMap.mp hp
 cases q:h.get? b with
 | none=>rw [q] at e; cases e
 | some o=>
  rw [q] at e
  have e' :(b,o)=p:=Option.some.inj e
  subst e'
  exact ⟨hb,q⟩
theorem Inv.pinned {pins:List (Addr×Obj)} {σ:St} {H:Hp} {s:Shared} {fp:List Addr} (I:Inv X pins σ H s) (hf:∀ b∈fp,Wx X pins H b) (ho:∀ b∈fp,∃ o,s.heap.get? b=some o/\∀ v,o.data ≠ .cell v):Inv X (pins++we fp s.heap) σ H s:=
 I.pins_of fun p hp=>(List.mem_append.mp hp).elim (fun z=>I.pin p (List.mem_append_right _ z)) fun z=>by
  obtain ⟨hb,e⟩:=uI z
  obtain ⟨f0,f1,f2,_⟩:=hf p.1 hb
  obtain ⟨o,e',d⟩:=ho p.1 hb
  rw [e] at e'; cases e'
  exact ⟨e,f0,f1,f2,d⟩
theorem Inv.unpinned {pins pl:List (Addr×Obj)} {σ:St} {H:Hp} {s:Shared} (I:Inv X (pins++pl) σ H s):Inv X pins σ H s:=I.pins_of fun p hp=>I.pin p (List.mem_append_right _ (List.mem_append_left _ hp))
theorem QR {iter:Expr} {body:List Stmt} {wi:TI} {g:TG} {tb:TS} {pos:Pos} (hp:PassesOwn (model X.prog X.w) X.A X.env X.xe) (hc:X.calm=true) (hi:PI X tg iter wi) (hg:PG X tg g) (hb:PSs X body tb)
  (hs:∀ x,foldedSetIterable iter X.env x=pure x:=by intro _; rfl):PS X (.For tg iter body [] pos) (xN wi g tb):=by
 intro pins s σ H D I h
 refine wpAny_For (thn (hi pins s σ H _ I h) fun v s1 h1=>thn h1 fun itv s2 h2=> ?_) hs
 obtain ⟨it,fp,tn,J,H2,e,I2,T,st2,f2,W,⟨m0,w0⟩,turn⟩:=h2
 subst e
 have stat:∀ {H' :Hp},(∀ b∈fp,H' b=none)->∀ b∈fp,Wx X pins H' b:=fun hn b hb=>⟨hn b hb,(f2 b hb).2⟩
 refine codeAny_forLoop_any (fun n s' =>∃ i σ' H',Inv X pins σ' H' s' /\tn i s'.heap/\(∀ b∈fp,H' b=none)/\W i n σ' H') ?_ m0 ⟨0,σ,H2,I2,st2,fun b hb=>(f2 b hb).1,w0⟩
 rintro n s3 ⟨i,σ3,H3,I3,st3,fr3,w3⟩
 rcases turn i n σ3 H3 w3 with ⟨stop,qn⟩ | ⟨go,N,hN,step⟩
 ·refine wpAny_passesOwn hp (thn (T.done X rfl rfl rfl hc i pins s3 σ3 H3 X.xe I3 (stat fr3) st3 stop) fun r s4 ⟨hr,I4⟩=> ?_)
  subst hr
  exact wpAny_execs_nil ⟨σ3,H3,I4,qn⟩
 ·refine wpAny_passesOwn hp (thn (T.item X rfl rfl rfl hc i pins s3 σ3 H3 X.xe I3 (stat fr3) st3 go) fun r s4 ⟨u,hr,h4⟩=> ?_)
  subst hr
  refine wpAny_passesOwn hp (thn h4 fun _ s5 ⟨x,H5,I5,r5,y5,st5,fr5⟩=> ?_)
  have I5' :=I5.pinned (stat fr5) (T.obj _ _ st5)
  refine wpAny_passesOwn hp (thn (hg _ s5 σ3 H5 x u _ I5' r5 (step x H5 y5)) fun _ s6 ⟨σ6,H6,I6,q6⟩=> ?_)
  refine wpAny_passesOwn hp (thn (hb _ s6 σ6 H6 _ I6 q6) fun f s7 q7=> ?_)
  have again:∀ {σ7:St} {H7:Hp},Inv X (pins++we fp s5.heap) σ7 H7 s7->N σ7 H7->∃ m,m < n/\∃ i σ' H',Inv X pins σ' H' s7/\tn i s7.heap/\(∀ b∈fp,H' b=none)/\W i m σ' H' :=fun {σ7 H7} I7 n7=>by
   obtain ⟨m',hm,w7⟩:=hN σ7 H7 n7
   refine ⟨m',hm,i+1,σ7,H7,I7.unpinned,T.keep _ _ _ st5 fun b hb o e=>(I7.pin (b,o) (List.mem_append_right _ (List.mem_append_right _ (ZZ hb e)))).1,fun b hb=> ?_,w7⟩
   obtain ⟨o,e,d⟩:=T.obj _ _ st5 b hb
   exact (I7.pin (b,o) (List.mem_append_right _ (List.mem_append_right _ (ZZ hb e)))).2.1
  cases f with
  | next=>obtain ⟨σ7,H7,I7,n7⟩:=q7; exact again I7 n7
  | cont=>obtain ⟨σ7,H7,I7,n7⟩:=q7; exact again I7 n7
  | brk=>obtain ⟨σ7,H7,I7,q7⟩:=q7; exact ⟨σ7,H7,I7.unpinned,q7⟩
  | ret v=>obtain ⟨x7,σ7,H7,I7,r7,q7⟩:=q7; exact ⟨x7,σ7,H7,I7.unpinned,r7,q7⟩
end
end L2
namespace L2
open PySem PySem.Spec PyProof.Rows
abbrev R2:=V->V->Hp->VK->Prop
def OpR (X:Cx) (f:Value->Value->Sem Value) (r:R2):Prop:=
 ∀ (pins:List (Addr×Obj)) (s:Shared) (σ:St) (H:Hp) (x y:V) (v u:Value) (Q:VK),Inv X pins σ H s->Zj x v->Zj y u->r x y H Q->
  wpAny (model X.prog X.w) X.A (f v u) (EP X pins σ Q) X.xe s
def UnR (X:Cx) (f:Value->Sem Value) (r:V->Hp->VK->Prop):Prop:=
 ∀ (pins:List (Addr×Obj)) (s:Shared) (σ:St) (H:Hp) (x:V) (v:Value) (Q:VK),Inv X pins σ H s->Zj x v->r x H Q->
  wpAny (model X.prog X.w) X.A (f v) (EP X pins σ Q) X.xe s
def Zr (X:Cx) (f:Value) (r:List V->Hp->VK->Prop):Prop:=
 ∀ (pins:List (Addr×Obj)) (s:Shared) (σ:St) (H:Hp) (xs:List V) (us:List Value) (Q:VK),Inv X pins σ H s->Z3 xs us->r xs H Q->
  wpAny (model X.prog X.w) X.A (call f us) (EP X pins σ Q) X.xe s
def xO (X:Cx) (r:V->Hp->(Bool->Hp->Prop)->Prop):Prop:=
 ∀ (pins:List (Addr×Obj)) (s:Shared) (σ:St) (H:Hp) (x:V) (v:Value) (Q:Bool->Hp->Prop),Inv X pins σ H s->Zj x v->r x H Q->
  wpAny (model X.prog X.w) X.A (truthy v) (TP X pins σ Q) X.xe s
def tOp (r:R2) (ta tb:TE):TE:=fun σ H Q=>ta σ H fun x H1=>tb σ H1 fun y H2=>r x y H2 Q
def tUn (r:V->Hp->VK->Prop) (ta:TE):TE:=fun σ H Q=>ta σ H fun x H1=>r x H1 Q
def rI (C:Int->Int->Prop) (g:Int->Int->V):R2:=fun x y H Q=>∃ i j,x= .int i/\y= .int j/\C i j/\Q (g i j) H
def rI0 (g:Int->Int->V):R2:=fun x y H Q=>∃ i j,x= .int i/\y= .int j/\Q (g i j) H
def rU (g:Int->V):V->Hp->VK->Prop:=fun x H Q=>∃ i,x= .int i/\Q (g i) H
section
variable {X:Cx} {a b c:Expr} {ta tb tc:TE} {pos:Pos}
theorem Vx (ha:PE X a ta) (hb:PE X b tb) {pins:List (Addr×Obj)} {s:Shared} {σ:St} {H:Hp} {R:V->V->Hp->Prop} (I:Inv X pins σ H s)
  (h:ta σ H fun x H1=>tb σ H1 fun y H2=>R x y H2) {Q:Value->Shared->Prop} {f:Value->Value->Sem Value}
  (hf:∀ v u s2 x y H2,Inv X pins σ H2 s2->Zj x v->Zj y u->R x y H2->wpAny (model X.prog X.w) X.A (f v u) Q X.xe s2):
  wpAny (model X.prog X.w) X.A (eval a X.env) (fun v s₁=>wpAny (model X.prog X.w) X.A (eval b X.env) (fun u s₂=>wpAny (model X.prog X.w) X.A (f v u) Q X.xe s₂) X.xe s₁) X.xe s:=by
 refine thn (ha pins s σ H _ I h) fun v s1 ⟨x,H1,I1,r1,q1⟩=> ?_
 refine thn (hb pins s1 σ H1 _ I1 q1) fun u s2 ⟨y,H2,I2,r2,q2⟩=> ?_
 exact hf v u s2 x y H2 I2 r1 r2 q2
theorem Vy {op:Operator} {r:R2} (ho:OpR X (binaryOp op) r) (ha:PE X a ta) (hb:PE X b tb):PE X (.BinOp a op b pos) (tOp r ta tb):=by
 intro pins s σ H Q I h
 exact wpAny_BinOp (Vx ha hb I h fun v u s2 x y H2 I2 rx ry q=>ho pins s2 σ H2 x y v u Q I2 rx ry q)
theorem Vz {op:UnaryOp} {r:V->Hp->VK->Prop} (ho:UnR X (unaryOp op) r) (ha:PE X a ta):PE X (.UnaryOp op a pos) (tUn r ta):=by
 intro pins s σ H Q I h
 exact UnaryOp_ (thn (ha pins s σ H _ I h) fun v s1 ⟨x,H1,I1,r1,q1⟩=>ho pins s1 σ H1 x v Q I1 r1 q1)
theorem opI {f:Value->Value->Sem Value} {C:Int->Int->Prop} {g:Int->Int->Int}
  (rule:∀ (i j:Int) (t u:Tok) (s:Shared) (Q:Value->Shared->Prop) (E:Value->Shared->Prop),C i j->Q (.int (g i j) s.toks) { s with toks:=s.toks+1 }->wpAny (model X.prog X.w) X.A (f (.int i t) (.int j u)) Q E s):
  OpR X f (rI C fun i j=> .int (g i j)):=by
 intro pins s σ H x y v u Q I rx ry h
 obtain ⟨i,j,rfl,rfl,hc,q⟩:=h
 obtain ⟨t,rfl⟩:=rx
 obtain ⟨t',rfl⟩:=ry
 exact rule i j t t' s _ _ hc ⟨.int (g i j),H,I.tok _,⟨_,rfl⟩,q⟩
theorem xi {f:Value->Value->Sem Value} {g:Int->Int->Int}
  (rule:∀ (i j:Int) (t u:Tok) (s:Shared) (Q:Value->Shared->Prop) (E:Value->Shared->Prop),Q (.int (g i j) s.toks) { s with toks:=s.toks+1 }->wpAny (model X.prog X.w) X.A (f (.int i t) (.int j u)) Q E s):
  OpR X f (rI0 fun i j=> .int (g i j)):=by
 intro pins s σ H x y v u Q I rx ry h
 obtain ⟨i,j,rfl,rfl,q⟩:=h
 obtain ⟨t,rfl⟩:=rx
 obtain ⟨t',rfl⟩:=ry
 exact rule i j t t' s _ _ ⟨.int (g i j),H,I.tok _,⟨_,rfl⟩,q⟩
theorem VA {f:Value->Value->Sem Value} {g:Int->Int->Bool}
  (rule:∀ (i j:Int) (t u:Tok) (s:Shared) (Q:Value->Shared->Prop) (E:Value->Shared->Prop),Q (.bool (g i j)) s->wpAny (model X.prog X.w) X.A (f (.int i t) (.int j u)) Q E s):
  OpR X f (rI0 fun i j=> .bl (g i j)):=by
 intro pins s σ H x y v u Q I rx ry h
 obtain ⟨i,j,rfl,rfl,q⟩:=h
 obtain ⟨t,rfl⟩:=rx
 obtain ⟨t',rfl⟩:=ry
 exact rule i j t t' s _ _ ⟨.bl (g i j),H,I,rfl,q⟩
def xP (i j:Int):Prop:=0 < j/\j < 1073741824
def wa (i j:Int):Prop:=(-(2 ^ 64) < i/\i < 2 ^ 64)\/(-(2 ^ 64) < j/\j < 2 ^ 64)
theorem wa.ok {i j:Int} (h:wa i j):IntMulOk i j:=by
 rcases h with ⟨h1,h2⟩ | ⟨h1,h2⟩
 ·exact .of_left (intBits_le_64 h1 h2)
 ·exact .of_right (intBits_le_64 h1 h2)
theorem QS:OpR X (binaryOp .Add) (rI0 fun i j=> .int (i+j)):=xi fun _ _ _ _ _ _ _ q=>add_int q
theorem QT:OpR X (binaryOp .Sub) (rI0 fun i j=> .int (i - j)):=xi fun _ _ _ _ _ _ _ q=>sub_int q
theorem QU:OpR X (binaryOp .Mult) (rI wa fun i j=> .int (i*j)):=opI fun _ _ _ _ _ _ _ hc q=>mul_int q hc.ok
theorem qk:OpR X (binaryOp .FloorDiv) (rI xP fun i j=> .int (i / j)):=opI fun i j _ _ _ _ _ hc q=>by
 have h1:(0:Int) < j:=hc.1
 have h2:j < 1073741824:=hc.2
 exact floordiv_int (by omega) (by rw [Int.fdiv_eq_ediv_of_nonneg i (by omega)]; exact q) (.inl (PyProof.noPylong_small (by omega)))
theorem QV:OpR X (binaryOp .Mod) (rI (fun _ j=>0 < j) fun i j=> .int (i % j)):=opI fun i j _ _ _ _ _ hc q=>by
 have h1:(0:Int) < j:=hc
 exact mod_int' (by omega) (by rw [Int.fmod_eq_emod_of_nonneg i (by omega)]; exact q)
theorem unI {f:Value->Sem Value} {g:Int->Int}
  (rule:∀ (i:Int) (t:Tok) (s:Shared) (Q:Value->Shared->Prop) (E:Value->Shared->Prop),Q (.int (g i) s.toks) { s with toks:=s.toks+1 }->wpAny (model X.prog X.w) X.A (f (.int i t)) Q E s):
  UnR X f (rU fun i=> .int (g i)):=by
 intro pins s σ H x v Q I rx h
 obtain ⟨i,rfl,q⟩:=h
 obtain ⟨t,rfl⟩:=rx
 exact rule i t s _ _ ⟨.int (g i),H,I.tok _,⟨_,rfl⟩,q⟩
theorem QW:UnR X (unaryOp .USub) (rU fun i=> .int (-i)):=unI fun _ _ _ _ _ q=>neg_int q
theorem uJ:OpR X (binaryOp .Add) (fun x y H Q=>∃ i k,x= .int i/\y= .bl k/\Q (.int (i+b2i k)) H):=by
 intro pins s σ H x y v u Q I rx ry h
 obtain ⟨i,k,rfl,rfl,q⟩:=h
 obtain ⟨t,rfl⟩:=rx
 cases ry
 exact add_int_bool ⟨.int (i+b2i k),H,I.tok _,⟨_,rfl⟩,q⟩
end
section
variable {X:Cx} {a b c:Expr} {ta tb tc:TE} {pos:Pos}
theorem VB:OpR X (compareOp .Lt) (rI0 fun i j=> .bl (decide (i < j))):=VA fun _ _ _ _ _ _ _ q=>lt_int q
theorem VC:OpR X (compareOp .LtE) (rI0 fun i j=> .bl (decide (i<=j))):=VA fun _ _ _ _ _ _ _ q=>le_int q
theorem VD:OpR X (compareOp .Gt) (rI0 fun i j=> .bl (decide (j < i))):=VA fun _ _ _ _ _ _ _ q=>gt_int q
theorem zj (b:Expr) {op:CmpOp} (h:op ≠ .In:=by decide) (h2:op ≠ .NotIn:=by decide):behindInMarks op b=false:=by
 have e1:(op == CmpOp.In)=false:=by cases op <;> first | rfl | exact absurd rfl h
 have e2:(op == CmpOp.NotIn)=false:=by cases op <;> first | rfl | exact absurd rfl h2
 cases b <;> simp [behindInMarks,e1,e2]
theorem ql {op:CmpOp} {r:R2} (ho:OpR X (compareOp op) r) (ha:PE X a ta) (hb:PE X b tb) (hm:behindInMarks op b=false):PE X (.Compare a [op] [b] pos) (tOp r ta tb):=by
 intro pins s σ H Q I h
 exact wpAny_Compare1 (Vx ha hb I h fun v u s2 x y H2 I2 rx ry q=>ho pins s2 σ H2 x y v u Q I2 rx ry q) hm
def QX (t:TE):TT:=fun σ H Q=>t σ H fun x H' =>∃ k,x= .bl k/\Q k H'
theorem qm {op:CmpOp} {r:R2} (ho:OpR X (compareOp op) r) (ha:PE X a ta) (hb:PE X b tb) (hm:behindInMarks op b=false):PT X (.Compare a [op] [b] pos) (QX (tOp r ta tb)):=by
 intro pins s σ H Q I h
 refine wpAny_isTrue_Compare1 (thn (ha pins s σ H _ I h) fun v s1 ⟨x,H1,I1,r1,q1⟩=>thn (hb pins s1 σ H1 _ I1 q1) fun u s2 ⟨y,H2,I2,r2,q2⟩=>
  thn (ho pins s2 σ H2 x y v u _ I2 r1 r2 q2) fun c s3 ⟨z,H3,I3,r3,k,e,q3⟩=> ?_) hm
 subst e
 cases r3
 exact wpAny_truthy_bool ⟨H3,I3,q3⟩
def Yw (r r' :R2) (ta tb tc:TE):TE:=fun σ H Q=>ta σ H fun x H1=>tb σ H1 fun y H2=>r x y H2 fun z H3=>∃ k,z= .bl k/\
 (if k=true then tc σ H3 fun w' H4=>r' y w' H4 Q else Q (.bl false) H3)
theorem yF {op op' :CmpOp} {r r' :R2} (ho:OpR X (compareOp op) r) (ho' :OpR X (compareOp op') r') (ha:PE X a ta) (hb:PE X b tb) (hc:PE X c tc)
  (hm:lastMarks [op,op'] [b,c]=false:=by with_unfolding_all rfl):PE X (.Compare a [op,op'] [b,c] pos) (Yw r r' ta tb tc):=by
 intro pins s σ H Q I h
 refine Compare_chain (thn (ha pins s σ H _ I h) fun v s1 ⟨x,H1,I1,r1,q1⟩=>chain_link (thn (hb pins s1 σ H1 _ I1 q1) fun u s2 ⟨y,H2,I2,r2,q2⟩=>
  thn (ho pins s2 σ H2 x y v u _ I2 r1 r2 q2) fun d s3 ⟨z,H3,I3,r3,k,e,q3⟩=> ?_)) hm
 subst e
 cases r3
 refine wpAny_truthy_bool ?_
 cases k with
 | false=>exact ite_ff ⟨.bl false,H3,I3,rfl,q3⟩
 | true=>exact ite_tt (chain_last (thn (hc pins s3 σ H3 _ I3 q3) fun w' s4 ⟨z',H4,I4,r4,q4⟩=>ho' pins s4 σ H4 y z' u w' Q I4 r2 r4 q4))
theorem yG {op op' :CmpOp} {r r' :R2} (ho:OpR X (compareOp op) r) (ho' :OpR X (compareOp op') r') (ha:PE X a ta) (hb:PE X b tb) (hc:PE X c tc)
  (hm:lastMarks [op,op'] [b,c]=false:=by with_unfolding_all rfl):PT X (.Compare a [op,op'] [b,c] pos) (QX (Yw r r' ta tb tc)):=by
 intro pins s σ H Q I h
 refine isTrue_chain (thn (ha pins s σ H _ I h) fun v s1 ⟨x,H1,I1,r1,q1⟩=>test_link (thn (hb pins s1 σ H1 _ I1 q1) fun u s2 ⟨y,H2,I2,r2,q2⟩=>
  thn (ho pins s2 σ H2 x y v u _ I2 r1 r2 q2) fun d s3 ⟨z,H3,I3,r3,k,e,q3⟩=> ?_)) hm
 subst e
 cases r3
 refine wpAny_truthy_bool ?_
 cases k with
 | false=>
  obtain ⟨k',e',q'⟩:=q3
  cases e'
  exact ite_ff ⟨H3,I3,q'⟩
 | true=>
  refine ite_tt (test_last (thn (hc pins s3 σ H3 _ I3 q3) fun w' s4 ⟨z',H4,I4,r4,q4⟩=>thn (ho' pins s4 σ H4 y z' u w' _ I4 r2 r4 q4) fun d' s5 ⟨z2,H5,I5,r5,k2,e2,q5⟩=> ?_))
  subst e2
  cases r5
  exact wpAny_truthy_bool ⟨H5,I5,q5⟩
def xj (K:PySem.W.Frag) (x:V) (H:Hp) (k:Bool):Prop:=
 match x with
 | .non=>k=false
 | .bl b=>k=b
 | .int i=>k=(i != 0)
 | .str y=>y.length<=sizeLine/\k=((y.length:Int) != 0)
 | .byt y=>y.size<=sizeLine/\k=((y.size:Int) != 0)
 | .ref p=>(∃ xs,SqL K H p xs/\k= !xs.isEmpty)\/(∃ xs,SqT K H p xs/\k= !xs.isEmpty)\/∃ kvs,H p=some (.dK kvs)/\k= !kvs.isEmpty
 | _=>False
theorem u6 {κ:Type} {kvs:List (κ×V)} {vs:List (κ×Value)} (r:KV kvs vs):(!vs.isEmpty)= !kvs.isEmpty:=by
 cases r <;> rfl
theorem Jr {xs:List V} {its:List Value} (r:Z3 xs its):(!its.toArray.isEmpty)= !xs.isEmpty:=by
 cases r <;> simp
theorem Js:(sizeLine:Nat) < 2 ^ 63:=by rw [sizeLine_eq]; decide
theorem QY:xO X (fun x H Q=>∃ k,xj X.K x H k/\Q k H):=by
 intro pins s σ H x v Q I rx h
 obtain ⟨k,e,q⟩:=h
 have hl:=Js
 have hs:sizeLine=16777216:=sizeLine_eq
 cases x with
 | non=>
  cases rx
  have e' :k=false:=e
  subst e'
  exact truthy_none ⟨H,I,q⟩
 | bl b=>
  cases rx
  have e' :k=b:=e
  subst e'
  exact wpAny_truthy_bool ⟨H,I,q⟩
 | int i=>
  obtain ⟨t,rfl⟩:=rx
  have e' :k=(i != 0):=e
  subst e'
  exact PySem.P.truthy_int ⟨H,I,q⟩
 | str y=>
  obtain ⟨t,rfl⟩:=rx
  obtain ⟨hy,e'⟩:y.length<=sizeLine/\k=((y.length:Int) != 0):=e
  subst e'
  exact PySem.P.truthy_str (by omega) ⟨H,I.tok _,q⟩
 | byt y=>
  obtain ⟨t,rfl⟩:=rx
  obtain ⟨hy,e'⟩:y.size<=sizeLine/\k=((y.size:Int) != 0):=e
  subst e'
  exact PySem.W.truthy_bytes (by omega) ⟨H,I.tok _,q⟩
 | ref p=>
  cases rx
  have e' :(∃ xs,SqL X.K H p xs/\k= !xs.isEmpty)\/(∃ xs,SqT X.K H p xs/\k= !xs.isEmpty)\/∃ kvs,H p=some (.dK kvs)/\k= !kvs.isEmpty:=e
  rcases e' with ⟨xs,hx,e'⟩ | ⟨xs,hx,e'⟩ | ⟨kvs,hx,e'⟩
  ·subst e'
   obtain ⟨its,r,pl,hz⟩:=I.list hx
   have hlen:=r.length
   exact wpAny_truthy_list pl.isList (by simp only [List.size_toArray]; omega) ⟨H,I.tok _,by rw [Jr r]; exact q⟩
  ·subst e'
   obtain ⟨its,r,pl,hz⟩:=I.tuple hx
   have hlen:=r.length
   exact truthy_tuple pl (by simp only [List.size_toArray]; omega) ⟨H,I.tok _,by rw [Jr r]; exact q⟩
  ·subst e'
   obtain ⟨hz,hS,vs,r,m⟩:kvs.length<=sizeLine/\(p == sysModules)=false/\∃ vs,KV kvs vs/\s.heap.DictOf (W2 X.prog X.w) p vs:=I.hok p _ hx
   have hlen:kvs.length=vs.length:=Paired.length r
   exact wpAny_truthy_dict hS m (by omega) ⟨H,I.tok _,by rw [u6 r]; exact q⟩
 | _=>exact (show False from e).elim
theorem yH (ha:PE X a ta) (he:∀ whole,isTrue a X.env whole=(do let v ← whole; standAt a.pos; holding [v] (truthy v))):
  PT X a (fun σ H Q=>ta σ H fun x H' =>∃ k,xj X.K x H' k/\Q k H'):=by
 intro pins s σ H Q I h
 exact isTrue_plain (thn (ha pins s σ H _ I h) fun v s1 ⟨x,H1,I1,r1,q1⟩=>QY pins s1 σ H1 x v Q I1 r1 q1) (he _)
theorem u7:OpR X (binaryOp .Add) (fun x y H Q=>∃ i j,x= .str i/\y= .str j/\i.length+j.length<=sizeLine/\Q (.str (i++j)) H):=by
 intro pins s σ H x y v u Q I rx ry h
 obtain ⟨i,j,rfl,rfl,hz,q⟩:=h
 obtain ⟨t,rfl⟩:=rx
 obtain ⟨t',rfl⟩:=ry
 exact add_str (fun t' tk=>⟨.str (i++j),H,I.tok _,⟨_,rfl⟩,q⟩) hz
theorem ZQ {x:V} {us:List Value} (r:Z3 [x] us):∃ u,us=[u]/\Zj x u:=by
 cases r with
 | cons r1 r2=>cases r2; exact ⟨_,rfl,r1⟩
theorem yI {x y:V} {us:List Value} (r:Z3 [x,y] us):∃ u w',us=[u,w']/\Zj x u/\Zj y w' :=by
 cases r with
 | cons r1 r2=>
  cases r2 with
  | cons r3 r4=>cases r4; exact ⟨_,_,rfl,r1,r3⟩
theorem uK (hc:X.calm=true):Zr X (.builtin "max") (fun xs H Q=>∃ i j,xs=[.int i, .int j]/\Q (.int (if j > i then j else i)) H):=by
 intro pins s σ H xs us Q I r h
 obtain ⟨i,j,rfl,q⟩:=h
 obtain ⟨u,w',rfl,⟨t,rfl⟩,⟨t',rfl⟩⟩:=yI r
 refine max_two_ints (I.ok.hd hc) fun h' tk k=>⟨_,H,I.kept k, ?_,q⟩
 by_cases hj:j > i
 ·rw [if_pos hj,if_pos hj]; exact ⟨_,rfl⟩
 ·rw [if_neg hj,if_neg hj]; exact ⟨_,rfl⟩
theorem uL (hc:X.calm=true):Zr X (.builtin "min") (fun xs H Q=>∃ i j,xs=[.int i, .int j]/\Q (.int (if j < i then j else i)) H):=by
 intro pins s σ H xs us Q I r h
 obtain ⟨i,j,rfl,q⟩:=h
 obtain ⟨u,w',rfl,⟨t,rfl⟩,⟨t',rfl⟩⟩:=yI r
 refine min_two_ints (I.ok.hd hc) fun h' tk k=>⟨_,H,I.kept k, ?_,q⟩
 by_cases hj:j < i
 ·rw [if_pos hj,if_pos hj]; exact ⟨_,rfl⟩
 ·rw [if_neg hj,if_neg hj]; exact ⟨_,rfl⟩
theorem uM:Zr X (.type "int") (fun xs H Q=>(∃ i,xs=[.int i]/\Q (.int i) H)\/∃ k,xs=[.bl k]/\Q (.int (if k then 1 else 0)) H):=by
 intro pins s σ H xs us Q I r h
 rcases h with ⟨i,rfl,q⟩ | ⟨k,rfl,q⟩
 ·obtain ⟨u,rfl,t,rfl⟩:=ZQ r
  exact call_int_int ⟨.int i,H,I,⟨_,rfl⟩,q⟩
 ·obtain ⟨u,rfl,r1⟩:=ZQ r
  cases r1
  exact call_int_bool ⟨.int (if k then 1 else 0),H,I.tok _,⟨_,rfl⟩,q⟩
end
end L2
namespace L2
open PySem PySem.Spec PyProof.Rows
structure VE (h:Heap) (x dx C:Addr) (mA:Str->Option Value):Prop where
 obj:h.get? x=some (PySem.W.instObj C dx)
 ns:h.Ns1 dx mA
 ne:dx ≠ x
theorem uN {h:Heap} {dx:Addr} {mA:Str->Option Value} (n:h.Ns1 dx mA):∃ od,h.get? dx=some od/\∀ name,PySem.W.lookIn name od=some (mA name):=by
 obtain ⟨o,es,ep,ho,hd,hk,_,hm⟩:=n
 refine ⟨o,ho,fun name=> ?_⟩
 have e:=hm name
 unfold nsFind findBy at e
 rw [← Array.find?_toList] at e
 unfold PySem.W.lookIn
 rw [hd]
 dsimp only
 split
 ·rename_i y q
  rw [q] at e
  exact congrArg some e
 ·rename_i q
  rw [q] at e
  have a:es.toList.any (·.refKey)=false:=by
   rw [List.any_eq_false]
   intro y hy
   obtain ⟨z,t,hkey⟩:=hk y (Array.mem_toList_iff.mp hy)
   simp [DictEntry.refKey,hkey]
  have a' :¬ es.toList.any (·.refKey)=true:=by rw [a]; exact Bool.false_ne_true
  rw [if_neg a']
  exact congrArg some e
theorem VE.look {h:Heap} {x dx C:Addr} {mA:Str->Option Value} (I:VE h x dx C mA):∃ od,PySem.W.InstAt h x (PySem.W.instObj C dx) C (some od)/\∀ name,PySem.W.lookIn name od=some (mA name):=
 let ⟨od,ho,hl⟩:=uN I.ns
 ⟨od,⟨I.obj,rfl,rfl,ho⟩,hl⟩
section
variable {prog:Program} {w:World} {A:Around} {E:Value->Shared->Prop} {s:Shared} {K:PySem.W.Frag} {x dx C f:Addr} {mA:Str->Option Value} {name:Str} {v:Value}
end
section
variable {P:Program} {w:World} {H H' :Hp} {h h' :Heap} {a C dx:Addr} {fs fs' :List (Str×V)}
theorem qo (hok:HOk P w H h) (e:H a=some (.ins C dx fs)):∃ mA,VE h a dx C mA/\(∀ f,Vl (fs.lookup f) (mA f))/\PySem.Within mA (fs.map (·.1))/\fs.length<=1000/\H dx=some (.own a):=by
 obtain ⟨d,z,ne,ob,mA,n,r,q⟩:=(show Zm P w H h a (.ins C dx fs) from hok a _ e)
 exact ⟨mA,⟨ob,n,ne⟩,r,q,z,d⟩
end
structure Cls (K:PySem.W.Frag) (C:Addr):Prop where
 pg:PySem.W.plainGet K C Str.empty=true
 hd:PySem.W.hasDictIn K C=true
 po:PySem.W.plainOver K C=true
 sa:PySem.W.findIn K (.ref C) "__setattr__"=some (some (.builtin "object.__setattr__"))
theorem Cls.get {K:PySem.W.Frag} {C:Addr} (c:Cls K C) (f:Str):PySem.W.plainGet K C f=true:=c.pg
section
variable {X:Cx} {pins:List (Addr×Obj)} {σ:St} {H:Hp} {s:Shared} {a C dx:Addr} {fs:List (Str×V)} {f:Str} {v:V} {A:Around} {E:Value->Shared->Prop}
end
section
variable {X:Cx} {o e value:Expr} {f:Str} {pos pos' tpos:Pos} {ta tv:TE}
end
section
variable {X:Cx} {pins:List (Addr×Obj)} {σ:St} {H:Hp} {s:Shared} {A:Around} {E:Value->Shared->Prop} {Q:Value->Shared->Prop} {c:Value} {b:Bool}
inductive u8 (K:PySem.W.Frag) (H:Hp):V->Value->Prop where
 | non:u8 K H .non (.type "NoneType")
 | bl (x:Bool):u8 K H (.bl x) (.type "bool")
 | int (i:Int):u8 K H (.int i) (.type "int")
 | str (x:Str):u8 K H (.str x) (.type "str")
 | flt (x:UInt64):u8 K H (.flt x) (.type "float")
 | lst {a:Addr} {xs:List V} (e:H a=some (.lst xs)):u8 K H (.ref a) (.type "list")
 | frz {a:Addr} {o:Obj} {xs:List V} (e:H a=some (.frz o (.lst xs))):u8 K H (.ref a) (.type "list")
 | tup {a:Addr} {xs:List V} (e:H a=some (.tup xs)):u8 K H (.ref a) (.type "tuple")
 | dK {a:Addr} {kvs:List (Key×V)} (e:H a=some (.dK kvs)):u8 K H (.ref a) (.type "dict")
 | dT {a:Addr} {kvs:List (List Key×V)} (e:H a=some (.dT kvs)):u8 K H (.ref a) (.type "dict")
 | ins {a C dx:Addr} {fs:List (Str×V)} (e:H a=some (.ins C dx fs)) (cl:Cls K C) (ha:PySem.W.findIn K (.ref C) "__class__"=some (some (.builtin "object.__class__")))
   (hn:PySem.W.specialIn K (.builtin "object.__class__") "__get__"=some (some (.builtin "getset_descriptor.__get__"))) (htk:PySem.W.takesIn K (.builtin "object.__class__")=some true)
   (hm:PySem.W.mroIn K C (.type "object")=some true):u8 K H (.ref a) (.ref C)
theorem uO {x:V} {u t:Value} (I:Inv X pins σ H s) (rx:Zj x u) (ty:u8 X.K H x t) (e:PySem.W.kitOne X.K t c=some b) (h:∀ tk,Q (.bool b) { s with toks:=tk }):
  wpAny (model X.prog X.w) A (call (.builtin "isinstance") [u,c]) Q E s:=by
 cases ty with
 | non=>cases (show u=Value.none from rx); exact PySem.W.kia_one PySem.W.kitx_none I.kIn True.intro e (fun z=>nomatch z) h
 | bl y=>cases (show u=Value.bool y from rx); exact PySem.W.kia_one PySem.W.kitx_bool I.kIn True.intro e (fun z=>nomatch z) h
 | int i=>obtain ⟨t,q⟩:=(show ∃ t,u=Value.int i t from rx); cases q; exact PySem.W.kia_one PySem.W.kitx_int I.kIn True.intro e (fun z=>nomatch z) h
 | str y=>obtain ⟨t,q⟩:=(show ∃ t,u=Value.str y t from rx); cases q; exact PySem.W.kia_one PySem.W.kitx_str I.kIn True.intro e (fun z=>nomatch z) h
 | flt y=>obtain ⟨t,q⟩:=(show ∃ t,u=Value.float y t from rx); cases q; exact PySem.W.kia_one PySem.W.kitx_float I.kIn True.intro e (fun z=>nomatch z) h
 | @lst a xs ea=>
  cases (show u=Value.ref a from rx)
  obtain ⟨_,_,n,_,h1⟩:=(show Zm X.prog X.w H s.heap a (.lst xs) from I.hok a _ ea)
  exact PySem.W.kia_one PySem.W.kitx_list I.kIn ⟨_,h1,rfl⟩ e (fun z=>nomatch z) h
 | @frz a ob xs ea=>
  cases (show u=Value.ref a from rx)
  obtain ⟨_,_,_,n,_,h1⟩:=(show Zm X.prog X.w H s.heap a (.frz ob (.lst xs)) from I.hok a _ ea)
  exact PySem.W.kia_one PySem.W.kitx_list I.kIn ⟨_,h1,rfl⟩ e (fun z=>nomatch z) h
 | @tup a xs ea=>
  cases (show u=Value.ref a from rx)
  obtain ⟨_,_,_,p⟩:=(show Zm X.prog X.w H s.heap a (.tup xs) from I.hok a _ ea)
  obtain ⟨o,h1,h2,_⟩:=p
  exact PySem.W.kia_one PySem.W.kitx_tuple I.kIn ⟨o,h1,h2⟩ e (fun z=>nomatch z) h
 | @dK a kvs ea=>
  cases (show u=Value.ref a from rx)
  obtain ⟨_,_,vs,_,p⟩:=(show Zm X.prog X.w H s.heap a (.dK kvs) from I.hok a _ ea)
  obtain ⟨o,es,ep,h1,h2,_⟩:=p
  exact PySem.W.kia_one PySem.W.kitx_dict I.kIn ⟨o,h1,h2.1⟩ e (fun z=>nomatch z) h
 | @dT a kvs ea=>
  cases (show u=Value.ref a from rx)
  obtain ⟨_,_,xs,_,o,es,ep,h1,h2,_⟩:=(show Zm X.prog X.w H s.heap a (.dT kvs) from I.hok a _ ea)
  exact PySem.W.kia_one PySem.W.kitx_dict I.kIn ⟨o,h1,h2.1⟩ e (fun z=>nomatch z) h
 | @ins a C dx fs ea cl ha hn htk hm=>
  cases (show u=Value.ref a from rx)
  obtain ⟨mA,O,_⟩:=qo I.hok ea
  obtain ⟨od,J,_⟩:=O.look
  exact PySem.W.kia_one (PySem.W.kitx_own (cl.get _) cl.hd ha hn htk hm) I.kIn J e (fun z=>nomatch z) h
end
end L2
namespace L2
open PySem PySem.Spec PyProof.Rows
structure ju (k:Nat) (A:Around):Prop where
 hd:A.handled=none
 dp:A.depth+3*k+5 < recursionLimit
 un:A.units+16*k+200 < cLine
theorem ju.mono {j k:Nat} {A:Around} (r:ju k A) (h:j<=k):ju j A:=⟨r.hd,by have:=r.dp; omega,by have:=r.un; omega⟩
theorem ju.deeper {k:Nat} {A:Around} (r:ju (k+1) A) (env:Env):ju k (A.deeper env):=
 ⟨r.hd,by have:=r.dp; show A.depth+1+3*k+5 < _; omega,by have:=r.un; show A.units+3+16*k+200 < _; omega⟩
theorem ju.depth {k:Nat} {A:Around} (r:ju k A):A.depth < recursionLimit:=by have:=r.dp; omega
theorem ju.units {k:Nat} {A:Around} (r:ju k A):A.units+64 < cLine:=by have:=r.un; omega
def V6:TA:=fun _ H Q=>Q [] H
def QZ (ta:TE) (tr:TA):TA:=fun σ H Q=>ta σ H fun x H1=>tr σ H1 fun xs H2=>Q (x :: xs) H2
section
variable {X:Cx} {e:Expr} {es:List Expr} {te:TE} {t:TA} {pos:Pos}
theorem Zf:PA X [] V6:=fun _ _ _ _ H Q I h=>Calls.spliced_nil ⟨[],H,I, .nil,h⟩
theorem zt (ha:PE X e te) (hr:PA X es t) (hs:starEach (e :: es) X.env=(false,eval e X.env) :: starEach es X.env:=by rfl):PA X (e :: es) (QZ te t):=by
 intro pos pins s σ H Q I h
 rw [hs]
 show wpAny _ _ (spliced ((false,eval e X.env) :: backTo pos (starEach es X.env))) _ _ s
 refine Calls.spliced_cons (thn (ha pins s σ H _ I h) fun u s1 ⟨x,H1,I1,r1,q1⟩=> ?_)
 exact thn (hr pos pins s1 σ H1 _ I1 q1) fun us s2 ⟨xs,H2,I2,r2,q2⟩=>⟨x :: xs,H2,I2, .cons r1 r2,q2⟩
def xQ (t:TA):TE:=fun σ H Q=>t σ H fun xs H1=>xs.length<=sizeLine/\∀ p,H1 p=none->Q (.ref p) (upd H1 p (.tup xs))
def xR (t:TA):TE:=fun σ H Q=>t σ H fun xs H1=>xs.length<=sizeLine/\∀ p,H1 p=none->Q (.ref p) (upd H1 p (.lst xs))
theorem v6 {x1} (h:PA X es t):PE X (.Tuple es x1 pos) (xQ t):=by
 intro pins s σ H Q I hq
 refine wpAny_Tuple_spliced (thn (h pos pins s σ H _ I hq) fun us s1 ⟨xs,H1,I1,r,z,q⟩=>⟨by rw [← r.length]; exact z, ?_⟩)
 have hf:H1 s1.heap.objs.size=none:=I1.hok.fresh (Nat.le_refl _)
 refine ⟨.ref s1.heap.objs.size,upd H1 s1.heap.objs.size (.tup xs),I1.laid (t' :=s1.toks) (fun b u e=>Heap.get?_push_of_some _ e) (Nat.le_refl _) ?_,rfl,q _ hf⟩
 exact ⟨z,us,r,⟨_,Heap.get?_push_size _ rfl,rfl,_,rfl⟩⟩
theorem Yx (h:PA X es t):PE X (.List es pos) (xR t):=by
 intro pins s σ H Q I hq
 refine wpAny_List_spliced (thn (h pos pins s σ H _ I hq) fun us s1 ⟨xs,H1,I1,r,z,q⟩=>⟨by rw [← r.length]; exact z, ?_⟩)
 have hf:H1 s1.heap.objs.size=none:=I1.hok.fresh (Nat.le_refl _)
 refine ⟨.ref s1.heap.objs.size,upd H1 s1.heap.objs.size (.lst xs),I1.laid (t' :=s1.toks) (fun b u e=>Heap.get?_push_of_some _ e) (Nat.le_refl _) ?_,rfl,q _ hf⟩
 exact ⟨z,us,0,r,Heap.get?_push_size _ rfl⟩
end
abbrev Sp:=List V->Hp->VK->XK->Prop
abbrev CXT:=List Env->Hp->Shared->XK->Value->Shared->Prop
structure V7 (P:Program) (w:World) (K:PySem.W.Frag) (mg:Str->Option Value) (base:Heap) (A:Around) (outer:List Env) (s:Shared) (H:Hp):Prop where
 frames:A.frames=some outer
 mod:Mod K mg base
 bs:∀ b o,base.get? b=some o->s.heap.get? b=some o/\H b=none
 bsz:base.objs.size<=s.heap.objs.size
 funs:s.heap.FunFrames base outer
 frf:∀ b∈frs outer,H b=none
 hok:HOk P w H s.heap
 bare:AllBare s.gens
def CE (outer:List Env) (P:Program) (w:World) (H:Hp) (s:Shared) (Q:VK) (u:Value) (s' :Shared):Prop:=
 ∃ v H',s'.os=s.os/\AllBare s'.gens/\Un (frs outer) [] H H' s.heap s'.heap/\HOk P w H' s'.heap/\Zj v u/\Q v H'
def CR (CX:CXT) (outer:List Env) (P:Program) (w:World) (H:Hp) (s:Shared) (Q:VK) (E:XK) (r:Result) (s' :Shared):Prop:=
 match r with
 | .ok (.ret u)=>CE outer P w H s Q u s'
 | .ok _=>False
 | .error e=>CX outer H s E e s'
structure ZA (P:Program) (w:World) (K:PySem.W.Frag) (mg:Str->Option Value) (base:Heap) (CX:CXT) (k:Nat) (f:Addr) (fd:FuncData) (ps:List Str) (sp:Sp):Prop where
 len:∀ vs H Q E,sp vs H Q E->vs.length=ps.length
 run:∀ (A:Around) (outer:List Env) (s:Shared) (H:Hp) (args:Args) (us:List Value) (vs:List V) (Q:VK) (E:XK),ju k A->V7 P w K mg base A outer s H->BindsTo s fd args (ps.zip us)->Z3 vs us->sp vs H Q E->
  codeAny (model P w) A (.call (.ref f) args) (CR CX outer P w H s Q E) s
section
variable {X:Cx} {pins:List (Addr×Obj)} {σ:St} {H:Hp} {s s' :Shared}
theorem Inv.env0 (I:Inv X pins σ H s):V7 X.prog X.w X.K X.mg X.base X.A X.stack s H:=
 ⟨I.ok.frames,I.ok.mod,I.bs,Nat.le_trans I.ok.bsz I.sz,I.stack,I.stkFree,I.hok,I.bare⟩
theorem Inv.after {Q:VK} {u:Value} (I:Inv X pins σ H s) (h:CE X.stack X.prog X.w H s Q u s'):EP X pins σ Q u s' :=by
 obtain ⟨v,H',os,bare,un,hok,r,q⟩:=h
 obtain ⟨hh,g,d,t,os'⟩:=s'
 obtain rfl:os' =s.os:=os
 exact ⟨v,H',I.call (h' :=hh) (g' :=g) (d' :=d) (t' :=t) (ch:=[]) un hok bare (fun b z=>absurd z (by simp)),r,q⟩
end
def VF (sp:Sp) (dvs:List V) (E:XK) (t:TA):TE:=fun σ H Q=>t σ H fun vs H1=>sp (vs++dvs) H1 Q E
def Binds (K:PySem.W.Frag) (fd:FuncData) (ps:List Str) (ds:List Value):Prop:=
 ∀ (s:Shared) (us:List Value),K.In s.heap->(us++ds).length=ps.length->BindsTo s fd ⟨us,[]⟩ (ps.zip (us++ds))
theorem Binds.all {K:PySem.W.Frag} {fd:FuncData} {ps:List Str} (h:∀ us:List Value,us.length=ps.length->bindArgs fd ⟨us,[]⟩=pure (ps.zip us)):Binds K fd ps []:=fun s us _ hl=>by
 rw [List.append_nil] at hl ⊢
 exact .of_eq (h us hl)
def jH (CX:CXT) (X:Cx) (E:XK):Prop:=∀ (pins:List (Addr×Obj)) (σ:St) (H:Hp) (s:Shared) (e:Value) (s' :Shared),Inv X pins σ H s->CX X.stack H s E e s' ->X.xe e s'
section
variable {X:Cx} {CX:CXT} {k:Nat} {f C:Addr} {fd:FuncData} {ps:List Str} {sp:Sp} {dvs:List V} {ds:List Value} {E:XK} {x m:Str} {p pos apos:Pos} {e o:Expr} {es:List Expr} {ta:TE} {t:TA}
theorem v7 {pins:List (Addr×Obj)} {σ:St} {H:Hp} {s:Shared} {Q:VK} {us:List Value} {vs:List V} (F:ZA X.prog X.w X.K X.mg X.base CX k f fd ps sp) (hr:ju k X.A) (hb:Binds X.K fd ps ds) (hd:Z3 dvs ds) (hx:jH CX X E)
  (I:Inv X pins σ H s) (r:Z3 vs us) (h:sp (vs++dvs) H Q E):wpAny (model X.prog X.w) X.A (call (.ref f) us) (EP X pins σ Q) X.xe s:=by
 have r2:Z3 (vs++dvs) (us++ds):=r.append hd
 have hl:(us++ds).length=ps.length:=by rw [← r2.length]; exact F.len _ _ _ _ h
 refine wpAny_call (codeAny_mono (F.run X.A X.stack s H ⟨us,[]⟩ (us++ds) (vs++dvs) Q E hr I.env0 (hb s us I.kIn hl) r2 h) fun r s' hq=> ?_)
 cases r with
 | error e=>exact hx pins σ H s e s' I hq
 | ok fl=>
  cases fl with
  | ret u=>exact I.after hq
  | next=>exact False.elim hq
  | brk=>exact False.elim hq
  | cont=>exact False.elim hq
theorem qp (F:ZA X.prog X.w X.K X.mg X.base CX k f fd ps sp) (hr:ju k X.A) (hg:Gl X x) (hm:X.mg x=some (.ref f)) (hk:PySem.W.keepIn X.K (.ref f)=true) (hb:Binds X.K fd ps ds) (hd:Z3 dvs ds) (hx:jH CX X E)
  (ha:PA X (e :: es) t) (hdb:(x == ("__debug__":Str))=false:=by decide) (he:starEach (e :: es) X.env=(false,eval e X.env) :: starEach es X.env:=by rfl) (hpl:(backTo pos (starEach es X.env)).any (·.1)=false:=by rfl):
  PE X (.Call (.Name x p) (e :: es) [] pos) (VF sp dvs E t):=by
 intro pins s σ H Q I h
 refine wpAny_Call_Name_kw (W3 I hg hm ?_ hdb)
 refine PySem.W.callWith_K (h₀:=X.base) I.ok.mod.kin hk (thn (ha pos pins s σ H _ I h) fun us s1 ⟨vs,H1,I1,r,q⟩=>⟨I1.kIn, ?_⟩) he hpl
 exact v7 F hr hb hd hx I1 r q
end
def PK (X:Cx) (kws:List Keyword) (t:TA):Prop:=
 ∀ (pos:Pos) (pins:List (Addr×Obj)) (s:Shared) (σ:St) (H:Hp) (Q:List V->Hp->Prop),Inv X pins σ H s->t σ H Q->wpAny (model X.prog X.w) X.A (evalAll ((backToKw pos (keywordEach kws X.env)).map (·.2))) (AP X pins σ Q) X.xe s
section
variable {X:Cx} {CX:CXT} {k:Nat} {f C:Addr} {fd:FuncData} {ps ks:List Str} {sp:Sp} {E:XK} {x m:Str} {p pos apos kpos:Pos} {e o:Expr} {es:List Expr} {kws:List Keyword} {te ta:TE} {t tk:TA} {nm:Option Str}
theorem v8:PK X [] V6:=fun _ _ _ _ H Q I h=>wpAny_evalAll_nil ⟨[],H,I, .nil,h⟩
theorem qq (ha:PE X e te) (hr:PK X kws t):PK X (⟨nm,e,kpos⟩ :: kws) (QZ te t):=by
 intro pos pins s σ H Q I h
 show wpAny _ _ (evalAll ((do let v ← eval e X.env; standAt pos; pure v) :: (backToKw pos (keywordEach kws X.env)).map (·.2))) _ _ s
 refine wpAny_evalAll_cons (wpAny_bind (thn (ha pins s σ H _ I h) fun u s1 ⟨x,H1,I1,r1,q1⟩=>wpAny_bind (wpAny_standAt (wpAny_pure ?_))))
 exact thn (hr pos pins s1 σ H1 _ I1 q1) fun us s2 ⟨xs,H2,I2,r2,q2⟩=>⟨x :: xs,H2,I2, .cons r1 r2,q2⟩
variable {g:List Value->List Value->List Value} {gV:List V->List V->List V}
end
structure zf (N P:List Str) (sc:Scope):Prop where
 kind:sc.kind= .function
 co:sc.isCoroutine=false
 gen:sc.isGenerator=false
 nd:N.Nodup
 pre:N.take P.length=P
 par:∀ x∈P,sc.names.lookup x=some .local\/sc.names.lookup x=some .cell
 nofree:∀ y∈sc.names,y.2 ≠ .free
theorem wf {kindOf:Str->Option NameKind} {x:Str}:∀ {binds:List (Str×Value)} {m:Str->Option Value},(∀ v,(x,v) ∉ binds)->bindL kindOf binds m x=m x
 | [],_,_=>rfl
 | (n,v) :: r,m,h=>by
  unfold bindL
  rw [wf fun w hw=>h w (List.mem_cons_of_mem _ hw)]
  split
  ·have:x ≠ n:=by rintro rfl; exact h v List.mem_cons_self
   simp [this]
  ·rfl
theorem wg {kindOf:Str->Option NameKind} {x:Str}:∀ {binds:List (Str×Value)} {m:Str->Option Value},(∀ v,(x,v) ∉ binds)->bindC kindOf binds m x=m x
 | [],_,_=>rfl
 | (n,v) :: r,m,h=>by
  unfold bindC
  rw [wg fun w hw=>h w (List.mem_cons_of_mem _ hw)]
  split
  ·rfl
  ·have:x ≠ n:=by rintro rfl; exact h v List.mem_cons_self
   simp [this]
theorem wj {kindOf:Str->Option NameKind} {x:Str} {v:Value}:∀ {P:List Str} {vs:List Value} {i:Nat} {m:Str->Option Value},P.Nodup->P[i]? =some x->vs[i]? =some v->kindOf x=some .local->
  bindL kindOf (P.zip vs) m x=some v
 | [],_,_,_,_,h,_,_=>by simp at h
 | _ :: _,[],_,_,_,_,h,_=>by simp at h
 | p :: P,w :: vs,0,m,nd,h1,h2,hk=>by
  simp at h1 h2; subst h1; subst h2
  show bindL kindOf ((p,w) :: P.zip vs) m p=_
  unfold bindL
  rw [wf fun v hv=>(List.nodup_cons.mp nd).1 (List.of_mem_zip hv).1,if_pos hk]
  simp
 | p :: P,w :: vs,i+1,m,nd,h1,h2,hk=>by
  show bindL kindOf ((p,w) :: P.zip vs) m x=_
  unfold bindL
  exact wj (i:=i) (List.nodup_cons.mp nd).2 (by simpa using h1) (by simpa using h2) hk
theorem wk {kindOf:Str->Option NameKind} {x:Str} {v:Value}:∀ {P:List Str} {vs:List Value} {i:Nat} {m:Str->Option Value},P.Nodup->P[i]? =some x->vs[i]? =some v->kindOf x ≠ some .local->
  bindC kindOf (P.zip vs) m x=some v
 | [],_,_,_,_,h,_,_=>by simp at h
 | _ :: _,[],_,_,_,_,h,_=>by simp at h
 | p :: P,w :: vs,0,m,nd,h1,h2,hk=>by
  simp at h1 h2; subst h1; subst h2
  show bindC kindOf ((p,w) :: P.zip vs) m p=_
  unfold bindC
  rw [wg fun v hv=>(List.nodup_cons.mp nd).1 (List.of_mem_zip hv).1,if_neg hk]
  simp
 | p :: P,w :: vs,i+1,m,nd,h1,h2,hk=>by
  show bindC kindOf ((p,w) :: P.zip vs) m x=_
  unfold bindC
  exact wk (i:=i) (List.nodup_cons.mp nd).2 (by simpa using h1) (by simpa using h2) hk
def start (N:List Str) (vs:List V):St:=vs.map some++List.replicate (N.length - vs.length) none
def Jf (CX:CXT) (P:Program) (w:World) (K:PySem.W.Frag) (mg:Str->Option Value) (base:Heap) (N:List Str) (qual:Str) (scope:Scope) (f:Addr) (cd:Value) (A:Around) (outer:List Env) (s:Shared) (H:Hp) (E:XK):Cx where
 prog:=P
 w:=w
 K:=K
 mg:=mg
 base:=base
 A:=A.deeper (envOfC qual scope s.heap.objs.size f cd)
 N:=N
 s₀:=s
 H₀:=H
 env:=envOfC qual scope s.heap.objs.size f cd
 outer:=outer
 stack:=envOfC qual scope s.heap.objs.size f cd :: outer
 ex:=[]
 calm:=true
 fn:=fun _=>true
 pn:=[]
 xe:=fun e s' =>wpAny (model P w) (A.deeper (envOfC qual scope s.heap.objs.size f cd)) (leaving (envOfC qual scope s.heap.objs.size f cd) e) (fun _ s'' =>CX outer H s E e s'') (fun e' s'' =>CX outer H s E e' s'') s'
theorem Wz {sc:Scope} {n:Nat} {x:Str} (h:sc.names.lookup x=some .cell):∃ c,(cellsFrom n sc.names []).lookup x=some c:=by
 have q:=PySem.W.cellsFrom_some sc.names n [] (.inl h)
 exact Option.isSome_iff_exists.mp q
theorem uP {CX:CXT} {P:Program} {w:World} {K:PySem.W.Frag} {mg:Str->Option Value} {base:Heap} {N ps:List Str} {qual:Str} {scope:Scope} {f:Addr} {cd:Value} {A:Around} {outer:List Env} {s s1:Shared} {H:Hp} {E:XK} {us:List Value} {vs:List V}
  (S:zf N ps scope) (hd:A.handled=none) (e0:V7 P w K mg base A outer s H) (hl:vs.length=ps.length) (r:Z3 vs us)
  (x:InCallC s s.heap.objs.size (bindL (envOfC qual scope s.heap.objs.size f cd).kindOf (ps.zip us) fun _=>none) (cellsFrom (s.heap.objs.size+1) scope.names []) (bindC (envOfC qual scope s.heap.objs.size f cd).kindOf (ps.zip us) fun _=>none) s1):
  Inv (Jf CX P w K mg base N qual scope f cd A outer s H E) [] (start N vs) H s1:=by
 have hpl:ps.length<=N.length:=by have:=congrArg List.length S.pre; rw [List.length_take] at this; omega
 obtain ⟨h1,tk,rfl,hk⟩:=x.done
 have noA:∀ b:Addr,b ∉ (Jf CX P w K mg base N qual scope f cd A outer s H E).ex:=fun b z=>absurd (show b∈([]:List Addr) from z) (by simp)
 refine ⟨⟨e0.mod,S.kind,rfl,rfl,Nat.le_refl _,fun y z c h1 h2=> ?_,fun y hy=> ?_,fun y c _ h=> ?_,fun _=>hd,Around.frames_deeper e0.frames, .inr ⟨rfl,rfl⟩,fun b z=>absurd z (noA b),e0.bs,e0.bsz,fun b _ _=>noA b,fun b z=>absurd z (noA b),e0.funs,e0.frf⟩,
  rfl,e0.bare,Un.kept hk,⟨_,x.toInCall.ns,fun i y v h1 h2 h3=> ?_⟩,fun y c h=>⟨_,x.cell y c h⟩,e0.hok.fresh (Nat.le_refl _),fun y c h=> ?_,fun p hp=>absurd (show p∈([]:List (Addr×Obj)) from hp) (by simp),e0.hok.kept hk, ?_⟩
 ·exact name_of_addr x.apart (PySem.mem_of_lookup h1) (PySem.mem_of_lookup h2)
 ·have hy:scope.names.lookup y=some .cell\/scope.names.lookup y=some .free:=hy
  rcases hy with hy | hy
  ·exact Wz hy
  ·exact absurd rfl (S.nofree _ (PySem.mem_of_lookup hy))
 ·exact Nat.le_of_lt (x.above y c (PySem.mem_of_lookup h))
 ·have hi:i < vs.length:=by
   unfold start at h2
   by_cases hi:i < vs.length
   ·exact hi
   ·rw [List.getElem?_append_right (by simpa using hi)] at h2
    rw [List.getElem?_replicate] at h2
    split at h2 <;> cases h2
  have ha:vs[i]? =some v:=by
   unfold start at h2
   rw [List.getElem?_append_left (by simpa using hi),List.getElem?_map] at h2
   cases e:vs[i]? with
   | none=>rw [e] at h2; cases h2
   | some a=>rw [e] at h2; cases h2; rfl
  obtain ⟨u,hu,rv⟩:=r.get ha
  have hp:ps[i]? =some y:=by
   rw [← S.pre,List.getElem?_take_of_lt (by omega)]; exact h1
  have ndP:ps.Nodup:=by rw [← S.pre]; exact S.nd.sublist (List.take_sublist _ _)
  refine ⟨u,rv, ?_⟩
  rcases S.par y (List.mem_of_getElem? hp) with k | k
  ·exact .inl ⟨k,wj ndP hp hu k⟩
  ·obtain ⟨c,e⟩:=Wz (n:=s.heap.objs.size+1) k
   refine .inr ⟨.inl k,c,e, ?_⟩
   have q:=x.cell y c e
   rw [wk ndP hp hu (by show scope.names.lookup y ≠ _; rw [k]; decide)] at q
   exact q
 ·exact e0.hok.fresh (Nat.le_of_lt (x.above y c (PySem.mem_of_lookup h)))
 ·unfold start
  show _=N.length
  rw [List.length_append,List.length_map,List.length_replicate]
  omega
theorem v9 {CX:CXT} {P:Program} {w:World} {K:PySem.W.Frag} {mg:Str->Option Value} {base:Heap} {k:Nat} {f:Addr} {name qual:Str} {params:Arguments} {body:List Stmt} {scope:Scope} {dV kV doc pm cdv ct oc:Value} {an od:Option Addr}
  {osl:Array (Option Value)} {N ps:List Str} {sp:Sp} (lk:K.lookup f=some ⟨oc,od, .func (PySem.W.fnOf name qual params body scope dV kV doc pm an cdv ct),osl⟩) (hcd:PySem.W.codeIn K cdv qual=true) (S:zf N ps scope)
  (len:∀ vs H Q E,sp vs H Q E->vs.length=ps.length)
  (hbody:∀ (A:Around) (outer:List Env) (s:Shared) (H:Hp) (vs:List V) (Q:VK) (E:XK),ju k (A.deeper (envOfC qual scope s.heap.objs.size f cdv))->sp vs H Q E->
   ∃ t,PSs (Jf CX P w K mg base N qual scope f cdv A outer s H E) body t/\t { nx:=fun _ H' =>Q .non H',rt:=Q } (start N vs) H):
  ZA P w K mg base CX (k+1) f (PySem.W.fnOf name qual params body scope dV kV doc pm an cdv ct) ps sp:=by
 refine ⟨len,fun A outer s H args us vs Q E hr e0 hb r hsp=> ?_⟩
 have hl:=len _ _ _ _ hsp
 have KX:K.In s.heap:=e0.mod.kin.keeps fun b o e=>(e0.bs b o e).1
 have lim:s.heap.NoLimit:=e0.mod.nolimit.keeps fun b o e=>(e0.bs b o e).1
 have hkind:∀ y∈ps.zip us,scope.names.lookup y.1=some .local\/(scope.names.lookup y.1=some .cell/\((cellsFrom (s.heap.objs.size+1) scope.names []).lookup y.1).isSome=true):=fun ⟨n,v⟩ hy=>by
  rcases S.par n (List.of_mem_zip hy).1 with q | q
  ·exact .inl q
  ·exact .inr ⟨q,PySem.W.cellsFrom_some _ _ _ (.inl q)⟩
 refine codeAny_call_function hr.depth (KX _ _ lk) rfl S.co S.gen rfl (PySem.W.codeRec_of KX hcd) (hb _ _ _ _ ?_)
 refine wpAny_newFunctionEnv_cells S.kind hkind fun env he s1 x=> ?_
 subst he
 refine ⟨lim.keeps x.toInCall.keep,codeAny_func ?_⟩
 obtain ⟨t,ht,hq⟩:=hbody A outer s H vs Q E (hr.deeper _) hsp
 have I:Inv (Jf CX P w K mg base N qual scope f cdv A outer s H E) [] (start N vs) H s1:=uP S hr.hd e0 hl r x
 refine wpAny_mono (ht [] s1 (start N vs) H _ I hq) (fun fl s' hs=> ?_) fun e s' hs=>hs
 have fin:∀ {σ' :St} {H' :Hp} {v:V} {u:Value},Inv (Jf CX P w K mg base N qual scope f cdv A outer s H E) [] σ' H' s' ->Zj v u->Q v H' ->CE outer P w H s Q u s' :=
  fun {σ' H' v u} J rv q=>⟨v,H',J.os,J.bare,J.base,J.hok,rv,q⟩
 cases fl with
 | ret u=>
  obtain ⟨v,σ',H',J,rv,q⟩:=hs
  exact fin J rv q
 | next=>
  obtain ⟨σ',H',J,q⟩:=hs
  exact fin (v:=V.non) (u:=Value.none) J rfl q
 | brk=>
  obtain ⟨_,_,_,q⟩:=hs
  exact False.elim q
 | cont=>
  obtain ⟨_,_,_,q⟩:=hs
  exact False.elim q
end L2
namespace L2
open PySem PySem.Spec PyProof.Rows
section
variable {X:Cx} {x:Str} {p pos:Pos} {e:Expr} {es:List Expr} {t:TA} {id T:String} {r:List V->Hp->VK->Prop}
def tCB (r:List V->Hp->VK->Prop) (t:TA):TE:=fun σ H Q=>t σ H fun vs H1=>r vs H1 Q
theorem j0 (hc:Zr X (.builtin id) r) (hg:Gl X x) (hm:X.mg x=none) (hv:bootBuiltins x=some (.builtin id)) (ha:PA X (e :: es) t) (hn:x ≠ "__name__":=by decide) (hdb:(x == ("__debug__":Str))=false:=by decide)
  (he:starEach (e :: es) X.env=(false,eval e X.env) :: starEach es X.env:=by rfl) (hpl:(backTo pos (starEach es X.env)).any (·.1)=false:=by rfl):PE X (.Call (.Name x p) (e :: es) [] pos) (tCB r t):=by
 intro pins s σ H Q I h
 refine wpAny_Call_Name_kw (jF I hg hm hv ?_ hn hdb)
 exact PyProof.Rows.callWith_builtin1 (thn (ha pos pins s σ H _ I h) fun us s1 ⟨vs,H1,I1,r1,q1⟩=>hc pins s1 σ H1 vs us Q I1 r1 q1) he hpl
theorem ZS (hc:Zr X (.type T) r) (hg:Gl X x) (hm:X.mg x=none) (hv:bootBuiltins x=some (.type T)) (ha:PA X (e :: es) t) (hn:x ≠ "__name__":=by decide) (hdb:(x == ("__debug__":Str))=false:=by decide)
  (he:starEach (e :: es) X.env=(false,eval e X.env) :: starEach es X.env:=by rfl) (hpl:(backTo pos (starEach es X.env)).any (·.1)=false:=by rfl):PE X (.Call (.Name x p) (e :: es) [] pos) (tCB r t):=by
 intro pins s σ H Q I h
 refine wpAny_Call_Name_kw (jF I hg hm hv ?_ hn hdb)
 exact PyProof.Rows.callWith_type1 (thn (ha pos pins s σ H _ I h) fun us s1 ⟨vs,H1,I1,r1,q1⟩=>hc pins s1 σ H1 vs us Q I1 r1 q1) he hpl
end
end L2
namespace HT
open PySem PyProof.Rows
section
open PySem.SeqAt
open PySem.AutoSeq1 (wpAny_loadPart')
open PySem.MeetsSeq PySem.MeetsSeq2 PySem.MeetsSeq3
end
section
variable {prog:Program} {w:World} {A:Around} {E:Value->Shared->Prop} {s:Shared}
theorem cat_tup {t b:Addr} {vs ws:List Value} {Q:Value->Shared->Prop} (ht:IsTup s.heap t vs.toArray) (hb:IsTup s.heap b ws.toArray) (hv:vs ≠ [])
  (h1:ws=[]->Q (.ref t) s) (h2:ws ≠ []->Q (.ref s.heap.objs.size) { s with heap:=s.heap.push { cls:= .type "tuple",data:= .seq (vs++ws).toArray } })
  (hsz:vs.length+ws.length<=sizeLine):wpAny (model prog w) A (binaryOp .Add (.ref t) (.ref b)) Q E s:=by
 obtain ⟨⟨cls,dd,data,sl⟩,ho,hc,n,hd⟩:=id ht
 obtain ⟨⟨cls2,dd2,data2,sl2⟩,ho2,hc2,n2,hd2⟩:=id hb
 simp only at hc hd hc2 hd2
 subst hc hd hc2 hd2
 have e:vs.toArray++ws.toArray=(vs++ws).toArray:=by simp
 by_cases hw:ws=[]
 ·exact concat_meets ⟨_,ho,rfl⟩ ⟨_,ho2,rfl⟩ noFill_tuple_add seq_tuple_add PySem.F.slot_tuple_add PySem.F.entry_tuple_add (PySem.F.args_tuple_add_2 _ _)
   (tuple_addW1 t b vs.toArray ws.toArray n n2 dd dd2 sl sl2 (by simpa using hv) (by simp [hw])) ⟨ho,ho2,h1 hw⟩
 ·refine concat_meets ⟨_,ho,rfl⟩ ⟨_,ho2,rfl⟩ noFill_tuple_add seq_tuple_add PySem.F.slot_tuple_add PySem.F.entry_tuple_add (PySem.F.args_tuple_add_2 _ _)
   (tuple_addW2 t b vs.toArray ws.toArray n n2 dd dd2 sl sl2 (by simpa using hv) (by simpa using hw) (by rw [List.size_toArray,List.size_toArray]; exact hsz)) ⟨ho,ho2, ?_⟩
  rw [e]
  exact h2 hw
def sIx (n d:Nat):Option Int->Nat
 | none=>d
 | some v=>if v < 0 then (v+(n:Int)).toNat else min v.toNat n
end
end HT
namespace L2
open PySem PySem.Spec PyProof.Rows
section
variable {X:Cx} {e:Expr} {te:TE} {lo hi:Option Expr} {tl th:TO} {pos p2:Pos}
def SlR (X:Cx) (r:V->Option Int->Option Int->Hp->VK->Prop):Prop:=
 ∀ (pins:List (Addr×Obj)) (s:Shared) (σ:St) (H:Hp) (x:V) (v vl vu:Value) (lo hi:Option Int) (sl:Addr) (Q:VK),Inv X pins σ H s->Zj x v->s.heap.IsSliceOf sl vl vu .none->IsPart vl lo->IsPart vu hi->r x lo hi H Q->
  ∃ T id,typeLookup (.type T) "__getitem__"=pure (some (.builtin id))/\s.TypeIs v T/\wpAny (model X.prog X.w) X.A (getItem v (.ref sl)) (EP X pins σ Q) X.xe s
def V8 (xs:List V) (lo hi:Option Int):List V:=(xs.drop (HT.sIx xs.length 0 lo)).take (HT.sIx xs.length xs.length hi - HT.sIx xs.length 0 lo)
theorem W5 (xs:List V) (lo hi:Option Int):(V8 xs lo hi).length<=xs.length:=by
 unfold V8
 rw [List.length_take,List.length_drop]
 omega
def VG (K:PySem.W.Frag):R2:=fun x y H Q=>∃ a b xs ys,x= .ref a/\y= .ref b/\SqT K H a xs/\SqT K H b ys/\xs ≠ []/\xs.length+ys.length<=sizeLine/\
 (ys=[]->Q (.ref a) H)/\(ys ≠ []->∀ p,H p=none->Q (.ref p) (upd H p (.tup (xs++ys))))
theorem Z3.nil_iff {xs:List V} {us:List Value} (r:Z3 xs us):us=[]↔xs=[]:=by
 cases r with
 | nil=>simp
 | cons _ _=>simp
theorem qr:OpR X (binaryOp .Add) (VG X.K):=by
 intro pins s σ H x y v u Q I rx ry h
 obtain ⟨a,b,xs,ys,rfl,rfl,ha,hb,hx,hz,q1,q2⟩:=h
 cases rx
 cases ry
 obtain ⟨its,r1,p1,_⟩:=I.tuple ha
 obtain ⟨its2,r2,p2,_⟩:=I.tuple hb
 refine HT.cat_tup p1 p2 (fun z=>hx (r1.nil_iff.mp z)) (fun z=>⟨.ref a,H,I,rfl,q1 (r2.nil_iff.mp z)⟩) (fun z=> ?_) (by rw [← r1.length,← r2.length]; exact hz)
 refine ⟨.ref s.heap.objs.size,_,I.laid (t' :=s.toks) (o:= .tup (xs++ys)) (fun b ob q=>Heap.get?_push_of_some _ q) (Nat.le_refl _) ?_,rfl,q2 (fun w=>z (r2.nil_iff.mpr w)) _ (I.hok.fresh (Nat.le_refl _))⟩
 exact ⟨by rw [List.length_append]; exact hz,_,r1.append r2,IsTup.new _ _⟩
end
end L2
namespace L2
open PySem PySem.Spec PyProof.Rows
def ixN (n:Nat) (i:Int):Option Nat:=if 0<=i then (if i < n then some i.toNat else none) else if -(n:Int)<=i then some (i+n).toNat else none
def atI {α:Type} (xs:List α) (i:Int):Option α:=(ixN xs.length i).bind fun j=>xs[j]?
theorem qt {n:Nat} {i:Int} {j:Nat} (h:ixN n i=some j):seqIndex? i n=some j/\j < n/\ -(n:Int)<=i/\i < n:=by
 unfold ixN at h
 by_cases h0:0<=i
 ·rw [if_pos h0] at h
  by_cases h1:i < n
  ·rw [if_pos h1] at h
   have e:i.toNat=j:=Option.some.inj h
   exact ⟨by rw [seqIndex_of h0 h1,e],by omega,by omega,h1⟩
  ·rw [if_neg h1] at h; cases h
 ·rw [if_neg h0] at h
  by_cases h1: -(n:Int)<=i
  ·rw [if_pos h1] at h
   have e:(i+n).toNat=j:=Option.some.inj h
   exact ⟨by rw [seqIndex_neg (by omega) h1,e],by omega,h1,by omega⟩
  ·rw [if_neg h1] at h; cases h
theorem W6 {α:Type} {xs:List α} {i:Int} {v:α} (h:atI xs i=some v):∃ j,seqIndex? i xs.length=some j/\xs[j]? =some v/\j < xs.length/\ -(xs.length:Int)<=i/\i < xs.length:=by
 unfold atI at h
 cases e:ixN xs.length i with
 | none=>rw [e] at h; cases h
 | some j=>
  rw [e] at h
  obtain ⟨h1,h2,h3,h4⟩:=qt e
  exact ⟨j,h1,h,h2,h3,h4⟩
theorem jj {α:Type} {xs:List α} {j:Nat} {v:α} (h:xs[j]? =some v):atI xs (j:Int)=some v:=by
 have hj:j < xs.length:=(List.getElem?_eq_some_iff.mp h).1
 have e:ixN xs.length (j:Int)=some j:=by
  unfold ixN
  rw [if_pos (by omega),if_pos (by omega)]; simp
 unfold atI; rw [e]; exact h
def uQ (b:Expr):Prop:=∀ o i,subscripted b false o i=operate [o,i] (getItem o i)
def IxR (X:Cx) (r:R2):Prop:=
 ∀ (value slice:Expr) (pins:List (Addr×Obj)) (s:Shared) (σ:St) (H:Hp) (x y:V) (v u:Value) (Q:VK),Inv X pins σ H s->Zj x v->Zj y u->r x y H Q->
  subscripted slice false v u=operate [v,u] (getItem v u)->wpAny (model X.prog X.w) X.A (subscriptTail value slice v u) (EP X pins σ Q) X.xe s
def MtR (X:Cx) (id:String) (r:V->List V->Hp->VK->Prop):Prop:=
 ∀ (pins:List (Addr×Obj)) (s:Shared) (σ:St) (H:Hp) (x:V) (xs:List V) (v:Value) (us:List Value) (Q:VK),Inv X pins σ H s->Zj x v->Z3 xs us->r x xs H Q->
  wpAny (model X.prog X.w) X.A (call (.builtin id) (v :: us)) (EP X pins σ Q) X.xe s
section
variable {X:Cx} {a b:Expr} {ta tb:TE} {pos:Pos}
theorem IxR.or {r r' :R2} (h:IxR X r) (h' :IxR X r'):IxR X (fun x y H Q=>r x y H Q\/r' x y H Q):=by
 intro value slice pins s σ H x y v u Q I rx ry q hs
 rcases q with q | q
 ·exact h value slice pins s σ H x y v u Q I rx ry q hs
 ·exact h' value slice pins s σ H x y v u Q I rx ry q hs
theorem VH {r:R2} (hr:IxR X r) (ha:PE X a ta) (hb:PE X b tb) (hs:uQ b):PE X (.Subscript a b pos) (tOp r ta tb):=by
 intro pins s σ H Q I h
 exact Subscript_ (Vx ha hb I h fun v u s2 x y H2 I2 rx ry q=>hr a b pins s2 σ H2 x y v u Q I2 rx ry q (hs _ _))
def xk (K:PySem.W.Frag):R2:=fun x y H Q=>∃ p xs i v,x= .ref p/\y= .int i/\SqL K H p xs/\atI xs i=some v/\Q v H
def xm (K:PySem.W.Frag):R2:=fun x y H Q=>∃ p xs i v,x= .ref p/\y= .int i/\SqT K H p xs/\atI xs i=some v/\Q v H
def xn:R2:=fun x y H Q=>∃ z i c,x= .str z/\y= .int i/\z.length<=sizeLine/\atI z.cps.toList i=some c/\Q (.str ⟨#[c]⟩) H
theorem qu:IxR X (xk X.K):=by
 intro value slice pins s σ H x y v u Q I rx ry h hs
 obtain ⟨p,xs,i,z,rfl,rfl,hq,he,q⟩:=h
 cases rx
 obtain ⟨t,rfl⟩:=ry
 obtain ⟨its,r,pl,hz⟩:=I.list hq
 obtain ⟨j,h1,h2,h3,h4,h5⟩:=W6 he
 obtain ⟨w,ew,rw'⟩:=r.get h2
 have hl:=r.length
 have hn:=Js
 have fin:EP X pins σ Q w s:=⟨z,H,I,rw',q⟩
 by_cases h0:0<=i
 ·have hj:i.toNat=j:=by
   rw [seqIndex_of h0 h5] at h1
   exact Option.some.inj h1
  exact item_listR pl.isList h0 (by omega) (by rw [hj]; simpa using ew) fin hs
 ·have hj:(i+(its.toArray.size:Int)).toNat=j:=by
   rw [seqIndex_neg (by omega) h4] at h1
   rw [List.size_toArray,← hl]
   exact Option.some.inj h1
  exact subscriptTail_builtinR (x:=w) pl.isList.typeIs slot_list_getitem.lookup
   (wpAny_getItem_list_neg (Q:=fun r s' =>r=w/\EP X pins σ Q r s') pl.isList (by omega) (by rw [List.size_toArray] <;> omega) (by omega) (by rw [hj]; simpa using ew) ⟨rfl,fin⟩) hs
theorem va:IxR X (xm X.K):=by
 intro value slice pins s σ H x y v u Q I rx ry h hs
 obtain ⟨p,xs,i,z,rfl,rfl,hq,he,q⟩:=h
 cases rx
 obtain ⟨t,rfl⟩:=ry
 obtain ⟨its,r,pl,hz⟩:=I.tuple hq
 obtain ⟨j,h1,h2,h3,h4,h5⟩:=W6 he
 obtain ⟨w,ew,rw'⟩:=r.get h2
 have hl:=r.length
 have hn:=Js
 have fin:EP X pins σ Q w s:=⟨z,H,I,rw',q⟩
 exact subscriptTail_builtinR (x:=w) pl.typeIs slot_tuple_getitem.lookup
  (getItem_tuple (j:=j) (Q:=fun r s' =>r=w/\EP X pins σ Q r s') pl (by omega) (by omega) (by rw [List.size_toArray,← hl]; exact h1) (by simpa using ew) ⟨rfl,fin⟩) hs
theorem vb:IxR X xn:=by
 intro value slice pins s σ H x y v u Q I rx ry h hs
 obtain ⟨z,i,c,rfl,rfl,hz,he,q⟩:=h
 obtain ⟨t,rfl⟩:=rx
 obtain ⟨t',rfl⟩:=ry
 obtain ⟨j,h1,h2,h3,h4,h5⟩:=W6 he
 have hl:z.cps.toList.length=z.length:=by simp [Str.length]
 rw [hl] at h1 h4 h5
 have hn:=Js
 exact tail_any (typeIs_str s z t) slot_str_getitem.lookup (getItem_str (c:=c) (by
  have e1:decide (i < -(2 ^ 63:Int))=false:=decide_eq_false (by omega)
  have e2:decide (i ≥ 2 ^ 63)=false:=decide_eq_false (by omega)
  rw [e1,e2,Bool.or_false]) (by rw [h1]; simpa using h2) ⟨.str ⟨#[c]⟩,H,I.tok _,⟨_,rfl⟩,q⟩) hs
def rIx (K:PySem.W.Frag):R2:=fun x y H Q=>xk K x y H Q\/xm K x y H Q\/xn x y H Q
theorem vc:IxR X (rIx X.K):=qu.or (va.or vb)
theorem wl (lo hi:Option Int) (n:Nat):(sliceBounds lo hi none n).1=((HT.sIx n 0 lo:Nat):Int)/\(sliceBounds lo hi none n).2.1=((HT.sIx n n hi:Nat):Int)/\(sliceBounds lo hi none n).2.2=1:=by
 refine ⟨?_, ?_,rfl⟩
 ·cases lo with
  | none=>simp [sliceBounds,HT.sIx]
  | some i=>
   simp only [sliceBounds,HT.sIx,Option.getD_none,show (1:Int) > 0 by decide,if_true]
   by_cases h:i < 0
   ·simp only [h,if_true] <;> omega
   ·simp only [h,if_false] <;> omega
 ·cases hi with
  | none=>simp [sliceBounds,HT.sIx]
  | some i=>
   simp only [sliceBounds,HT.sIx,Option.getD_none,show (1:Int) > 0 by decide,if_true]
   by_cases h:i < 0
   ·simp only [h,if_true] <;> omega
   ·simp only [h,if_false] <;> omega
theorem Jz (its:List Value) (lo hi:Option Int):slicePick its.toArray lo hi none=((its.drop (HT.sIx its.length 0 lo)).take (HT.sIx its.length its.length hi - HT.sIx its.length 0 lo)).toArray:=by
 obtain ⟨h1,h2,h3⟩:=wl lo hi its.toArray.size
 unfold slicePick
 rw [h1,h2,h3]
 simp only [sliceRange_one,pick_run,List.size_toArray] <;> rfl
def xS (K:PySem.W.Frag):V->Option Int->Option Int->Hp->VK->Prop:=fun x lo hi H Q=>∃ a xs,x= .ref a/\SqL K H a xs/\∀ p,H p=none->Q (.ref p) (upd H p (.lst (V8 xs lo hi)))
theorem VI:SlR X (xS X.K):=by
 intro pins s σ H x v vl vu lo hi sl Q I rx hs pl pu h
 obtain ⟨a,xs,rfl,hx,q⟩:=h
 cases rx
 obtain ⟨its,r,ht,hz⟩:=I.list hx
 have hlen:=r.length
 refine ⟨"list",_,slot_list_getitem.lookup,ht.isList.typeIs, ?_⟩
 refine wpAny_getItem_list_slice ht.isList hs pl pu .none (by simp) ?_ (by rw [List.size_toArray] <;> omega)
 rw [Jz,← hlen]
 refine ⟨.ref s.heap.objs.size,_,I.laid (t' :=s.toks) (o:= .lst (V8 xs lo hi)) (fun b ob q=>Heap.get?_push_of_some _ q) (Nat.le_refl _) ?_,rfl,q _ (I.hok.fresh (Nat.le_refl _))⟩
 exact ⟨Nat.le_trans (W5 xs lo hi) hz,_,0,(r.drop (HT.sIx xs.length 0 lo)).take (HT.sIx xs.length xs.length hi - HT.sIx xs.length 0 lo),Heap.get?_push_size _ rfl⟩
theorem wm:Zr X (.builtin "len") (fun xs H Q=>∃ p ys,xs=[.ref p]/\(SqL X.K H p ys\/SqT X.K H p ys)/\Q (.int ys.length) H):=by
 intro pins s σ H xs us Q I r h
 obtain ⟨p,ys,rfl,hq,q⟩:=h
 obtain ⟨u,rfl,rx⟩:=ZQ r
 cases rx
 have hn:=Js
 rcases hq with hq | hq
 ·obtain ⟨its,r',pl,hz⟩:=I.list hq
  have hlen:=r'.length
  exact Calls.call_len_list pl.isList (by simp only [List.size_toArray] <;> omega) ⟨.int ys.length,H,I.tok _,⟨s.toks+1,by rw [List.size_toArray,hlen]⟩,q⟩
 ·obtain ⟨its,r',pl,hz⟩:=I.tuple hq
  have hlen:=r'.length
  exact len_tuple pl (by simp only [List.size_toArray] <;> omega) ⟨.int ys.length,H,I.tok _,⟨s.toks+1,by rw [List.size_toArray,hlen]⟩,q⟩
theorem wn:Zr X (.builtin "len") (fun xs H Q=>∃ z,xs=[.str z]/\z.length<=sizeLine/\Q (.int z.length) H):=by
 intro pins s σ H xs us Q I r h
 obtain ⟨z,rfl,hz,q⟩:=h
 obtain ⟨u,rfl,t,rfl⟩:=ZQ r
 have hn:=Js
 exact len_str (by omega) ⟨.int z.length,H,I.tok _,⟨_,rfl⟩,q⟩
theorem Zr.or {f:Value} {r r' :List V->Hp->VK->Prop} (h:Zr X f r) (h' :Zr X f r'):Zr X f (fun xs H Q=>r xs H Q\/r' xs H Q):=by
 intro pins s σ H xs us Q I rs q
 rcases q with q | q
 ·exact h pins s σ H xs us Q I rs q
 ·exact h' pins s σ H xs us Q I rs q
theorem JA:Zr X (.type "tuple") (fun xs H Q=>∃ p ys,xs=[.ref p]/\((SqL X.K H p ys/\∀ l,H l=none->Q (.ref l) (upd H l (.tup ys)))\/(SqT X.K H p ys/\Q (.ref p) H))):=by
 intro pins s σ H xs us Q I r h
 obtain ⟨p,ys,rfl,h⟩:=h
 obtain ⟨u,rfl,rx⟩:=ZQ r
 cases rx
 rcases h with ⟨hq,q⟩ | ⟨hq,q⟩
 ·obtain ⟨its,r',pl,hz⟩:=I.list hq
  have hlen:=r'.length
  refine call_tuple_list pl.isList (fun h' kp=> ?_) (by simp only [List.size_toArray] <;> omega)
  have I1:Inv X pins σ H { s with heap:=h' }:=I.kept (t' :=s.toks) kp
  have I2:Inv X pins σ (upd H h'.objs.size (.tup ys)) { s with heap:=h'.push { cls:= .type "tuple",data:= .seq its.toArray } }:=
   I1.laid (t' :=s.toks) (fun b o e=>Heap.get?_push_of_some _ e) (Nat.le_refl _) (show Zm X.prog X.w _ _ _ (.tup ys) from ⟨hz,its,r',IsTup.new _ _⟩)
  exact ⟨.ref h'.objs.size,_,I2,rfl,q _ (I1.hok.fresh (Nat.le_refl _))⟩
 ·obtain ⟨its,r',pl,hz⟩:=I.tuple hq
  exact call_tuple_same pl ⟨.ref p,H,I,rfl,q⟩
def tyV (K:PySem.W.Frag) (T:String) (x:V) (H:Hp):Prop:=match x with
 | .str _=>T="str"
 | .int _=>T="int"
 | .ref p=>(T="list"/\∃ xs,SqL K H p xs)\/(T="tuple"/\∃ o,K.lookup p=some o/\o.cls= .type "tuple"/\o.dict=none)\/
   (T="dict"/\((∃ kvs,H p=some (.dK kvs))\/∃ kvs,H p=some (.dT kvs)))\/(T="set"/\∃ S n,H p=some (.set S n))
 | _=>False
theorem vd {pins:List (Addr×Obj)} {σ:St} {H:Hp} {s:Shared} {T:String} {x:V} {v:Value} (I:Inv X pins σ H s) (r:Zj x v) (ty:tyV X.K T x H):
  s.TypeIs v T/\∀ a,v= .ref a->∃ ob,s.heap.get? a=some ob/\ob.dict=none:=by
 cases x with
 | str z=>
  obtain ⟨t,rfl⟩:=r
  cases (show T="str" from ty)
  exact ⟨typeIs_str s z t,fun _ e=>nomatch e⟩
 | int i=>
  obtain ⟨t,rfl⟩:=r
  cases (show T="int" from ty)
  exact ⟨typeIs_int s i t,fun _ e=>nomatch e⟩
 | ref p=>
  cases r
  rcases ty with ⟨rfl,xs,hq⟩ | ⟨rfl,o,hk,hc,hd⟩ | ⟨rfl,hk⟩ | ⟨rfl,S,n,hk⟩
  ·obtain ⟨its,_,pl,_⟩:=I.list hq
   refine ⟨pl.isList.typeIs,fun a e=> ?_⟩
   cases e
   obtain ⟨o,n,e,c,hd,_⟩:=pl
   exact ⟨o,e,hd⟩
  ·refine ⟨⟨o,I.kIn p o hk,hc⟩,fun a e=> ?_⟩
   cases e
   exact ⟨o,I.kIn _ o hk,hd⟩
  ·have z:∃ o,s.heap.get? p=some o/\o.ExactDict:=by
    rcases hk with ⟨kvs,hk⟩ | ⟨kvs,hk⟩
    ·obtain ⟨_,_,_,_,o,_,_,e,ex,_⟩:=I.hok p _ hk
     exact ⟨o,e,ex⟩
    ·obtain ⟨_,_,_,_,o,_,_,e,ex,_⟩:=I.hok p _ hk
     exact ⟨o,e,ex⟩
   obtain ⟨o,e,ex⟩:=z
   refine ⟨⟨o,e,ex.1⟩,fun a e2=> ?_⟩
   cases e2
   exact ⟨o,e,ex.2.1⟩
  ·obtain ⟨o,_,_,_,e,ex,_⟩:=I.hok p _ hk
   refine ⟨⟨o,e,ex.1⟩,fun a e2=> ?_⟩
   cases e2
   exact ⟨o,e,ex.2.1⟩
 | _=>exact False.elim ty
def tBM (K:PySem.W.Frag) (T:String) (r:V->List V->Hp->VK->Prop) (to:TE) (t:TA):TE:=fun σ H Q=>to σ H fun x H1=>tyV K T x H1/\t σ H1 fun xs H2=>r x xs H2 Q
variable {o e:Expr} {es:List Expr} {to:TE} {t:TA} {name:Str} {apos cpos:Pos} {T id:String} {r:V->List V->Hp->VK->Prop}
theorem qv (pa:PlainAttrs T) (slot:Slot T name id) (hty:typeOf (.builtin id)=pure (.type "method_descriptor")) (hm:MtR X id r) (ho:PE X o to) (ha:PA X (e :: es) t)
  (hbase:attributeBase o name X.env (eval o X.env)=eval o X.env:=by rfl)
  (hfew:((backTo cpos (starEach (e :: es) X.env)).all (fun x=> !x.1) && (backToKw cpos (keywordEach [] X.env)).all (fun x=>x.1.isSome)
   && decide ((e :: es).length+([]:List Keyword).length+(if ([]:List Keyword).isEmpty then 0 else 1) < 30))=true:=by rfl)
  (hline:(apos.endLine == cpos.line)=true:=by rfl) (hs:starEach (e :: es) X.env=(false,eval e X.env) :: starEach es X.env:=by rfl) (hplain:(backTo cpos (starEach es X.env)).any (·.1)=false:=by rfl):
  PE X (.Call (.Attribute o name apos) (e :: es) [] cpos) (tBM X.K T r to t):=by
 intro pins s σ H Q I h
 refine wpAny_Call_method_late hbase hfew hline rfl (thn (ho pins s σ H _ I h) fun v s1 ⟨x,H1,I1,r1,ty,q1⟩=> ?_)
 obtain ⟨h1,h2⟩:=vd I1 r1 ty
 refine ⟨T,id,pa,slot,hty,h1,h2, ?_⟩
 have hA:=ha cpos pins s1 σ H1 _ I1 q1
 rw [hs] at hA ⊢
 refine Calls.callWith_builtin (by show (false || (backTo cpos (starEach es X.env)).any (·.1))=false; rw [hplain] <;> rfl) (Calls.evalArgs_plain ?_)
 exact thn hA fun us s2 ⟨vs,H2,I2,r2,q2⟩=>hm pins s2 σ H2 x vs v us Q I2 r1 r2 q2
end
end L2
namespace L2
open PySem PySem.Spec PyProof.Rows
def MtM (X:Cx) (id:String) (r:V->List V->Hp->VK->Prop):Prop:=
 ∀ (pins:List (Addr×Obj)) (s:Shared) (σ:St) (H:Hp) (x:V) (xs:List V) (v:Value) (us:List Value) (Q:VK),Inv X pins σ H s->Zj x v->Z3 xs us->r x xs H Q->
  wpAny (model X.prog X.w) X.A (call (.builtin id) (v :: us)) (EP X pins σ Q) X.xe s
theorem Z3.one:∀ {x:V} {us:List Value},Z3 [x] us->∃ u,us=[u]/\Zj x u
 | _,_, .cons r .nil=>⟨_,rfl,r⟩
theorem Z3.rep {xs:List V} {us:List Value} (h:Z3 xs us):∀ k:Nat,Z3 (List.replicate k xs).flatten (List.replicate k us).flatten
 | 0=> .nil
 | k+1=>by
  rw [List.replicate_succ,List.replicate_succ,List.flatten_cons,List.flatten_cons]
  exact Z3.append h (Z3.rep h k)
theorem jd (its:List Value):∀ (k:Nat) (acc:List Value),
  List.foldl (fun x1 x2=>x1++x2) acc.toArray (List.replicate k its.toArray)=(acc++(List.replicate k its).flatten).toArray
 | 0,acc=>by simp
 | k+1,acc=>by
  have e:acc.toArray++its.toArray=(acc++its).toArray:=by simp
  have e2:(acc++its)++(List.replicate k its).flatten=acc++(List.replicate (k+1) its).flatten:=by
   rw [List.replicate_succ,List.flatten_cons,List.append_assoc]
  rw [← e2,← jd its k (acc++its),← e,List.replicate_succ,List.foldl_cons]
section
variable {X:Cx} {pins:List (Addr×Obj)} {σ:St} {H:Hp} {s:Shared} {l b:Addr} {xs ys zs:List V}
theorem Inv.lset {its its' :List Value} {n:Nat} {f:Array Value->Array Value} {t' :Nat} (I:Inv X pins σ H s) (hH:H l=some (.lst xs))
  (e:s.heap.get? l=some { cls:= .type "list",data:= .seq its.toArray n }) (hf:f its.toArray=its'.toArray) (hv:Z3 ys its') (hz:ys.length<=sizeLine):
  Inv X pins σ (upd H l (.lst ys)) { s with heap:=s.heap.update l (Obj.mapSeq f),toks:=t' }:=by
 have q:=PySem.IsL.update e f
 rw [hf] at q
 refine I.write (x:=l) (e:=l) (by rw [hH]; exact trivial) (.inl rfl) (fun b' u hb hu=>(Heap.get?_update_other s.heap (Obj.mapSeq f) (Ne.symm hb)).trans hu) ⟨_,q⟩ ?_
 exact ⟨hz,its',_,hv,q⟩
theorem Inv.lnew {its:List Value} {t' :Nat} (I:Inv X pins σ H s) (hv:Z3 ys its) (hz:ys.length<=sizeLine):
  Inv X pins σ (upd H s.heap.objs.size (.lst ys)) { s with heap:=s.heap.push { cls:= .type "list",data:= .seq its.toArray },toks:=t' }:=
 I.laid (fun _ _ q=>Heap.get?_push_of_some _ q) (Nat.le_refl _) ⟨hz,its,0,hv,Heap.get?_push_size _ rfl⟩
theorem Inv.fresh (I:Inv X pins σ H s):H s.heap.objs.size=none:=I.hok.fresh (Nat.le_refl _)
theorem Inv.lstM (I:Inv X pins σ H s) (hH:H l=some (.lst xs)):xs.length<=sizeLine/\∃ (its:List Value) (n:Nat),Z3 xs its/\xs.length=its.length/\s.heap.get? l=some { cls:= .type "list",data:= .seq its.toArray n }:=by
 obtain ⟨z,its,n,r,e⟩:=I.hok l _ hH
 exact ⟨z,its,n,r,r.length,e⟩
theorem WA {n:Nat} (h:n<=sizeLine):Builtin.List.listTooLong n=false:=by
 unfold Builtin.List.listTooLong
 exact decide_eq_false (by omega)
end
section
variable {X:Cx}
def qw:V->List V->Hp->VK->Prop:=fun x vs H Q=>∃ l xs y,x= .ref l/\vs=[y]/\H l=some (.lst xs)/\xs.length < sizeLine/\Q .non (upd H l (.lst (xs++[y])))
theorem wo:MtM X "list.append" qw:=by
 intro pins s σ H x vs v us Q I rx rv h
 obtain ⟨l,xs,y,rfl,rfl,hH,hz,q⟩:=h
 cases rx
 obtain ⟨u,rfl,ru⟩:=rv.one
 obtain ⟨z,its,n,r,hl,e⟩:=I.lstM hH
 refine call_meets F.slot_list_append ⟨_,e,rfl⟩ F.entry_list_append (F.args_list_append_2 _ _) (PySem.list_append l its.toArray n u (by rw [List.size_toArray]; omega)) ⟨e, ?_⟩
 refine ⟨.non,_,I.lset (its' :=its++[u]) hH e (by simp) (r.append (.cons ru .nil)) ?_,rfl,q⟩
 rw [List.length_append,List.length_singleton]
 omega
def qx:V->List V->Hp->VK->Prop:=fun x vs H Q=>∃ l b xs zs,x= .ref l/\vs=[.ref b]/\H l=some (.lst xs)/\H b=some (.lst zs)/\xs.length+zs.length<=sizeLine/\Q .non (upd H l (.lst (xs++zs)))
theorem uR:MtM X "list.extend" qx:=by
 intro pins s σ H x vs v us Q I rx rv h
 obtain ⟨l,b,xs,zs,rfl,rfl,hH,hB,hz,q⟩:=h
 cases rx
 obtain ⟨u,rfl,ru⟩:=rv.one
 cases ru
 obtain ⟨z,its,n,r,hl,e⟩:=I.lstM hH
 obtain ⟨z2,its2,n2,r2,hl2,e2⟩:=I.lstM hB
 have hsz:its.toArray.size+its2.toArray.size<=sizeLine:=by rw [List.size_toArray,List.size_toArray]; omega
 have hlong:¬ (!its.toArray.isEmpty && Builtin.List.listTooLong (its.toArray.size+its2.toArray.size))=true:=by
  rw [WA hsz,Bool.and_false]
  exact Bool.false_ne_true
 refine call_meets F.slot_list_extend ⟨_,e,rfl⟩ F.entry_list_extend (F.args_list_extend_2 _ _)
  (AutoSeq1.list_extend_list_list_0 l its.toArray n b its2.toArray n2 hlong (by rw [List.size_toArray]; omega) (by omega)) ⟨e,e2, ?_⟩
 refine ⟨.non,_,I.lset (its' :=its++its2) hH e (by simp) (r.append r2) ?_,rfl,q⟩
 rw [List.length_append]
 omega
def xT:R2:=fun x y H Q=>∃ l b xs zs,x= .ref l/\y= .ref b/\H l=some (.lst xs)/\H b=some (.lst zs)/\xs.length+zs.length<=sizeLine/\∀ p,H p=none->Q (.ref p) (upd H p (.lst (xs++zs)))
theorem ve:OpR X (binaryOp .Add) xT:=by
 intro pins s σ H x y v u Q I rx ry h
 obtain ⟨l,b,xs,zs,rfl,rfl,hH,hB,hz,q⟩:=h
 cases rx
 cases ry
 obtain ⟨z,its,n,r,hl,e⟩:=I.lstM hH
 obtain ⟨z2,its2,n2,r2,hl2,e2⟩:=I.lstM hB
 refine PySem.P.add_list e e2 ?_ (by rw [List.size_toArray,List.size_toArray]; omega)
 have ea:its.toArray++its2.toArray=(its++its2).toArray:=by simp
 rw [ea]
 exact ⟨.ref _,_,I.lnew (t' :=s.toks) (r.append r2) (by rw [List.length_append]; omega),rfl,q _ I.fresh⟩
def xU:R2:=fun x y H Q=>∃ l k xs,x= .ref l/\y= .int k/\H l=some (.lst xs)/\ -(2 ^ 63)<=k/\k < 2 ^ 63/\xs.length*k.toNat<=sizeLine/\
 ∀ p,H p=none->Q (.ref p) (upd H p (.lst (List.replicate k.toNat xs).flatten))
theorem JB {α:Type} (xs:List α) (k:Nat):(List.replicate k xs).flatten.length=k*xs.length:=by
 induction k with
 | zero=>simp
 | succ k ih=>rw [List.replicate_succ,List.flatten_cons,List.length_append,ih,Nat.succ_mul,Nat.add_comm]
theorem vf:OpR X (binaryOp .Mult) xU:=by
 intro pins s σ H x y v u Q I rx ry h
 obtain ⟨l,k,xs,rfl,rfl,hH,h1,h2,hz,q⟩:=h
 cases rx
 obtain ⟨t,rfl⟩:=ry
 obtain ⟨z,its,n,r,hl,e⟩:=I.lstM hH
 have hlen:its.toArray.size*k.toNat<=sizeLine:=by rw [List.size_toArray,← hl]; exact hz
 have hcap:¬ its.toArray.size*k.toNat > (2 ^ 63 - 1) / 8:=by
  have:(sizeLine:Nat)<=(2 ^ 63 - 1) / 8:=by decide
  omega
 have hfit:¬ (!Builtin.List.listFitsIndex k)=true:=by
  rw [fitsIndex_both h1 h2]
  exact Bool.false_ne_true
 have hlong:¬ Builtin.List.listTooLong (its.toArray.size*k.toNat)=true:=by
  rw [WA hlen]
  exact Bool.false_ne_true
 have hnew:List.foldl (fun x1 x2=>x1++x2) #[] (List.replicate (if its.toArray.isEmpty=true then 0 else k.toNat) its.toArray)=(List.replicate k.toNat its).flatten.toArray:=by
  have f0:∀ m:Nat,List.foldl (fun x1 x2=>x1++x2) #[] (List.replicate m its.toArray)=(List.replicate m its).flatten.toArray:=fun m=>by
   have:=jd its m []
   rw [List.nil_append] at this
   exact this
  rw [f0]
  cases its with
  | nil=>simp
  | cons a r' =>rw [if_neg (by simp)]
 refine wpAny_binaryOp_repeat_ref (T:="list") (U:="int") (by decide) ⟨_,e,rfl⟩ (fun s' =>typeIs_int s' k t) noFill_list_mul F.fills_int_mul F.slot_int_rmul repeat_list F.slot_int_index.lookup
  (call_meets F.slot_int_rmul (typeIs_int s k t) F.entry_int_rmul (F.args_int_rmul_2 _ _) (int___rmul___int_list k t l its.toArray n)
   ⟨e,rfl,⟨_,e,rfl⟩,call_meets F.slot_list_mul ⟨_,e,rfl⟩ F.entry_list_mul (F.args_list_mul_2 _ _) (AutoListH.list___mul___list_int_3 l its.toArray n k t hfit hcap hlong) ⟨e, ?_⟩⟩)
 rw [hnew]
 exact ⟨.ref _,_,I.lnew (t' :=s.toks) (r.rep k.toNat) (by rw [JB,Nat.mul_comm]; exact hz),rfl,q _ I.fresh⟩
end
section
variable {prog:Program} {w:World} {A:Around} {E:Value->Shared->Prop} {s:Shared}
end
section
variable {X:Cx}
end
end L2
namespace Att
open PySem PySem.W PySem.Calls PyProof.Rows
theorem jI {P:Params} {h:Heap}:∀ (ns:List Int) (vs:List Value),WellAll P h vs (ns.map WData.int)->IntsAre vs ns:=by
 intro ns
 induction ns with
 | nil=>
  intro vs w
  rw [List.map_nil] at w
  cases w
  exact .nil
 | cons n ns ih=>
  intro vs w
  rw [List.map_cons] at w
  cases w with
  | cons a b=>
   cases a
   exact .cons _ _ (ih _ b)
theorem uS {l:OpenLaw} {n:Nat} (hn:l.most=some n) {P:Params} {h:Heap} {args:List WData} {vals:List Value}
  (hpre:l.row.toRowW.claim.pre args=true) (hwl:WellAll P h vals args):
  ∃ a vs ns,vals=[Value.ref a]/\args=[WData.list (ns.map WData.int)]/\h.get? a=some { cls:= .type "list",data:= .seq vs.toArray }/\IntsAre vs ns/\ns.length<=n:=by
 have hsh:WShape.hasAll [] args [.list .int]=true:=(pre_splitW hpre).1
 have hc:l.pre.holds [] { args:=args }=true:=(pre_splitW hpre).2
 obtain ⟨d,r,rfl,h1,h2⟩:=hasAllW_cons hsh
 obtain rfl:=hasAllW_nil h2
 obtain ⟨xs,rfl,h3⟩:=hasW_list h1
 obtain ⟨ns,rfl⟩:=items_int h3
 have hlen:ns.length<=n:=by
  unfold OpenLaw.pre at hc
  have h4:(WTm.not (.lt (.lit (.int (n:Int))) (.len (.arg 0)))).holds [] { args:=[.list (ns.map .int)] }=true:=by
   have h4:=(holds_andW hc).1
   rw [hn] at h4
   exact h4
  have h5:=condW_of h4 (w_not (w_lt w_lit (w_len_list (w_arg rfl))))
  rw [List.length_map] at h5
  refine Nat.le_of_not_lt fun q=> ?_
  have q' :(n:Int) < ((ns.length:Nat):Int):=by omega
  first
   | (rw [decide_eq_true q'] at h5; exact absurd h5 (by decide))
   | (simp at h5; omega)
 cases hwl with
 | cons w1 w2=>
  cases w2
  cases w1 with
  | list ho hall=>exact ⟨_,_,ns,rfl,rfl,ho,jI ns _ hall,hlen⟩
theorem uT (l:OpenLaw) (args:List WData):l.row.toRowW.claim.post args (.bool true) args=true:=
 postW_of (r:=l.row.toRowW) (X:=(true == true))
  (show WShape.has [] (.bool true) .bool=true by first | rfl | decide | simp [WShape.has,WShape.arms,WShape.armsAll])
  (show (WTm.eq .res (.lit (.bool true))).value [] { args:=args,res:=some (.bool true),after:=args }=some (.bool (true == true)) from w_eq_bool (w_res rfl) w_lit) rfl
theorem attach_call {l:OpenLaw} {n:Nat} {q:Program} {loose:List Str} {XP:(Str->Option Value)->Heap->Prop} {YP:World->Heap->Prop} {d:DefRec}
  (hn:l.most=some n) (hdf:d.params.defaults=[])
  (call:∀ (w:World) (s₀ s₁:Shared) (mg mb:Str->Option Value) (fa:Addr) (o:Obj) (pm cd doc:Value) (a:Addr) (vs:List Value) (ns:List Int),
   Ground q loose [] XP w s₀ mg mb s₁.heap->YP w s₁.heap->
   s₁.heap.get? fa=some o->o.data= .func (docDef d.name d.params d.body d.scope pm cd doc)->s₁.heap.CodeRec cd d.name->mg d.name=some (.ref fa)->
   s₁.heap.get? a=some { cls:= .type "list",data:= .seq vs.toArray }->IntsAre vs ns->ns.length<=n->s₁.gens= #[]->
   codeAny (model l.prog w) callerA (.call (.ref fa) ⟨[.ref a],[]⟩) (fun r s' =>r= .ok (.ret (.bool true))/\OldK s₁.heap s'.heap/\s'.os=s₁.os/\AllBare s'.gens) s₁):
  WalkO q loose XP YP l.row.toRowW d [] (fun f vs=>PySem.call f vs):=by
 intro w s₀ s₁ mg mb G Y fa o pm cd doc dV kV ho hd hcd hD hmg hg args vals as hpre hlay hrd hwl hlo
 obtain rfl:dV= .none:=Dflts.none hD hdf
 obtain rfl:kV= .none:=Dflts.noKw hD
 obtain ⟨a,vs,ns,rfl,rfl,hobj,hints,hlen⟩:=uS hn hpre hwl
 refine enter_call (codeAny_mono (call w s₀ s₁ mg mb fa o pm cd doc a vs ns G Y ho (fd_plain hd) hcd hmg hobj hints hlen hg) fun r s' hq=> ?_)
 obtain ⟨rfl,h2,h3,h4⟩:=hq
 exact ⟨.inl ⟨.bool true, .bool true,[],rfl,fun _=>rfl, .bool true,uT l _,fun _=>⟨List.Pairwise.nil,fun _ hm=>(nomatch hm)⟩⟩,h2,h3,h4⟩
section
variable {prog:Program} {w:World} {A:Around} {E:Value->Shared->Prop} {s:Shared} {K:Frag}
end
end Att
namespace L2
open PySem PySem.Spec PyProof.Rows
theorem wp:∀ {vs:List Value} {ns:List Int},IntsAre vs ns->Z3 (ns.map V.int) vs
 | _,_, .nil=> .nil
 | _,_, .cons n t h=> .cons ⟨t,rfl⟩ (wp h)
def V9 (H:Hp):Prop:=∀ b,H b=none\/∃ o xs,H b=some (.frz o (.lst xs))
theorem yJ {P:Program} {w:World} {K:PySem.W.Frag} {mg mb:Str->Option Value} {CX:CXT} {k:Nat} {fa a:Addr} {fd:FuncData} {x:Str} {sp:Sp} {s₁:Shared} {vs:List Value} {ns:List Int}
  (KX:K.In s₁.heap) (hns:s₁.heap.Ns mainGlobals mg) (hb:s₁.heap.Ns builtinsNs mb) (hbb:∀ x:Str,x ≠ "__name__"->mb x=bootBuiltins x) (hlim:s₁.heap.NoLimit) (hg:s₁.gens= #[])
  (ha:s₁.heap.get? a=some { cls:= .type "list",data:= .seq vs.toArray }) (hi:IntsAre vs ns) (hl:ns.length<=sizeLine) (hr:ju k callerA)
  (F:∀ base:Heap,K.In base->base.Ns mainGlobals mg->ZA P w K mg base CX k fa fd [x] sp) (hbind:∀ (s:Shared) (u:Value),BindsTo s fd ⟨[u],[]⟩ [(x,u)])
  (hsp:∀ H:Hp,V9 H->SqL K H a (ns.map V.int)->sp [.ref a] H (fun v _=>v= .bl true) fun _ _ _=>False)
  (hCX:∀ H e s',CX [] H s₁ (fun _ _ _=>False) e s' ->False):
  codeAny (model P w) callerA (.call (.ref fa) ⟨[.ref a],[]⟩) (fun r s' =>r= .ok (.ret (.bool true))/\OldK s₁.heap s'.heap/\s'.os=s₁.os/\AllBare s'.gens) s₁:=by
 have rv:=wp hi
 have lenV:=hi.length
 have core:∀ H:Hp,V9 H->SqL K H a (ns.map V.int)->HOk P w H s₁.heap->(∀ b,H b ≠ none->b=a)->(H a ≠ none->K.lookup a=none)->
   codeAny (model P w) callerA (.call (.ref fa) ⟨[.ref a],[]⟩) (fun r s' =>r= .ok (.ret (.bool true))/\OldK s₁.heap s'.heap/\s'.os=s₁.os/\AllBare s'.gens) s₁:=by
  intro H hO hS hok hA hK
  have base_of:∀ {b:Addr} {o:Obj},s₁.heap.get? b=some o->H b=none->(yA s₁.heap H).get? b=some o:=fun e n=>yB e n
  have noA:∀ {b:Addr} {o:Obj} {es:Array DictEntry} {ep:Nat},s₁.heap.get? b=some o->o.data= .dict es ep->H b=none:=fun {b o es ep} e d=>by
   cases q:H b with
   | none=>rfl
   | some u=>
    have e' :b=a:=hA b (by rw [q]; simp)
    subst e'
    rw [ha] at e; cases e
    have d' :Data.seq vs.toArray _=Data.dict es ep:=d
    cases d'
  have nsK:∀ {b:Addr} {m:Str->Option Value},s₁.heap.Ns b m->(yA s₁.heap H).Ns b m:=fun {b m} ⟨o,es,ep,e,d,r⟩=>⟨o,es,ep,base_of e (noA e d),d,r⟩
  have hKb:K.In (yA s₁.heap H):=fun b o e=>base_of (KX b o e) (by
   cases q:H b with
   | none=>rfl
   | some u=>
    have e' :b=a:=hA b (by rw [q]; simp)
    subst e'
    rw [hK (by rw [q]; simp)] at e; cases e)
  have hM:Mod K mg (yA s₁.heap H):=⟨hKb,nsK hns,⟨mb,nsK hb,hbb⟩,let ⟨mc,h1,h2⟩:=hlim; ⟨mc,nsK h1,h2⟩⟩
  have e0:V7 P w K mg (yA s₁.heap H) callerA [] s₁ H:=⟨rfl,hM,fun b o e=>qd e,Nat.le_of_eq (uC _ _),trivial,fun b hb=>absurd (show b∈([]:List Addr) from hb) (by simp),hok, .of_eq hg⟩
  refine codeAny_mono ((F _ hKb (nsK hns)).run callerA [] s₁ H ⟨[.ref a],[]⟩ [.ref a] [.ref a] _ _ hr e0 (hbind s₁ (.ref a)) (.cons rfl .nil) (hsp H hO hS)) fun r s' h=> ?_
  cases r with
  | error e=>exact (hCX H e s' h).elim
  | ok fl=>
   cases fl with
   | next=>exact False.elim h
   | brk=>exact False.elim h
   | cont=>exact False.elim h
   | ret u=>
    obtain ⟨v,H',os,bare,un,hok',r',q⟩:=h
    have q' :v= .bl true:=q
    subst q'
    obtain rfl:u=Value.bool true:=r'
    refine ⟨rfl,OldK.of_keep fun b o e=> ?_,os,bare⟩
    cases q:H b with
    | none=>exact un.keep b o e q (by intro z; exact absurd (show b∈([]:List Addr) from z) (by simp)) (by simp)
    | some u=>
     rcases hO b with z | ⟨ob,xs,z⟩
     ·rw [q] at z; cases z
     ·have z2:=un.frzs b ob _ z
      obtain ⟨e1,_⟩:=hok b _ z
      obtain ⟨e2,_⟩:=hok' b _ z2
      rw [e] at e1; cases e1
      exact e2
 cases hk:K.lookup a with
 | some o=>
  have e:=KX a o hk
  rw [ha] at e
  cases e
  refine core (fun _=>none) (fun _=> .inl rfl) (.inr ⟨_,vs.toArray,_,hk,rfl,rfl,rfl,by rw [List.size_toArray,lenV]; exact hl,by simpa using rv⟩) (fun b u z=>by have z' :(none:Option HO)=some u:=z; cases z') (fun b z=>absurd rfl z) fun z=>absurd rfl z
 | none=>
  refine core (fun b=>if b=a then some (.frz { cls:= .type "list",data:= .seq vs.toArray } (.lst (ns.map V.int))) else none) (fun b=> ?_) (.inl (.inr ⟨{ cls:= .type "list",data:= .seq vs.toArray },if_pos rfl⟩)) (fun b u z=> ?_) (fun b z=> ?_) fun _=>hk
  ·by_cases hb:b=a
   ·exact .inr ⟨_,_,if_pos hb⟩
   ·exact .inl (if_neg hb)
  ·by_cases hb:b=a
   ·have z' :=(if_pos hb).symm.trans z
    cases z'
    subst hb
    exact ⟨ha,by rw [List.length_map]; exact hl,vs,_,rv,ha⟩
   ·have z' :=(if_neg hb).symm.trans z
    cases z'
  ·by_cases hb:b=a
   ·exact hb
   ·exact absurd (if_neg hb) z
end L2
namespace L2
open PySem PySem.Spec PyProof.Rows
theorem walk_of {l:PySem.W.OpenLaw} {n k:Nat} {q:Program} {loose:List Str} {XP:(Str->Option Value)->Heap->Prop} {YP:World->Heap->Prop} {d:DefRec} {K:Params->PySem.W.Frag} {CX:World->CXT} {sp:World->Sp} {x:Str}
  (hn:l.most=some n) (hn2:n<=sizeLine) (hdf:d.params.defaults=[]) (hr:ju k callerA)
  (hY:∀ (w:World) (h:Heap),YP w h->(K w.params).In h)
  (F:∀ (w:World) (mg:Str->Option Value) (fa:Addr) (h:Heap),(K w.params).In h->h.Ns mainGlobals mg->mg d.name=some (.ref fa)->
   ∃ fd:FuncData,(∀ (s:Shared) (u:Value),BindsTo s fd ⟨[u],[]⟩ [(x,u)])/\
    ∀ base:Heap,(K w.params).In base->base.Ns mainGlobals mg->ZA l.prog w (K w.params) mg base (CX w) k fa fd [x] (sp w))
  (hsp:∀ (w:World) (H:Hp) (a:Addr) (ns:List Int),ns.length<=n->V9 H->SqL (K w.params) H a (ns.map V.int)->sp w [.ref a] H (fun v _=>v= .bl true) fun _ _ _=>False)
  (hCX:∀ (w:World) (H:Hp) (s:Shared) (e:Value) (s' :Shared),CX w [] H s (fun _ _ _=>False) e s' ->False):
  PySem.W.WalkO q loose XP YP l.row.toRowW d [] (fun f vs=>PySem.call f vs):=by
 refine Att.attach_call hn hdf fun w s₀ s₁ mg mb fa o pm cd doc a vs ns G Y ho hd hcd hmg hobj hints hlen hg=> ?_
 have KX:=hY w _ Y
 obtain ⟨fd,hb,hF⟩:=F w mg fa _ KX G.T.g hmg
 exact yJ KX G.T.g G.T.b G.T.builtins G.T.nolimit hg hobj hints (Nat.le_trans hlen hn2) hr hF hb (fun H hO hS=>hsp w H a ns hlen hO hS) fun H e s' =>hCX w H s₁ e s'
end L2
namespace L2
open PySem PySem.Spec PyProof.Rows
def ZT (s:Stmt):Arguments:=match s with
 | .FunctionDef _ a _ _ _ _ _ _ _ _=>a
 | _=>{ posonlyargs:=[],args:=[],vararg:=none,kwonlyargs:=[],kw_defaults:=[],kwarg:=none,defaults:=[] }
def Zs (s:Stmt):List Stmt:=match s with
 | .FunctionDef _ _ b _ _ _ _ _ _ _=>b
 | _=>[]
def z9 (s:Stmt):Scope:=match s with
 | .FunctionDef _ _ _ _ _ _ sc _ _ _=>sc
 | _=>{ kind:= .function,names:=[],isGenerator:=false,isCoroutine:=false }
abbrev CX0:CXT:=fun _ _ _ _ _ _=>False
structure Fun (K:PySem.W.Frag) (x qual:Str) (st:Stmt) (f:Addr) (fd:FuncData):Prop where
 ex:∃ (oc:Value) (od:Option Addr) (kV doc pm:Value) (an:Option Addr) (cdv ct:Value) (osl:Array (Option Value)),
  fd=PySem.W.fnOf x qual (ZT st) (Zs st) (z9 st) .none kV doc pm an cdv ct/\K.lookup f=some ⟨oc,od, .func fd,osl⟩/\PySem.W.codeIn K cdv qual=true
 kp:PySem.W.keepIn K (.ref f)=true
section
variable {P:Program} {w:World} {K:PySem.W.Frag} {mg:Str->Option Value} {base:Heap}
theorem Fun.ok {x qual:Str} {st:Stmt} {f:Addr} {fd:FuncData} {N ps:List Str} {k:Nat} {sp:Sp} (F:Fun K x qual st f fd) (S:zf N ps (z9 st)) (len:∀ vs H Q E,sp vs H Q E->vs.length=ps.length)
  (hbody:∀ (cdv:Value) (A:Around) (outer:List Env) (s:Shared) (H:Hp) (vs:List V) (Q:VK) (E:XK),ju k (A.deeper (envOfC qual (z9 st) s.heap.objs.size f cdv))->sp vs H Q E->
   ∃ t,PSs (Jf CX0 P w K mg base N qual (z9 st) f cdv A outer s H E).nox (Zs st) t/\t { nx:=fun _ H' =>Q .non H',rt:=Q } (start N vs) H):ZA P w K mg base CX0 (k+1) f fd ps sp:=by
 obtain ⟨oc,od,kV,doc,pm,an,cdv,ct,osl,rfl,lk,hcd⟩:=F.ex
 refine v9 lk hcd S len fun A outer s H vs Q E hr hsp=> ?_
 obtain ⟨t,h,q⟩:=hbody cdv A outer s H vs Q E hr hsp
 exact ⟨t,h.nox,q⟩
theorem Fun.binds {x qual:Str} {st:Stmt} {f:Addr} {fd:FuncData} {ps:List Str} (F:Fun K x qual st f fd)
  (h:∀ (kV doc pm:Value) (an:Option Addr) (cdv ct:Value) (us:List Value),us.length=ps.length->bindArgs (PySem.W.fnOf x qual (ZT st) (Zs st) (z9 st) .none kV doc pm an cdv ct) ⟨us,[]⟩=pure (ps.zip us)):Binds K fd ps []:=by
 obtain ⟨oc,od,kV,doc,pm,an,cdv,ct,osl,rfl,lk,hcd⟩:=F.ex
 exact .all (h kV doc pm an cdv ct)
theorem vg {x qual:Str} {st:Stmt} {f:Addr} {oc:Value} {od an:Option Addr} {osl:Array (Option Value)} {kV doc pm cdv ct:Value} (l:K.lookup f=some ⟨oc,od, .func (PySem.W.fnOf x qual (ZT st) (Zs st) (z9 st) .none kV doc pm an cdv ct),osl⟩)
  (c:PySem.W.codeIn K cdv qual=true) (k:PySem.W.keepIn K (.ref f)=true):Fun K x qual st f (PySem.W.fnOf x qual (ZT st) (Zs st) (z9 st) .none kV doc pm an cdv ct):=⟨⟨oc,od,kV,doc,pm,an,cdv,ct,osl,rfl,l,c⟩,k⟩
end
section
variable {X:Cx}
theorem pv (i:Nat) {x:Str} {pos:Pos} (hN:X.N[i]? =some x:=by rfl) (hv:Vis X.env.scope x:=by first | exact Or.inl rfl | exact Or.inr (Or.inl rfl) | exact Or.inr (Or.inr rfl)) (hd:(x == ("__debug__":Str))=false:=by decide)
  (hcd:(x == ("__classdict__":Str))=false:=by decide):PE X (.Name x pos) (qe i):=QH hN hv hd hcd
end
def zp (H H' :Hp):Prop:=∀ b o,H b=some o->H' b=some o
theorem zp.refl (H:Hp):zp H H:=fun _ _ h=>h
theorem zp.trans {H H1 H2:Hp} (a:zp H H1) (b:zp H1 H2):zp H H2:=fun c o h=>b c o (a c o h)
theorem zp.free {H H' :Hp} (e:zp H H') {l:Addr} (h:H' l=Option.none):H l=Option.none:=by
 cases q:H l with
 | none=>rfl
 | some o=>
  rw [e l o q] at h
  cases h
end L2
namespace L2
open PySem PySem.Spec PyProof.Rows PySem.W
theorem WB {env:Env} {outer:List Env} {L:Addr} (h:env.frame=some L):frs (env :: outer)=L :: frs outer:=by
 unfold frs; rw [List.filterMap_cons,h]
structure qy (P:Program) (w:World) (outer:List Env) (H:Hp) (s s' :Shared) (ea:Addr) (cls a0:Value) (B:Heap) (H' :Hp):Prop where
 os:s'.os=s.os
 bare:AllBare s'.gens
 fly:Heap.FlyingW B outer ea cls a0 s'.heap
 hok:HOk P w H' B
 un:Un (frs outer) [] H H' s.heap s'.heap
 inB:∀ b o,s.heap.get? b=some o->b ∉ frs outer->(H b=none->B.get? b=some o)/\∃ o',B.get? b=some o'
def CX1 (P:Program) (w:World):CXT:=fun outer H s E e s' =>∃ ea cls a0 B H',e= .ref ea/\qy P w outer H s s' ea cls a0 B H' /\E cls none H'
section
variable {X:Cx} {pins:List (Addr×Obj)} {σ:St} {H H' :Hp} {s s' :Shared} {ea:Addr} {cls a0:Value} {B:Heap} {h' h'' :Heap}
theorem Inv.frNf (I:Inv X pins σ H s):∀ b∈frs X.stack,H b=none/\∃ o,s.heap.get? b=some o/\∀ vs,o.data ≠ .fields vs:=fun b hb=>⟨I.stkFree b hb,(I.stack.mem hb).2⟩
theorem Inv.old (I:Inv X pins σ H s) {b:Addr} {o:Obj} (hX:X.stack=X.env :: X.outer) (hf:X.env.frame=some X.env.locals) (e:X.s₀.heap.get? b=some o) (hb:b ∉ frs X.outer):b ∉ frs X.stack:=by
 rw [hX,WB hf]
 intro z
 rcases List.mem_cons.mp z with z | z
 ·exact absurd (Nat.lt_of_lt_of_le (Heap.lt_size e) I.ok.above) (by rw [z]; exact Nat.lt_irrefl _)
 ·exact hb z
theorem W7 {X:Cx} (hX:X.stack=X.env :: X.outer) (hf:X.env.frame=some X.env.locals) {b:Addr} (hb:b∈frs X.outer):b∈frs X.stack:=by
 rw [hX,WB hf]; exact List.mem_cons_of_mem _ hb
theorem qy.out (I:Inv X pins σ H s) (hX:X.stack=X.env :: X.outer) (hf:X.env.frame=some X.env.locals) (hex:X.ex=[]) (L:qy X.prog X.w X.stack H s s' ea cls a0 B H')
  (fl:Heap.FlyingW B X.outer ea cls a0 h') (sl:s'.heap.UpToSlots h'):qy X.prog X.w X.outer X.H₀ X.s₀ { s' with heap:=h' } ea cls a0 B H' where
 os:=L.os.trans I.os
 bare:=L.bare
 fly:=fl
 hok:=L.hok
 inB:=fun b o e hb=>by
  have nx:b ∉ X.ex:=by rw [hex]; simp
  obtain ⟨o1,e1⟩:=I.base.there b o e nx
  have hb' :=I.old hX hf e hb
  exact ⟨fun n=>(L.inB b o (I.base.keep b o e n hb nx) hb').1 (I.base.free b o e n nx),(L.inB b o1 e1 hb').2⟩
 un:=by
  have nx:∀ b,b ∉ X.ex:=fun b=>by rw [hex]; simp
  have slot:∀ b o,X.s₀.heap.get? b=some o->X.H₀ b=none->b∈frs X.outer->∃ sl,h'.get? b=some { o with slots:=sl }:=fun b o e n hb=>by
   obtain ⟨sl1,e1⟩:=I.base.slot b o e n hb (nx b)
   have n1:=I.base.free b o e n (nx b)
   obtain ⟨sl2,e2⟩:=L.un.slot b _ e1 n1 (W7 hX hf hb) (by simp)
   obtain ⟨_,o3,e3,nf⟩:=I.frNf b (W7 hX hf hb)
   rw [e1] at e3; cases e3
   obtain ⟨sl4,e4⟩:=sl b _ e2 nf
   exact ⟨sl4,e4⟩
  refine ⟨fun b o e n hb _=> ?_,fun b o e n hb _=>slot b o e n hb,fun b o e n _=> ?_,fun b o e _=> ?_,fun b xs e=>L.un.tups b xs (I.base.tups b xs e),fun b o xs e=>L.un.frzs b o xs (I.base.frzs b o xs e),fun b ps e=> ?_⟩
  ·exact fl.1 b o ((L.inB b o (I.base.keep b o e n hb (nx b)) (I.old hX hf e hb)).1 (I.base.free b o e n (nx b)))
  ·obtain ⟨o1,e1⟩:=I.base.there b o e (nx b)
   exact L.un.free b o1 e1 (I.base.free b o e n (nx b)) (by simp)
  ·by_cases hb:b∈frs X.outer
   ·obtain ⟨sl1,e1⟩:=slot b o e (I.ok.frf b hb) hb
    exact ⟨_,e1⟩
   ·obtain ⟨o1,e1⟩:=I.base.there b o e (nx b)
    obtain ⟨o',e'⟩:=(L.inB b o1 e1 (I.old hX hf e hb)).2
    exact ⟨o',fl.1 b o' e'⟩
  ·obtain ⟨m1,e1⟩:=I.base.tbls b ps e
   obtain ⟨m2,e2⟩:=L.un.tbls b _ e1
   exact ⟨m1++m2,by rw [e2,Array.append_assoc]⟩
theorem qy.made (I:Inv X pins σ H s) (hX:X.stack=X.env :: X.outer) (hf:X.env.frame=some X.env.locals) (hex:X.ex=[]) {vs:List Value} (hx:Heap.MadeExcOf s.heap h' ea cls vs)
  (fl:Heap.FlyingW (hideAll s.heap (frs X.stack)) X.outer ea cls a0 h'') (sl:h'.UpToSlots h''):qy X.prog X.w X.outer X.H₀ X.s₀ { s with heap:=h'' } ea cls a0 (hideAll s.heap (frs X.stack)) H where
 os:=I.os
 bare:=I.bare
 fly:=fl
 hok:=fun a o e=>(I.hok a o e).stay (fun b u hb q=>hideAll_get _ q fun z=>by
   have:=I.stkFree b z
   rcases hb with rfl | hb
   ·rw [e] at this; cases this
   ·rw [hb] at this; cases this) (fun _ q=>q) fun _ _ q=>q
 inB:=fun b o e hb=>by
  have nx:b ∉ X.ex:=by rw [hex]; simp
  obtain ⟨o1,e1⟩:=I.base.there b o e nx
  have hb' :=I.old hX hf e hb
  exact ⟨fun n=>hideAll_get _ (I.base.keep b o e n hb nx) hb',o1,hideAll_get _ e1 hb'⟩
 un:=by
  have nx:∀ b,b ∉ X.ex:=fun b=>by rw [hex]; simp
  have slot:∀ b o,X.s₀.heap.get? b=some o->X.H₀ b=none->b∈frs X.outer->∃ sl,h''.get? b=some { o with slots:=sl }:=fun b o e n hb=>by
   obtain ⟨sl1,e1⟩:=I.base.slot b o e n hb (nx b)
   obtain ⟨_,o3,e3,nf⟩:=I.frNf b (W7 hX hf hb)
   rw [e1] at e3; cases e3
   obtain ⟨sl4,e4⟩:=sl b _ (hx.keeps b _ e1) nf
   exact ⟨sl4,e4⟩
  refine ⟨fun b o e n hb _=> ?_,fun b o e n hb _=>slot b o e n hb,fun b o e n _=>I.base.free b o e n (nx b),fun b o e _=> ?_,I.base.tups,I.base.frzs,I.base.tbls⟩
  ·exact fl.1 b o (hideAll_get _ (I.base.keep b o e n hb (nx b)) (I.old hX hf e hb))
  ·by_cases hb:b∈frs X.outer
   ·obtain ⟨sl1,e1⟩:=slot b o e (I.ok.frf b hb) hb
    exact ⟨_,e1⟩
   ·obtain ⟨o1,e1⟩:=I.base.there b o e (nx b)
    exact ⟨o1,fl.1 b o1 (hideAll_get _ e1 (I.old hX hf e hb))⟩
end
section
variable {P:Program} {w:World} {K:Frag} {mg:Str->Option Value} {base:Heap} {N:List Str} {qual:Str} {scope:Scope} {f:Addr} {cd:Value} {A:Around} {outer:List Env} {s:Shared} {H:Hp} {E:XK}
theorem Jg:jH (CX1 P w) (Jf (CX1 P w) P w K mg base N qual scope f cd A outer s H E) E:=by
 intro pins σ H1 s1 e s' I ⟨ea,cls,a0,B,H',he,L,hE⟩
 subst he
 exact wpAny_leaves_onW (base:=B) I.ok.frames rfl L.fly fun h' fl sl=>⟨ea,cls,a0,B,H',rfl,L.out I rfl rfl rfl fl sl,hE⟩
theorem uU {x:Str} {C:Addr} {bm bmN:List Value} {Bn Bb newId nid initId inN:String} {np cpos pos:Pos} {e:Expr} {t:TA} (O:OwnCls x C bm newId mg base) (Fn:ExcBaseFacts Bn newId inN bmN) (hBn:bm.contains (.type Bn)=true) (FB:ExcBaseFacts Bb nid initId bm)
  (hg:Gl (Jf (CX1 P w) P w K mg base N qual scope f cd A outer s H E) x) (ha:PA (Jf (CX1 P w) P w K mg base N qual scope f cd A outer s H E) [e] t)
  (he:starEach [e] (envOfC qual scope s.heap.objs.size f cd)=[(false,eval e (envOfC qual scope s.heap.objs.size f cd))]) (hd:(x == ("__debug__":Str))=false:=by decide):
  PS (Jf (CX1 P w) P w K mg base N qual scope f cd A outer s H E) (.Raise (some (.Call (.Name x np) [e] [] cpos)) none pos) (fun _ σ H1=>t σ H1 fun vs H2=>vs.length<=sizeLine/\E (.ref C) none H2):=by
 intro pins s1 σ H1 D I hw
 obtain ⟨tl,N',nm,q,bs,hdct,sn,sub,ab,col,dd,k0,k1,k2,k3,k5,mN,hC,hN,hni,T⟩:=O.obj
 have hp:(backTo cpos (starEach [e] (envOfC qual scope s.heap.objs.size f cd))).any (·.1)=false:=by rw [he]; rfl
 refine wpAny_Raise_call_subU (C:=C) (nm:=nm) (q:=q) (N:=N') (bs:=bs) (bm:=tl) (hdct:=hdct) (sn:=sn) (sub:=sub) (ab:=ab) (col:=col) (dd:=dd) (k0:=k0) (k1:=k1) (k2:=k2) (k3:=k3) (k5:=k5)
  Fn hBn FB (mN:=mN) (T.hasType FB.hasBase) (I.ok.hd rfl) hp hni (W3 I hg O.bound ⟨rfl, ?_⟩ hd)
 have h2:=ha cpos pins s1 σ H1 _ I hw
 have he' :starEach [e] (Jf (CX1 P w) P w K mg base N qual scope f cd A outer s H E).env=[(false,eval e (Jf (CX1 P w) P w K mg base N qual scope f cd A outer s H E).env)]:=he
 rw [he'] at h2 ⊢
 refine Calls.evalArgs_plain (thn h2 fun us s2 ⟨vs,H2,I2,r,hl,hE⟩=>⟨rfl,by rw [← r.length]; exact hl,I2.bk _ _ hC,hN.keeps I2.bk,T.keeps I2.bk,fun h' ea hx=> ?_⟩)
 have hin:∀ env∈(Jf (CX1 P w) P w K mg base N qual scope f cd A outer s H E).stack,∀ b,env.frame=some b->b∈frs (Jf (CX1 P w) P w K mg base N qual scope f cd A outer s H E).stack:=fun env he b hb=>List.mem_filterMap.mpr ⟨env,he,hb⟩
 exact wpAny_leaves_madeW (base:=hideAll s2.heap (frs (Jf (CX1 P w) P w K mg base N qual scope f cd A outer s H E).stack)) (h:=s2.heap) I2.ok.frames rfl (fun b o q=>of_hideAll _ q) (funFrames_hide I2.stack hin) hx fun h'' t' fl _ _ sl=>
  ⟨ea, .ref C, .ref t',_,H2,rfl,qy.made I2 rfl rfl rfl hx fl sl,hE⟩
end
end L2
namespace L2
open PySem PySem.Spec PyProof.Rows PySem.W
def xV (cls:Value) (a:Addr) (h:Heap):Prop:=∃ o,h.get? a=some o/\o.cls=cls
section
variable {X:Cx} {pins pins' :List (Addr×Obj)} {σ:St} {H H' :Hp} {s s' :Shared} {xe:Value->Shared->Prop}
end
section
variable {prog:Program} {w:World} {A:Around} {E:Value->Shared->Prop} {s:Shared} {env:Env}
end
end L2
namespace L2
open PySem PySem.Spec PyProof.Rows PySem.W
section
variable {X:Cx} {pins:List (Addr×Obj)} {σ:St} {H H' :Hp} {s s' :Shared} {ea:Addr} {cls a0:Value} {B:Heap} {h3:Heap}
end
end L2
namespace L2
open PySem PySem.Spec PyProof.Rows
theorem PE.imp {X:Cx} {e:Expr} {t t' :TE} (h:PE X e t) (i:∀ σ H Q,t' σ H Q->t σ H Q):PE X e t' :=fun pins s σ H Q I q=>h pins s σ H Q I (i σ H Q q)
theorem PT.imp {X:Cx} {e:Expr} {t t' :TT} (h:PT X e t) (i:∀ σ H Q,t' σ H Q->t σ H Q):PT X e t' :=fun pins s σ H Q I q=>h pins s σ H Q I (i σ H Q q)
theorem PA.imp {X:Cx} {e:List Expr} {t t' :TA} (h:PA X e t) (i:∀ σ H Q,t' σ H Q->t σ H Q):PA X e t' :=fun pos pins s σ H Q I q=>h pos pins s σ H Q I (i σ H Q q)
theorem PS.imp {X:Cx} {e:Stmt} {t t' :TS} (h:PS X e t) (i:∀ D σ H,t' D σ H->t D σ H):PS X e t' :=fun pins s σ H D I q=>h pins s σ H D I (i D σ H q)
theorem PSs.imp {X:Cx} {e:List Stmt} {t t' :TS} (h:PSs X e t) (i:∀ D σ H,t' D σ H->t D σ H):PSs X e t' :=fun pins s σ H D I q=>h pins s σ H D I (i D σ H q)
end L2
namespace PV
open PySem
def wq:Expr->Bool
 | .Starred _ _=>false
 | _=>true
theorem zV {e:Expr} {rest:List Expr} {env:Env} (h:wq e=true):starEach (e :: rest) env=(false,eval e env) :: starEach rest env:=by
 cases e <;> first | rfl | cases h
theorem st2 {a b:Expr} {env:Env} (h:wq a=true) (h' :wq b=true):starEach [a,b] env=[(false,eval a env),(false,eval b env)]:=by
 rw [zV h,zV h']; rfl
theorem st1 {a:Expr} {env:Env} (h:wq a=true):starEach [a] env=[(false,eval a env)]:=by
 rw [zV h]; rfl
theorem ZM {pos:Pos} {env:Env}:∀ {es:List Expr},es.all wq=true->((backTo pos (starEach es env)).any fun x=>x.fst)=false
 | [],_=>rfl
 | e :: es,h=>by
  rw [List.all_cons,Bool.and_eq_true] at h
  rw [zV h.1]
  have:=ZM (pos:=pos) (env:=env) h.2
  show (false || ((backTo pos (starEach es env)).any fun x=>x.fst))=false
  rw [this]; rfl
open PySem PySem.Spec PyProof.Rows L2
abbrev Sg:=L2.St
inductive T where
 | non | bl (b:Bool) | int (i:Int) | str (x:Str) | tup (xs:List T) | lst (xs:List T) | fz (xs:List T)
inductive R (α:Type) where
 | ok (a:α) | ex (c:Nat) | bad
def R.bind {α β:Type} (r:R α) (f:α->R β):R β:=match r with
 | .ok a=>f a
 | .ex c=> .ex c
 | .bad=> .bad
mutual
inductive Rep (H:Hp):V->T->Prop where
 | non:Rep H .non .non
 | bl (b:Bool):Rep H (.bl b) (.bl b)
 | int (i:Int):Rep H (.int i) (.int i)
 | str (x:Str):Rep H (.str x) (.str x)
 | tup {a:Addr} {xs:List V} {ts:List T}:H a=some (.tup xs)->zB H xs ts->Rep H (.ref a) (.tup ts)
 | lst {a:Addr} {xs:List V} {ts:List T}:H a=some (.lst xs)->zB H xs ts->Rep H (.ref a) (.lst ts)
 | fz {a:Addr} {o:Obj} {xs:List V} {ts:List T}:H a=some (.frz o (.lst xs))->zB H xs ts->Rep H (.ref a) (.fz ts)
inductive zB (H:Hp):List V->List T->Prop where
 | nil:zB H [] []
 | cons {v:V} {t:T} {vs:List V} {ts:List T}:Rep H v t->zB H vs ts->zB H (v :: vs) (t :: ts)
end
mutual
theorem Rep.mono {H H' :Hp} (s:zp H H'):∀ {v:V} {t:T},Rep H v t->Rep H' v t
 | _,_, .non=> .non
 | _,_, .bl b=> .bl b
 | _,_, .int i=> .int i
 | _,_, .str x=> .str x
 | _,_, .tup h r=> .tup (s _ _ h) (zB.mono s r)
 | _,_, .lst h r=> .lst (s _ _ h) (zB.mono s r)
 | _,_, .fz h r=> .fz (s _ _ h) (zB.mono s r)
theorem zB.mono {H H' :Hp} (s:zp H H'):∀ {v:List V} {t:List T},zB H v t->zB H' v t
 | _,_, .nil=> .nil
 | _,_, .cons h r=> .cons (Rep.mono s h) (zB.mono s r)
end
theorem zB.length {H:Hp}:∀ {vs:List V} {ts:List T},zB H vs ts->vs.length=ts.length
 | _,_, .nil=>rfl
 | _,_, .cons _ r=>congrArg (·+1) (zB.length r)
theorem zB.get {H:Hp}:∀ {vs:List V} {ts:List T} {i:Nat} {t:T},zB H vs ts->ts[i]? =some t->∃ v,vs[i]? =some v/\Rep H v t
 | _,_,_,_, .nil,e=>by simp at e
 | _,_,0,_, .cons r _,e=>by simp at e; subst e; exact ⟨_,rfl,r⟩
 | _,_,i+1,t, .cons _ q,e=>by
  obtain ⟨v,h1,h2⟩:=zB.get (i:=i) (t:=t) q (by simpa using e)
  exact ⟨v,by simpa using h1,h2⟩
theorem zB.getV {H:Hp}:∀ {vs:List V} {ts:List T} {i:Nat} {v:V},zB H vs ts->vs[i]? =some v->∃ t,ts[i]? =some t/\Rep H v t
 | _,_,_,_, .nil,e=>by simp at e
 | _,_,0,_, .cons r _,e=>by simp at e; subst e; exact ⟨_,rfl,r⟩
 | _,_,i+1,v, .cons _ q,e=>by
  obtain ⟨t,h1,h2⟩:=zB.getV (i:=i) (v:=v) q (by simpa using e)
  exact ⟨t,by simpa using h1,h2⟩
theorem zB.append {H:Hp}:∀ {vs ws:List V} {ts us:List T},zB H vs ts->zB H ws us->zB H (vs++ws) (ts++us)
 | _,_,_,_, .nil,q=>q
 | _,_,_,_, .cons r t,q=> .cons r (zB.append t q)
theorem zB.rep {H:Hp} {vs:List V} {ts:List T} (h:zB H vs ts):∀ n:Nat,zB H (List.replicate n vs).flatten (List.replicate n ts).flatten
 | 0=> .nil
 | n+1=>by
  rw [List.replicate_succ,List.replicate_succ,List.flatten_cons,List.flatten_cons]
  exact h.append (zB.rep h n)
theorem zB.nil_iff {H:Hp} {vs:List V} {ts:List T} (h:zB H vs ts):vs=[]↔ts=[]:=by
 cases h <;> simp
def zL (B H H' :Hp):Hp:=fun b=>match H b with
 | none=>H' b
 | some _=>B b
theorem Zd {B H H' :Hp} {b:Addr} (h:H b=none):zL B H H' b=H' b:=by unfold zL; rw [h]
theorem Zg {B H H' :Hp} {b:Addr} {o:HO} (h:H b=some o):zL B H H' b=B b:=by unfold zL; rw [h]
theorem zL.ge {B H H' :Hp} (s:zp B H) (s' :zp H H'):zp B (zL B H H'):=fun b o h=>by
 rw [Zg (s b o h)]; exact h
theorem zL.le {B H H' :Hp} (s:zp B H) (s' :zp H H'):zp (zL B H H') H' :=fun b o h=>by
 cases q:H b with
 | none=>rw [Zd q] at h; exact h
 | some u=>rw [Zg q] at h; exact s' b o (s b o h)
theorem zL.self (B H:Hp) (s:zp B H):zL B H H=B:=by
 funext b
 cases q:H b with
 | none=>
  rw [Zd q,q]
  cases z:B b with
  | none=>rfl
  | some o=>rw [s b o z] at q; cases q
 | some u=>rw [Zg q]
theorem zL.trans {B H H1 H2:Hp} (s1:zp H H1) (s2:zp H1 H2):zL (zL B H H1) H1 H2=zL B H H2:=by
 funext b
 cases q:H b with
 | none=>
  rw [Zd q]
  cases z:H1 b with
  | none=>rw [Zd z]
  | some o=>rw [Zg z,Zd q,z,s2 b o z]
 | some u=>rw [Zg q,Zg (s1 b u q),Zg q]
inductive Sl where
 | un | vl (t:T) | ow (ts:List T) | xc (c:Nat)
abbrev En:=List Sl
structure Fx where
 B0:Hp
 H0:Hp
 E:XK
 cl:Nat->Value
structure SI (Y:Fx) (B:Hp) (ρ:En) (σ:Sg) (H:Hp):Prop where
 s0:zp Y.B0 Y.H0
 sH:zp Y.H0 H
 sB:zp B H
 old:∀ b o,Y.H0 b=some o->B b=Y.B0 b
 len:ρ.length=σ.length
 vl:∀ (i:Nat) (t:T),ρ[i]? =some (Sl.vl t)->∃ v:V,σ[i]? =some (some v)/\Rep B v t
 ow:∀ (i:Nat) (ts:List T),ρ[i]? =some (Sl.ow ts)->∃ (a:Addr) (xs:List V),σ[i]? =some (some (V.ref a))/\B a=none/\Y.H0 a=none/\H a=some (.lst xs)/\zB B xs ts/\
  ∀ (j:Nat) (us:List T),j ≠ i->ρ[j]? =some (Sl.ow us)->σ[j]? ≠ some (some (V.ref a))
 xc:∀ (i:Nat) (c:Nat),ρ[i]? =some (Sl.xc c)->∃ a:Addr,σ[i]? =some (some (V.ref a))/\B a=some (.ext (xV (Y.cl c) a))
theorem SI.grow {Y:Fx} {B:Hp} {ρ:En} {σ:Sg} {H H' :Hp} (I:SI Y B ρ σ H) (s:zp H H'):SI Y (zL B H H') ρ σ H' where
 s0:=I.s0
 sH:=I.sH.trans s
 sB:=zL.le I.sB s
 old:=fun b o h=>by rw [Zg (I.sH b o h)]; exact I.old b o h
 len:=I.len
 vl:=fun i t h=>let ⟨v,e,r⟩:=I.vl i t h; ⟨v,e,r.mono (zL.ge I.sB s)⟩
 ow:=fun i ts h=>let ⟨a,xs,e,b,h0,hh,r,d⟩:=I.ow i ts h; ⟨a,xs,e,by rw [Zg hh]; exact b,h0,s _ _ hh,r.mono (zL.ge I.sB s),d⟩
 xc:=fun i c h=>let ⟨a,e,r⟩:=I.xc i c h; ⟨a,e,zL.ge I.sB s a _ r⟩
def XP (Y:Fx) (B:Hp) (c:Nat):Prop:=∀ (d:Option Addr) (H' :Hp),zp Y.H0 H' ->zp B H' ->Y.E (Y.cl c) d H'
def Po {α β:Type} (Y:Fx) (rel:Hp->Hp->β->α->Prop) (B H:Hp) (r:R α) (Q:β->Hp->Prop):Prop:=match r with
 | .ok a=>∀ b H',zp H H' ->rel (zL B H H') H' b a->Q b H'
 | .ex c=>XP Y B c
 | .bad=>False
abbrev rC:Hp->Hp->V->T->Prop:=fun B _ v t=>Rep B v t
abbrev rB:Hp->Hp->V->T->Prop:=fun _ H v t=>Rep H v t
abbrev rCs:Hp->Hp->List V->List T->Prop:=fun B _ v t=>zB B v t
abbrev rE {α:Type}:Hp->Hp->α->α->Prop:=fun _ _ a b=>a=b
def tS {α β:Type} (Y:Fx) (rel:Hp->Hp->β->α->Prop) (f:En->R α) (ρ:En):Sg->Hp->(β->Hp->Prop)->Prop:=fun σ H Q=>∃ B,SI Y B ρ σ H/\Po Y rel B H (f ρ) Q
structure Snd (X:Cx) (Y:Fx) (e:Expr) (f:En->R T):Prop where
 mk ::
 go:∀ ρ,PE X e (tS Y rC f ρ)
instance {X:Cx} {Y:Fx} {e:Expr} {f:En->R T}:CoeFun (Snd X Y e f) fun _=>∀ ρ,PE X e (tS Y rC f ρ):=⟨Snd.go⟩
structure jc (X:Cx) (Y:Fx) (e:Expr) (f:En->R T):Prop where
 mk ::
 go:∀ ρ,PE X e (tS Y rB f ρ)
instance {X:Cx} {Y:Fx} {e:Expr} {f:En->R T}:CoeFun (jc X Y e f) fun _=>∀ ρ,PE X e (tS Y rB f ρ):=⟨jc.go⟩
structure WC (X:Cx) (Y:Fx) (e:Expr) (f:En->R Bool):Prop where
 mk ::
 go:∀ ρ,PT X e (tS Y rE f ρ)
instance {X:Cx} {Y:Fx} {e:Expr} {f:En->R Bool}:CoeFun (WC X Y e f) fun _=>∀ ρ,PT X e (tS Y rE f ρ):=⟨WC.go⟩
structure WD (X:Cx) (Y:Fx) (es:List Expr) (f:En->R (List T)):Prop where
 mk ::
 go:∀ ρ,PA X es (tS Y rCs f ρ)
instance {X:Cx} {Y:Fx} {es:List Expr} {f:En->R (List T)}:CoeFun (WD X Y es f) fun _=>∀ ρ,PA X es (tS Y rCs f ρ):=⟨WD.go⟩
theorem step {α α' β β' :Type} {Y:Fx} {rel:Hp->Hp->β->α->Prop} {rel' :Hp->Hp->β' ->α' ->Prop} {f:En->R α} {k:α->R α'} {ρ:En} {B:Hp} {σ:Sg} {H:Hp} {Q:β' ->Hp->Prop} {K:β->Hp->Prop}
  (I:SI Y B ρ σ H) (h:Po Y rel' B H ((f ρ).bind k) Q)
  (n:∀ a b H1,f ρ= .ok a->zp H H1->rel (zL B H H1) H1 b a->SI Y (zL B H H1) ρ σ H1->Po Y rel' (zL B H H1) H1 (k a) Q->K b H1):tS Y rel f ρ σ H K:=by
 refine ⟨B,I, ?_⟩
 cases e:f ρ with
 | bad=>rw [e] at h; exact h
 | ex c=>rw [e] at h; exact h
 | ok a=>
  rw [e] at h
  intro b H1 s r
  refine n a b H1 e s r (I.grow s) ?_
  have h' :Po Y rel' B H (k a) Q:=h
  revert h'
  cases k a with
  | bad=>exact fun h' =>h'
  | ex c=>exact fun h' d H' s0 sB' =>h' d H' s0 ((zL.ge I.sB s).trans sB')
  | ok a' =>exact fun h' b' H2 s2 r2=>h' b' H2 (s.trans s2) (by rw [← zL.trans s s2]; exact r2)
theorem ZU {α β:Type} {Y:Fx} {rel:Hp->Hp->β->α->Prop} {ρ:En} {B:Hp} {σ:Sg} {H:Hp} {a:α} {b:β} {Q:β->Hp->Prop} (I:SI Y B ρ σ H) (h:Po Y rel B H (.ok a) Q) (r:rel B H b a):Q b H:=h b H (zp.refl H) (by rw [zL.self B H I.sB]; exact r)
theorem Snd.b {X:Cx} {Y:Fx} {e:Expr} {f:En->R T} (h:Snd X Y e f):jc X Y e f:= .mk fun ρ=>PE.imp (h ρ) fun σ H Q ⟨B,I,q⟩=>⟨B,I,by
 revert q
 cases f ρ with
 | bad=>exact fun q=>q
 | ex c=>exact fun q=>q
 | ok a=>exact fun q b H' s r=>q b H' s (r.mono (zL.le I.sB s))⟩
section
variable {X:Cx} {Y:Fx} {a b c:Expr} {fa fb fc:En->R T} {pos:Pos}
def vE (i:Nat):En->R T:=fun ρ=>match ρ[i]? with
 | some (.vl t)=> .ok t
 | _=> .bad
def vB (i:Nat):En->R T:=fun ρ=>match ρ[i]? with
 | some (.vl t)=> .ok t
 | some (.ow ts)=> .ok (.lst ts)
 | _=> .bad
def cE (t:T):En->R T:=fun _=> .ok t
theorem z7 (i:Nat) {x:Str} (h:PE X (.Name x pos) (qe i)):Snd X Y (.Name x pos) (vE i):= .mk fun ρ=>PE.imp h fun σ H Q ⟨B,I,q⟩=>by
 unfold vE at q
 split at q
 ·rename_i t e
  obtain ⟨v,e1,r⟩:=I.vl i t e
  exact ⟨v,e1,ZU I q r⟩
 ·exact q.elim
theorem zl (i:Nat) {x:Str} (h:PE X (.Name x pos) (qe i)):jc X Y (.Name x pos) (vB i):= .mk fun ρ=>PE.imp h fun σ H Q ⟨B,I,q⟩=>by
 unfold vB at q
 split at q
 ·rename_i t e
  obtain ⟨v,e1,r⟩:=I.vl i t e
  exact ⟨v,e1,ZU I q (r.mono I.sB)⟩
 ·rename_i ts e
  obtain ⟨a,xs,e1,_,_,hh,r,_⟩:=I.ow i ts e
  exact ⟨.ref a,e1,ZU I q (.lst hh (r.mono I.sB))⟩
 ·exact q.elim
theorem z8 {i j}:Snd X Y (.Constant (.int i) j pos) (cE (.int i)):= .mk fun ρ=>PE.imp QI fun σ H Q ⟨B,I,q⟩=>ZU I q (.int i)
theorem qz {i j}:Snd X Y (.Constant (.bool i) j pos) (cE (.bl i)):= .mk fun ρ=>PE.imp Vm fun σ H Q ⟨B,I,q⟩=>ZU I q (.bl i)
theorem zH {i j}:Snd X Y (.Constant (.str i) j pos) (cE (.str i)):= .mk fun ρ=>PE.imp Yu fun σ H Q ⟨B,I,q⟩=>ZU I q (.str i)
def zc:En->R (List T):=fun _=> .ok []
def z3 (f:En->R T) (g:En->R (List T)):En->R (List T):=fun ρ=>(f ρ).bind fun t=>(g ρ).bind fun ts=> .ok (t :: ts)
theorem zd:WD X Y [] zc:= .mk fun ρ=>PA.imp Zf fun σ H Q ⟨B,I,q⟩=>ZU I q .nil
theorem z4 {es:List Expr} {g:En->R (List T)} (h:Snd X Y a fa) (hs:WD X Y es g) (hq:starEach (a :: es) X.env=(false,eval a X.env) :: starEach es X.env:=by exact zV rfl):WD X Y (a :: es) (z3 fa g):= .mk fun ρ=>
 PA.imp (zt (h ρ) (hs ρ) hq) fun σ H Q ⟨B,I,q⟩=>step I q fun t v H1 _ s1 r1 I1 q1=>step I1 q1 fun ts vs H2 _ s2 r2 I2 q2=>ZU I2 q2 (.cons (r1.mono (zL.ge I1.sB s2)) r2)
theorem zp.new {H:Hp} {p:Addr} (h:H p=none) (o:HO):zp H (upd H p o):=fun b u q=>by rw [zo (zy q h)]; exact q
theorem jJ {B H:Hp} {p:Addr} (h:H p=none) (o:HO):zL B H (upd H p o) p=some o:=by rw [Zd h,zA]
def bnd:Nat:=16777216
theorem ZJ {n:Nat} (h:n<=bnd):n<=sizeLine:=by rw [sizeLine_eq]; exact h
def Z4 (g:En->R (List T)):En->R T:=fun ρ=>(g ρ).bind fun ts=>if ts.length<=bnd then .ok (.tup ts) else .bad
def Jh (g:En->R (List T)):En->R T:=fun ρ=>(g ρ).bind fun ts=>if ts.length<=bnd then .ok (.lst ts) else .bad
theorem qA {ρ:En} {σ:Sg} {B H:Hp} {xs:List V} {ts:List T} (I:SI Y B ρ σ H) (r:zB B xs ts) {p:Addr} (h:H p=none):Rep (zL B H (upd H p (.tup xs))) (.ref p) (.tup ts):=
 .tup (jJ h _) (r.mono (zL.ge I.sB (zp.new h _)))
theorem qB {ρ:En} {σ:Sg} {B H:Hp} {xs:List V} {ts:List T} (I:SI Y B ρ σ H) (r:zB B xs ts) {p:Addr} (h:H p=none):Rep (zL B H (upd H p (.lst xs))) (.ref p) (.lst ts):=
 .lst (jJ h _) (r.mono (zL.ge I.sB (zp.new h _)))
theorem Zh {es:List Expr} {g:En->R (List T)} {x1} (h:WD X Y es g):Snd X Y (.Tuple es x1 pos) (Z4 g):= .mk fun ρ=>PE.imp (v6 (h ρ)) fun σ H Q ⟨B,I,q⟩=>
 step I q fun ts vs H1 _ s1 r1 I1 q1=>by
  split at q1
  ·rename_i hb
   refine ⟨by rw [r1.length]; exact ZJ hb,fun p hp=>q1 _ _ (zp.new hp _) (qA I1 r1 hp)⟩
  ·exact q1.elim
theorem wt {es:List Expr} {g:En->R (List T)} (h:WD X Y es g):Snd X Y (.List es pos) (Jh g):= .mk fun ρ=>PE.imp (Yx (h ρ)) fun σ H Q ⟨B,I,q⟩=>
 step I q fun ts vs H1 _ s1 r1 I1 q1=>by
  split at q1
  ·rename_i hb
   refine ⟨by rw [r1.length]; exact ZJ hb,fun p hp=>q1 _ _ (zp.new hp _) (qB I1 r1 hp)⟩
  ·exact q1.elim
end
end PV
namespace PV
open PySem PySem.Spec PyProof.Rows L2
def eqL (f:T->T->Option Bool):List T->List T->Option Bool
 | [],[]=>some true
 | [],_ :: _=>some false
 | _ :: _,[]=>some false
 | x :: xs,y :: ys=>match f x y with
  | none=>none
  | some b=>match eqL f xs ys with
   | none=>none
   | some c=>some (b && c)
def b2 (b:Bool):Int:=if b then 1 else 0
def eqF:Nat->T->T->Option Bool
 | _, .non, .non=>some true
 | _, .bl a, .bl b=>some (a == b)
 | _, .bl a, .int j=>some (b2 a == j)
 | _, .int i, .bl b=>some (i == b2 b)
 | _, .int i, .int j=>some (i == j)
 | _, .str x, .str y=>some (x == y)
 | n+1, .tup xs, .tup ys=>eqL (eqF n) xs ys
 | n+1, .lst xs, .lst ys=>eqL (eqF n) xs ys
 | n+1, .fz xs, .lst ys=>eqL (eqF n) xs ys
 | n+1, .lst xs, .fz ys=>eqL (eqF n) xs ys
 | n+1, .fz xs, .fz ys=>eqL (eqF n) xs ys
 | 0, .tup _, .tup _=>none
 | 0, .lst _, .lst _=>none
 | 0, .fz _, .lst _=>none
 | 0, .lst _, .fz _=>none
 | 0, .fz _, .fz _=>none
 | _, .non,_=>some false
 | _, .bl _,_=>some false
 | _, .int _,_=>some false
 | _, .str _,_=>some false
 | _, .tup _,_=>some false
 | _, .lst _,_=>some false
 | _, .fz _,_=>some false
mutual
theorem Rep.fn {H:Hp}:∀ {v:V} {t t' :T},Rep H v t->Rep H v t' ->t=t'
 | _,_,_, .non, .non=>rfl
 | _,_,_, .bl _, .bl _=>rfl
 | _,_,_, .int _, .int _=>rfl
 | _,_,_, .str _, .str _=>rfl
 | _,_,_, .tup h r, .tup h' r' =>by
  rw [h] at h'; cases h'; rw [zB.fn r r']
 | _,_,_, .tup h r, .lst h' r' =>by rw [h] at h'; cases h'
 | _,_,_, .tup h r, .fz h' r' =>by rw [h] at h'; cases h'
 | _,_,_, .lst h r, .tup h' r' =>by rw [h] at h'; cases h'
 | _,_,_, .lst h r, .lst h' r' =>by
  rw [h] at h'; cases h'; rw [zB.fn r r']
 | _,_,_, .lst h r, .fz h' r' =>by rw [h] at h'; cases h'
 | _,_,_, .fz h r, .tup h' r' =>by rw [h] at h'; cases h'
 | _,_,_, .fz h r, .lst h' r' =>by rw [h] at h'; cases h'
 | _,_,_, .fz h r, .fz h' r' =>by
  rw [h] at h'; cases h'; rw [zB.fn r r']
theorem zB.fn {H:Hp}:∀ {v:List V} {t t' :List T},zB H v t->zB H v t' ->t=t'
 | _,_,_, .nil, .nil=>rfl
 | _,_,_, .cons h r, .cons h' r' =>by rw [Rep.fn h h',zB.fn r r']
end
theorem Zl {f:T->T->Option Bool} (hf:∀ x b,f x x=some b->b=true):∀ (xs:List T) (b:Bool),eqL f xs xs=some b->b=true
 | [],b,h=>by
  have h' :some true=some b:=h
  cases h'; rfl
 | x :: xs,b,h=>by
  unfold eqL at h
  cases e:f x x with
  | none=>rw [e] at h; cases h
  | some c=>
   rw [e] at h
   cases e' :eqL f xs xs with
   | none=>rw [e'] at h; cases h
   | some d=>
    rw [e'] at h
    cases h
    rw [hf x c e,Zl hf xs d e']
    rfl
theorem Z7:∀ (n:Nat) (t:T) (b:Bool),eqF n t t=some b->b=true
 | n, .non,b,h=>by unfold eqF at h; cases h; rfl
 | n, .bl x,b,h=>by unfold eqF at h; cases h; simp
 | n, .int x,b,h=>by unfold eqF at h; cases h; simp
 | n, .str x,b,h=>by unfold eqF at h; cases h; simp
 | 0, .tup x,b,h=>by unfold eqF at h; cases h
 | 0, .lst x,b,h=>by unfold eqF at h; cases h
 | 0, .fz x,b,h=>by unfold eqF at h; cases h
 | n+1, .tup x,b,h=>by unfold eqF at h; exact Zl (Z7 n) x b h
 | n+1, .lst x,b,h=>by unfold eqF at h; exact Zl (Z7 n) x b h
 | n+1, .fz x,b,h=>by unfold eqF at h; exact Zl (Z7 n) x b h
theorem uV {f:T->T->Option Bool}:∀ {xs ys:List T} {b:Bool},eqL f xs ys=some b->
  ∃ e:Nat->Bool,(∀ j x y,xs[j]? =some x->ys[j]? =some y->f x y=some (e j))/\((List.range (min xs.length ys.length)).all e && xs.length == ys.length)=b
 | [],[],b,h=>by
  have h' :some true=some b:=h
  cases h'
  exact ⟨fun _=>true,fun j x y h=>by simp at h,by simp⟩
 | [],y :: ys,b,h=>by
  have h' :some false=some b:=h
  cases h'
  exact ⟨fun _=>true,fun j x y h=>by simp at h,by simp⟩
 | x :: xs,[],b,h=>by
  have h' :some false=some b:=h
  cases h'
  exact ⟨fun _=>true,fun j x y h h' =>by simp at h',by simp⟩
 | x :: xs,y :: ys,b,h=>by
  unfold eqL at h
  cases e:f x y with
  | none=>rw [e] at h; cases h
  | some c=>
   rw [e] at h
   cases e' :eqL f xs ys with
   | none=>rw [e'] at h; cases h
   | some d=>
    rw [e'] at h
    cases h
    obtain ⟨g,h1,h2⟩:=uV e'
    refine ⟨fun j=>match j with | 0=>c | j+1=>g j,fun j u v hu hv=> ?_, ?_⟩
    ·cases j with
     | zero=>simp at hu hv; subst hu hv; exact e
     | succ j=>exact h1 j u v (by simpa using hu) (by simpa using hv)
    ·have z:min (x :: xs).length (y :: ys).length=min xs.length ys.length+1:=by simp only [List.length_cons]; omega
     rw [z,List.range_succ_eq_map,List.all_cons,List.all_map]
     have z2:((x :: xs).length == (y :: ys).length)=(xs.length == ys.length):=by simp
     rw [z2,← h2,Bool.and_assoc]
     rfl
section
variable {X:Cx} {pins:List (Addr×Obj)} {σ:Sg} {H:Hp} {s:Shared}
theorem ZE {a:Addr} {xs:List V} {ts:List T} (I:L2.Inv X pins σ H s) (h:H a=some (.tup xs)) (r:zB H xs ts):∃ its:List Value,Z3 xs its/\s.heap.IsTuple a its.toArray/\ts.length=its.length/\xs.length<=sizeLine:=by
 obtain ⟨its,rv,p,z⟩:=I.tuple (SqT.of h)
 exact ⟨its,rv,p,by rw [← r.length]; exact rv.length,z⟩
theorem zw {a:Addr} {xs:List V} {ts:List T} (I:L2.Inv X pins σ H s) (h:Rd H a (.lst xs)) (r:zB H xs ts):∃ its:List Value,Z3 xs its/\s.heap.IsList a its.toArray/\ts.length=its.length/\xs.length<=sizeLine:=by
 obtain ⟨its,rv,p,z⟩:=I.list (.inl h)
 exact ⟨its,rv,p.isList,by rw [← r.length]; exact rv.length,z⟩
end
abbrev EqN (A:Around) (s:Shared) (u u' :Value) (b:Bool):Prop:=SeqAt.EqAt A s u u' b/\SeqAt.RcAt A s u u' b/\SeqAt.RcNeAt A s u u' (!b)
section
variable {X:Cx} {pins:List (Addr×Obj)} {σ:Sg} {H:Hp} {s:Shared}
theorem uW {xs ys:List V} {ts us:List T} {its its' :List Value} {A:Around} {f:T->T->Option Bool} {e:Nat->Bool} (r:zB H xs ts) (r' :zB H ys us) (v:Z3 xs its) (v' :Z3 ys its')
  (he:∀ (j:Nat) (x y:T),ts[j]? =some x->us[j]? =some y->f x y=some (e j))
  (ih:∀ (x y:T) (b:Bool) (p q:V) (u w:Value),f x y=some b->Rep H p x->Rep H q y->Zj p u->Zj q w->EqN A s u w b) (j:Nat) (h1:j < its.toArray.size) (h2:j < its'.toArray.size):
  SeqAt.EqAt A s its.toArray[j] its'.toArray[j] (e j):=by
 have l1:=v.length
 have l2:=v'.length
 have m1:=r.length
 have m2:=r'.length
 have k1:j < xs.length:=by simp at h1; omega
 have k2:j < ys.length:=by simp at h2; omega
 obtain ⟨t,et,rt⟩:=r.getV (List.getElem?_eq_getElem k1)
 obtain ⟨t',et',rt'⟩:=r'.getV (List.getElem?_eq_getElem k2)
 obtain ⟨u,eu,ru⟩:=v.get (List.getElem?_eq_getElem k1)
 obtain ⟨u',eu',ru'⟩:=v'.get (List.getElem?_eq_getElem k2)
 have q1:its.toArray[j]=u:=by
  have:its[j]? =some its.toArray[j]:=by simp at h1 ⊢
  rw [eu] at this; exact (Option.some.inj this).symm
 have q2:its'.toArray[j]=u' :=by
  have:its'[j]? =some its'.toArray[j]:=by simp at h2 ⊢
  rw [eu'] at this; exact (Option.some.inj this).symm
 rw [q1,q2]
 exact (ih t t' (e j) _ _ u u' (he j t t' et et') rt rt' ru ru').1
theorem qC {A:Around} {a c:Addr} {xs ys:List V} {ts us:List T} {b:Bool} {f:T->T->Option Bool} (I:L2.Inv X pins σ H s) (hu:A.units < cLine) (ha:H a=some (.tup xs)) (hc:H c=some (.tup ys)) (r:zB H xs ts) (r' :zB H ys us)
  (hb:eqL f ts us=some b) (hr:∀ x b,f x x=some b->b=true)
  (ih:∀ (x y:T) (b:Bool) (p q:V) (u w:Value),f x y=some b->Rep H p x->Rep H q y->Zj p u->Zj q w->EqN A.in1 s u w b):EqN A s (.ref a) (.ref c) b:=by
 obtain ⟨its,v,p,l,_⟩:=ZE I ha r
 obtain ⟨its',v',p',l',_⟩:=ZE I hc r'
 obtain ⟨e,he,hb'⟩:=uV hb
 have hp:=uW (A:=A.in1) r r' v v' he ih
 have z:((List.range (min its.toArray.size its'.toArray.size)).all e && its.toArray.size == its'.toArray.size)=b:=by
  rw [← hb']; simp [l,l']
 have R:=SeqAt.RcAt.tuples p p' hu hp
 have N:=SeqAt.RcNeAt.tuples p p' hu hp
 rw [z] at R
 have N' :SeqAt.RcNeAt A s (.ref a) (.ref c) (!b):=by
  rw [← z]; exact N
 refine ⟨?_,R,N'⟩
 by_cases hac:a=c
 ·subst hac
  rw [ha] at hc; cases hc
  have:=r.fn r'; subst this
  rw [Zl hr ts b hb]
  exact SeqAt.EqAt.same _
 ·exact SeqAt.EqAt.of_refs hac R
theorem JC {A:Around} {a c:Addr} {xs ys:List V} {ts us:List T} {b:Bool} {f:T->T->Option Bool} (I:L2.Inv X pins σ H s) (hu:A.units < cLine) (ha:Rd H a (.lst xs)) (hc:Rd H c (.lst ys)) (r:zB H xs ts) (r' :zB H ys us)
  (hb:eqL f ts us=some b) (hr:∀ x b,f x x=some b->b=true)
  (ih:∀ (x y:T) (b:Bool) (p q:V) (u w:Value),f x y=some b->Rep H p x->Rep H q y->Zj p u->Zj q w->EqN A.in1 s u w b):EqN A s (.ref a) (.ref c) b:=by
 obtain ⟨its,v,p,l,_⟩:=zw I ha r
 obtain ⟨its',v',p',l',_⟩:=zw I hc r'
 obtain ⟨e,he,hb'⟩:=uV hb
 have hp:=uW (A:=A.in1) r r' v v' he ih
 have RN:SeqAt.RcAt A s (.ref a) (.ref c) b/\SeqAt.RcNeAt A s (.ref a) (.ref c) (!b):=by
  by_cases hl:its.toArray.size=its'.toArray.size
  ·have z:(List.range its.toArray.size).all e=b:=by
    rw [← hb']
    have:ts.length=us.length:=by simp at hl; omega
    rw [this]
    have k:its.toArray.size=us.length:=by simp; omega
    rw [k]; simp
   have R:=SeqAt.RcAt.lists p p' hl hu hp
   have N:=SeqAt.RcNeAt.lists p p' hl hu hp
   rw [z] at R
   refine ⟨R, ?_⟩
   rw [← z]; exact N
  ·have hl' :(its.toArray.size != its'.toArray.size)=true:=by simpa using hl
   have z:b=false:=by
    rw [← hb']
    have:¬ ts.length=us.length:=by simp at hl; omega
    simp [this]
   subst z
   exact ⟨SeqAt.RcAt.lists_lengths p p' hl' hu,SeqAt.RcNeAt.lists_lengths p p' hl' hu⟩
 refine ⟨?_,RN.1,RN.2⟩
 by_cases hac:a=c
 ·subst hac
  have hxy:xs=ys:=by
   rcases ha with ha | ⟨o,ha⟩ <;> rcases hc with hc | ⟨o',hc⟩ <;> (rw [ha] at hc; cases hc) <;> rfl
  subst hxy
  have:=r.fn r'; subst this
  rw [Zl hr ts b hb]
  exact SeqAt.EqAt.same _
 ·exact SeqAt.EqAt.of_refs hac RN.1
end
section
variable {X:Cx} {pins:List (Addr×Obj)} {σ:Sg} {H:Hp} {s:Shared}
theorem wu {A:Around}:A.in1.units=A.units+1:=rfl
set_option maxHeartbeats 2000000 in
theorem uX (I:L2.Inv X pins σ H s):∀ (A:Around),A.units < cLine->∀ (x y:T) (b:Bool) (p q:V) (u w:Value),eqF 0 x y=some b->Rep H p x->Rep H q y->Zj p u->Zj q w->EqN A s u w b:=by
 intro A hu x y b p q u w h rp rq ru rw'
 have hu' :=hu
 cases rp with
 | non=>
  obtain rfl:u=Value.none:=ru
  cases rq with
  | non=>obtain rfl:w=Value.none:=rw'; unfold eqF at h; cases h; exact ⟨.same _, .none_none, .none_none⟩
  | bl c=>obtain rfl:w=Value.bool c:=rw'; unfold eqF at h; cases h; exact ⟨.none_bool _, .none_bool _, .none_bool _⟩
  | int c=>obtain ⟨t,rfl⟩:=rw'; unfold eqF at h; cases h; exact ⟨.none_int _ _, .none_int _ _, .none_int _ _⟩
  | str c=>obtain ⟨t,rfl⟩:=rw'; unfold eqF at h; cases h; exact ⟨.none_str _ _, .none_str _ _, .none_str _ _⟩
  | tup h1 r1=>obtain rfl:w=Value.ref _:=rw'; unfold eqF at h; cases h; obtain ⟨i,_,p,_⟩:=ZE I h1 r1; exact ⟨.none_tuple p hu', .none_tuple p hu', .none_tuple p hu'⟩
  | lst h1 r1=>obtain rfl:w=Value.ref _:=rw'; unfold eqF at h; cases h; obtain ⟨i,_,p,_⟩:=zw I (.inl h1) r1; exact ⟨.none_list p hu', .none_list p hu', .none_list p hu'⟩
  | fz h1 r1=>obtain rfl:w=Value.ref _:=rw'; unfold eqF at h; cases h; obtain ⟨i,_,p,_⟩:=zw I (.inr ⟨_,h1⟩) r1; exact ⟨.none_list p hu', .none_list p hu', .none_list p hu'⟩
 | bl d=>
  obtain rfl:u=Value.bool d:=ru
  cases rq with
  | non=>obtain rfl:w=Value.none:=rw'; unfold eqF at h; cases h; exact ⟨.bool_none _, .bool_none _, .bool_none _⟩
  | bl c=>obtain rfl:w=Value.bool c:=rw'; unfold eqF at h; cases h; exact ⟨.bool_bool _ _, .bool_bool _ _, .bool_bool _ _⟩
  | int c=>obtain ⟨t,rfl⟩:=rw'; unfold eqF at h; cases h; exact ⟨.bool_int _ _ _, .bool_int _ _ _, .bool_int _ _ _⟩
  | str c=>obtain ⟨t,rfl⟩:=rw'; unfold eqF at h; cases h; exact ⟨.bool_str _ _ _, .bool_str _ _ _, .bool_str _ _ _⟩
  | tup h1 r1=>obtain rfl:w=Value.ref _:=rw'; unfold eqF at h; cases h; obtain ⟨i,_,p,_⟩:=ZE I h1 r1; exact ⟨.bool_tuple _ p hu', .bool_tuple _ p hu', .bool_tuple _ p hu'⟩
  | lst h1 r1=>obtain rfl:w=Value.ref _:=rw'; unfold eqF at h; cases h; obtain ⟨i,_,p,_⟩:=zw I (.inl h1) r1; exact ⟨.bool_list _ p hu', .bool_list _ p hu', .bool_list _ p hu'⟩
  | fz h1 r1=>obtain rfl:w=Value.ref _:=rw'; unfold eqF at h; cases h; obtain ⟨i,_,p,_⟩:=zw I (.inr ⟨_,h1⟩) r1; exact ⟨.bool_list _ p hu', .bool_list _ p hu', .bool_list _ p hu'⟩
 | int d=>
  obtain ⟨t0,rfl⟩:=ru
  cases rq with
  | non=>obtain rfl:w=Value.none:=rw'; unfold eqF at h; cases h; exact ⟨.int_none _ _, .int_none _ _, .int_none _ _⟩
  | bl c=>obtain rfl:w=Value.bool c:=rw'; unfold eqF at h; cases h; exact ⟨.int_bool _ _ _, .int_bool _ _ _, .int_bool _ _ _⟩
  | int c=>obtain ⟨t,rfl⟩:=rw'; unfold eqF at h; cases h; exact ⟨.int_int _ _ _ _, .int_int _ _ _ _, .int_int _ _ _ _⟩
  | str c=>obtain ⟨t,rfl⟩:=rw'; unfold eqF at h; cases h; exact ⟨.int_str _ _ _ _, .int_str _ _ _ _, .int_str _ _ _ _⟩
  | tup h1 r1=>obtain rfl:w=Value.ref _:=rw'; unfold eqF at h; cases h; obtain ⟨i,_,p,_⟩:=ZE I h1 r1; exact ⟨.int_tuple _ _ p hu', .int_tuple _ _ p hu', .int_tuple _ _ p hu'⟩
  | lst h1 r1=>obtain rfl:w=Value.ref _:=rw'; unfold eqF at h; cases h; obtain ⟨i,_,p,_⟩:=zw I (.inl h1) r1; exact ⟨.int_list _ _ p hu', .int_list _ _ p hu', .int_list _ _ p hu'⟩
  | fz h1 r1=>obtain rfl:w=Value.ref _:=rw'; unfold eqF at h; cases h; obtain ⟨i,_,p,_⟩:=zw I (.inr ⟨_,h1⟩) r1; exact ⟨.int_list _ _ p hu', .int_list _ _ p hu', .int_list _ _ p hu'⟩
 | str d=>
  obtain ⟨t0,rfl⟩:=ru
  cases rq with
  | non=>obtain rfl:w=Value.none:=rw'; unfold eqF at h; cases h; exact ⟨.str_none _ _, .str_none _ _, .str_none _ _⟩
  | bl c=>obtain rfl:w=Value.bool c:=rw'; unfold eqF at h; cases h; exact ⟨.str_bool _ _ _, .str_bool _ _ _, .str_bool _ _ _⟩
  | int c=>obtain ⟨t,rfl⟩:=rw'; unfold eqF at h; cases h; exact ⟨.str_int _ _ _ _, .str_int _ _ _ _, .str_int _ _ _ _⟩
  | str c=>obtain ⟨t,rfl⟩:=rw'; unfold eqF at h; cases h; exact ⟨.str_str _ _ _ _, .str_str _ _ _ _, .str_str _ _ _ _⟩
  | tup h1 r1=>obtain rfl:w=Value.ref _:=rw'; unfold eqF at h; cases h; obtain ⟨i,_,p,_⟩:=ZE I h1 r1; exact ⟨.str_tuple _ _ p hu', .str_tuple _ _ p hu', .str_tuple _ _ p hu'⟩
  | lst h1 r1=>obtain rfl:w=Value.ref _:=rw'; unfold eqF at h; cases h; obtain ⟨i,_,p,_⟩:=zw I (.inl h1) r1; exact ⟨.str_list _ _ p hu', .str_list _ _ p hu', .str_list _ _ p hu'⟩
  | fz h1 r1=>obtain rfl:w=Value.ref _:=rw'; unfold eqF at h; cases h; obtain ⟨i,_,p,_⟩:=zw I (.inr ⟨_,h1⟩) r1; exact ⟨.str_list _ _ p hu', .str_list _ _ p hu', .str_list _ _ p hu'⟩
 | tup h0 r0=>
  obtain rfl:u=Value.ref _:=ru
  obtain ⟨i0,_,p0,_⟩:=ZE I h0 r0
  cases rq with
  | non=>obtain rfl:w=Value.none:=rw'; unfold eqF at h; cases h; exact ⟨.tuple_none p0 hu', .tuple_none p0 hu', .tuple_none p0 hu'⟩
  | bl c=>obtain rfl:w=Value.bool c:=rw'; unfold eqF at h; cases h; exact ⟨.tuple_bool _ p0 hu', .tuple_bool _ p0 hu', .tuple_bool _ p0 hu'⟩
  | int c=>obtain ⟨t,rfl⟩:=rw'; unfold eqF at h; cases h; exact ⟨.tuple_int _ _ p0 hu', .tuple_int _ _ p0 hu', .tuple_int _ _ p0 hu'⟩
  | str c=>obtain ⟨t,rfl⟩:=rw'; unfold eqF at h; cases h; exact ⟨.tuple_str _ _ p0 hu', .tuple_str _ _ p0 hu', .tuple_str _ _ p0 hu'⟩
  | tup h1 r1=>unfold eqF at h; cases h
  | lst h1 r1=>obtain rfl:w=Value.ref _:=rw'; unfold eqF at h; cases h; obtain ⟨i,_,p,_⟩:=zw I (.inl h1) r1; exact ⟨.tuple_list p0 p hu', .tuple_list p0 p hu', .tuple_list p0 p hu'⟩
  | fz h1 r1=>obtain rfl:w=Value.ref _:=rw'; unfold eqF at h; cases h; obtain ⟨i,_,p,_⟩:=zw I (.inr ⟨_,h1⟩) r1; exact ⟨.tuple_list p0 p hu', .tuple_list p0 p hu', .tuple_list p0 p hu'⟩
 | lst h0 r0=>
  obtain rfl:u=Value.ref _:=ru
  obtain ⟨i0,_,p0,_⟩:=zw I (.inl h0) r0
  cases rq with
  | non=>obtain rfl:w=Value.none:=rw'; unfold eqF at h; cases h; exact ⟨.list_none p0 hu', .list_none p0 hu', .list_none p0 hu'⟩
  | bl c=>obtain rfl:w=Value.bool c:=rw'; unfold eqF at h; cases h; exact ⟨.list_bool _ p0 hu', .list_bool _ p0 hu', .list_bool _ p0 hu'⟩
  | int c=>obtain ⟨t,rfl⟩:=rw'; unfold eqF at h; cases h; exact ⟨.list_int _ _ p0 hu', .list_int _ _ p0 hu', .list_int _ _ p0 hu'⟩
  | str c=>obtain ⟨t,rfl⟩:=rw'; unfold eqF at h; cases h; exact ⟨.list_str _ _ p0 hu', .list_str _ _ p0 hu', .list_str _ _ p0 hu'⟩
  | tup h1 r1=>obtain rfl:w=Value.ref _:=rw'; unfold eqF at h; cases h; obtain ⟨i,_,p,_⟩:=ZE I h1 r1; exact ⟨.list_tuple p0 p hu', .list_tuple p0 p hu', .list_tuple p0 p hu'⟩
  | lst h1 r1=>unfold eqF at h; cases h
  | fz h1 r1=>unfold eqF at h; cases h
 | fz h0 r0=>
  obtain rfl:u=Value.ref _:=ru
  obtain ⟨i0,_,p0,_⟩:=zw I (.inr ⟨_,h0⟩) r0
  cases rq with
  | non=>obtain rfl:w=Value.none:=rw'; unfold eqF at h; cases h; exact ⟨.list_none p0 hu', .list_none p0 hu', .list_none p0 hu'⟩
  | bl c=>obtain rfl:w=Value.bool c:=rw'; unfold eqF at h; cases h; exact ⟨.list_bool _ p0 hu', .list_bool _ p0 hu', .list_bool _ p0 hu'⟩
  | int c=>obtain ⟨t,rfl⟩:=rw'; unfold eqF at h; cases h; exact ⟨.list_int _ _ p0 hu', .list_int _ _ p0 hu', .list_int _ _ p0 hu'⟩
  | str c=>obtain ⟨t,rfl⟩:=rw'; unfold eqF at h; cases h; exact ⟨.list_str _ _ p0 hu', .list_str _ _ p0 hu', .list_str _ _ p0 hu'⟩
  | tup h1 r1=>obtain rfl:w=Value.ref _:=rw'; unfold eqF at h; cases h; obtain ⟨i,_,p,_⟩:=ZE I h1 r1; exact ⟨.list_tuple p0 p hu', .list_tuple p0 p hu', .list_tuple p0 p hu'⟩
  | lst h1 r1=>unfold eqF at h; cases h
  | fz h1 r1=>unfold eqF at h; cases h
set_option maxHeartbeats 2000000 in
theorem qD (I:L2.Inv X pins σ H s):∀ (n:Nat) (A:Around),A.units+n < cLine->∀ (x y:T) (b:Bool) (p q:V) (u w:Value),eqF n x y=some b->Rep H p x->Rep H q y->Zj p u->Zj q w->EqN A s u w b:=by
 intro n
 induction n with
 | zero=>exact fun A hu x y b p q u w h=>uX I A (by omega) x y b p q u w h
 | succ n ih=>
  intro A hu x y b p q u w h rp rq ru rw'
  have low:eqF 0 x y=some b->EqN A s u w b:=fun h=>uX I A (by omega) x y b p q u w h rp rq ru rw'
  have hu' :A.units < cLine:=by omega
  have ih' :=ih A.in1 (by rw [wu]; omega)
  cases rp with
  | tup h0 r0=>
   cases rq with
   | tup h1 r1=>
    obtain rfl:u=Value.ref _:=ru
    obtain rfl:w=Value.ref _:=rw'
    unfold eqF at h
    exact qC I hu' h0 h1 r0 r1 h (Z7 n) ih'
   | _=>exact low (by unfold eqF at h ⊢; exact h)
  | lst h0 r0=>
   cases rq with
   | lst h1 r1=>
    obtain rfl:u=Value.ref _:=ru
    obtain rfl:w=Value.ref _:=rw'
    unfold eqF at h
    exact JC I hu' (.inl h0) (.inl h1) r0 r1 h (Z7 n) ih'
   | fz h1 r1=>
    obtain rfl:u=Value.ref _:=ru
    obtain rfl:w=Value.ref _:=rw'
    unfold eqF at h
    exact JC I hu' (.inl h0) (.inr ⟨_,h1⟩) r0 r1 h (Z7 n) ih'
   | _=>exact low (by unfold eqF at h ⊢; exact h)
  | fz h0 r0=>
   cases rq with
   | lst h1 r1=>
    obtain rfl:u=Value.ref _:=ru
    obtain rfl:w=Value.ref _:=rw'
    unfold eqF at h
    exact JC I hu' (.inr ⟨_,h0⟩) (.inl h1) r0 r1 h (Z7 n) ih'
   | fz h1 r1=>
    obtain rfl:u=Value.ref _:=ru
    obtain rfl:w=Value.ref _:=rw'
    unfold eqF at h
    exact JC I hu' (.inr ⟨_,h0⟩) (.inr ⟨_,h1⟩) r0 r1 h (Z7 n) ih'
   | _=>exact low (by unfold eqF at h ⊢; exact h)
  | _=>exact low (by cases rq <;> (unfold eqF at h ⊢; exact h))
end
section
variable {X:Cx} {Y:Fx} {a b c d:Expr} {fa fb fc fd:En->R T} {pos:Pos}
def rG (Y:Fx) (g:T->T->R T):R2:=fun x y H Q=>∃ B t t',zp B H/\Rep B x t/\Rep B y t' /\Po Y rC B H (g t t') Q
def zb (g:T->T->R T) (fa fb:En->R T):En->R T:=fun ρ=>(fa ρ).bind fun x=>(fb ρ).bind fun y=>g x y
theorem uY {op:Operator} {g:T->T->R T} (ho:OpR X (binaryOp op) (rG Y g)) (ha:Snd X Y a fa) (hb:Snd X Y b fb):Snd X Y (.BinOp a op b pos) (zb g fa fb):= .mk fun ρ=>
 PE.imp (Vy ho (ha ρ) (hb ρ)) fun σ H Q ⟨B,I,q⟩=>step I q fun t v H1 _ s1 r1 I1 q1=>step I1 q1 fun t' v' H2 _ s2 r2 I2 q2=>
  ⟨_,t,t',I2.sB,r1.mono (zL.ge I1.sB s2),r2,q2⟩
theorem po0 {g:R T} {B H:Hp} {Q:VK} {t:T} {v:V} (sB:zp B H) (q:Po Y rC B H g Q) (e:g= .ok t) (r:Rep B v t):Q v H:=by
 subst e
 exact q v H (zp.refl H) (by show Rep (zL B H H) v t; rw [zL.self B H sB]; exact r)
theorem VJ {g:R T} {B H:Hp} {Q:VK} {ts:List T} {xs:List V} {p:Addr} (sB:zp B H) (q:Po Y rC B H g Q) (e:g= .ok (.tup ts)) (r:zB B xs ts) (h:H p=none):Q (.ref p) (upd H p (.tup xs)):=by
 subst e
 exact q _ _ (zp.new h _) (.tup (jJ h _) (r.mono (zL.ge sB (zp.new h _))))
theorem xo {g:R T} {B H:Hp} {Q:VK} {ts:List T} {xs:List V} {p:Addr} (sB:zp B H) (q:Po Y rC B H g Q) (e:g= .ok (.lst ts)) (r:zB B xs ts) (h:H p=none):Q (.ref p) (upd H p (.lst xs)):=by
 subst e
 exact q _ _ (zp.new h _) (.lst (jJ h _) (r.mono (zL.ge sB (zp.new h _))))
def zu:T->T->R T
 | .int i, .int j=> .ok (.int (i+j))
 | .bl x, .int j=> .ok (.int (b2 x+j))
 | .int i, .bl y=> .ok (.int (i+b2 y))
 | .str x, .str y=>if x.length+y.length<=bnd then .ok (.str (x++y)) else .bad
 | .tup xs, .tup ys=>if xs.length+ys.length<=bnd then .ok (.tup (xs++ys)) else .bad
 | .lst xs, .lst ys=>if xs.length+ys.length<=bnd then .ok (.lst (xs++ys)) else .bad
 | _,_=> .bad
theorem yK {prog:Program} {w:World} {A:Around} {E:Value->Shared->Prop} {s:Shared} {t b:Addr} {vs ws:List Value} {Q:Value->Shared->Prop} (ht:IsTup s.heap t vs.toArray) (hb:IsTup s.heap b ws.toArray) (hv:vs=[])
  (h1:Q (.ref b) s):wpAny (model prog w) A (binaryOp .Add (.ref t) (.ref b)) Q E s:=by
 obtain ⟨⟨cls,dd,data,sl⟩,ho,hc,n,hd⟩:=id ht
 obtain ⟨⟨cls2,dd2,data2,sl2⟩,ho2,hc2,n2,hd2⟩:=id hb
 simp only at hc hd hc2 hd2
 subst hc hd hc2 hd2
 exact concat_meets ⟨_,ho,rfl⟩ ⟨_,ho2,rfl⟩ noFill_tuple_add seq_tuple_add PySem.F.slot_tuple_add PySem.F.entry_tuple_add (PySem.F.args_tuple_add_2 _ _)
   (tuple_addW0 t b vs.toArray ws.toArray n n2 dd dd2 sl sl2 (by simp [hv])) ⟨ho,ho2,h1⟩
theorem qE:OpR X (binaryOp .Add) (rG Y zu):=by
 intro pins s σ H x y v u Q I rx ry h
 obtain ⟨B,t,t',sB,r,r',q⟩:=h
 cases r with
 | int i=>
  cases r' with
  | int j=>exact QS pins s σ H _ _ v u Q I rx ry ⟨i,j,rfl,rfl,po0 sB q rfl (.int _)⟩
  | bl y=>exact uJ pins s σ H _ _ v u Q I rx ry ⟨i,y,rfl,rfl,po0 sB q rfl (.int _)⟩
  | _=>exact q.elim
 | bl x=>
  cases r' with
  | int j=>
   obtain rfl:v=Value.bool x:=rx
   obtain ⟨tk,rfl⟩:=ry
   exact IntBool.add_bool_int (⟨.int _,H,I.tok _,⟨_,rfl⟩,po0 sB q rfl (.int _)⟩)
  | _=>exact q.elim
 | str x=>
  cases r' with
  | str y=>
   by_cases hb:x.length+y.length<=bnd
   ·exact u7 pins s σ H _ _ v u Q I rx ry ⟨x,y,rfl,rfl,ZJ hb,po0 sB q (if_pos hb) (.str _)⟩
   ·rw [show zu (.str x) (.str y)= .bad from if_neg hb] at q; exact q.elim
  | _=>exact q.elim
 | @tup a xs ts h1 r1=>
  cases r' with
  | @tup a' ys us h2 r2=>
   by_cases hb:ts.length+us.length<=bnd
   ·have eg:zu (.tup ts) (.tup us)= .ok (.tup (ts++us)):=if_pos hb
    have hz:xs.length+ys.length<=sizeLine:=by rw [r1.length,r2.length]; exact ZJ hb
    by_cases hx:xs=[]
    ·obtain rfl:v=Value.ref a:=rx
     obtain rfl:u=Value.ref a' :=ry
     obtain ⟨its,rv,p,_⟩:=I.tuple (SqT.of (sB _ _ h1))
     obtain ⟨its',rv',p',_⟩:=I.tuple (SqT.of (sB _ _ h2))
     have et:ts=[]:=r1.nil_iff.mp hx
     refine yK p p' (rv.nil_iff.mpr hx) ⟨.ref a',H,I,rfl,po0 sB q eg ?_⟩
     rw [et]; exact .tup h2 r2
    ·refine qr pins s σ H _ _ v u Q I rx ry ⟨a,a',xs,ys,rfl,rfl,SqT.of (sB _ _ h1),SqT.of (sB _ _ h2),hx,hz,fun hy=> ?_,fun hy p hp=> ?_⟩
     ·refine po0 sB q eg ?_
      rw [r2.nil_iff.mp hy,List.append_nil]
      exact .tup h1 r1
     ·exact VJ sB q eg (r1.append r2) hp
   ·rw [show zu (.tup ts) (.tup us)= .bad from if_neg hb] at q; exact q.elim
  | _=>exact q.elim
 | @lst a xs ts h1 r1=>
  cases r' with
  | @lst a' ys us h2 r2=>
   by_cases hb:ts.length+us.length<=bnd
   ·have eg:zu (.lst ts) (.lst us)= .ok (.lst (ts++us)):=if_pos hb
    have hz:xs.length+ys.length<=sizeLine:=by rw [r1.length,r2.length]; exact ZJ hb
    exact ve pins s σ H _ _ v u Q I rx ry ⟨a,a',xs,ys,rfl,rfl,sB _ _ h1,sB _ _ h2,hz,fun p hp=>xo sB q eg (r1.append r2) hp⟩
   ·rw [show zu (.lst ts) (.lst us)= .bad from if_neg hb] at q; exact q.elim
  | _=>exact q.elim
 | _=>cases r' <;> exact q.elim
theorem zF (ha:Snd X Y a fa) (hb:Snd X Y b fb):Snd X Y (.BinOp a .Add b pos) (zb zu fa fb):=uY qE ha hb
def yL:T->T->R T
 | .int i, .int j=> .ok (.int (i - j))
 | _,_=> .bad
def wv:T->T->R T
 | .int i, .int j=>if 0 < j then .ok (.int (i % j)) else .bad
 | _,_=> .bad
def u9:T->T->R T
 | .int i, .int j=>if 0 < j/\j < 1073741824 then .ok (.int (i / j)) else .bad
 | _,_=> .bad
instance (i j:Int):Decidable (wa i j):=by unfold wa; infer_instance
def zP:T->T->R T
 | .int i, .int j=>if wa i j then .ok (.int (i*j)) else .bad
 | .lst xs, .int k=>if 0<=k/\k < 1000000/\xs.length*k.toNat<=bnd then .ok (.lst (List.replicate k.toNat xs).flatten) else .bad
 | .tup xs, .int k=>if 2<=k/\k < 1000000/\xs ≠ []/\xs.length*k.toNat<=bnd then .ok (.tup (List.replicate k.toNat xs).flatten) else .bad
 | _,_=> .bad
theorem qF:OpR X (binaryOp .Sub) (rG Y yL):=by
 intro pins s σ H x y v u Q I rx ry h
 obtain ⟨B,t,t',sB,r,r',q⟩:=h
 cases r with
 | int i=>
  cases r' with
  | int j=>exact QT pins s σ H _ _ v u Q I rx ry ⟨i,j,rfl,rfl,po0 sB q rfl (.int _)⟩
  | _=>exact q.elim
 | _=>cases r' <;> exact q.elim
theorem qG:OpR X (binaryOp .Mod) (rG Y wv):=by
 intro pins s σ H x y v u Q I rx ry h
 obtain ⟨B,t,t',sB,r,r',q⟩:=h
 cases r with
 | int i=>
  cases r' with
  | int j=>
   by_cases hj:0 < j
   ·exact QV pins s σ H _ _ v u Q I rx ry ⟨i,j,rfl,rfl,hj,po0 sB q (if_pos hj) (.int _)⟩
   ·rw [show wv (.int i) (.int j)= .bad from if_neg hj] at q; exact q.elim
  | _=>exact q.elim
 | _=>cases r' <;> exact q.elim
theorem yM:OpR X (binaryOp .FloorDiv) (rG Y u9):=by
 intro pins s σ H x y v u Q I rx ry h
 obtain ⟨B,t,t',sB,r,r',q⟩:=h
 cases r with
 | int i=>
  cases r' with
  | int j=>
   by_cases hj:0 < j/\j < 1073741824
   ·exact qk pins s σ H _ _ v u Q I rx ry ⟨i,j,rfl,rfl,hj,po0 sB q (if_pos hj) (.int _)⟩
   ·rw [show u9 (.int i) (.int j)= .bad from if_neg hj] at q; exact q.elim
  | _=>exact q.elim
 | _=>cases r' <;> exact q.elim
theorem ua (l:Addr) (items:Array Value) (n:Nat) (dd:Option Addr) (sl:Array (Option Value)) (x:Int) (u:Tok) (h1:2<=x) (h2:x < 1000000) (hne:items.isEmpty=false) (hsz:items.size*x.toNat<=sizeLine):
  Meets (Builtin.«tuple.__mul__» ⟨[.ref l, .int x u],[]⟩) (fun _ R s=>s.heap.get? l=some { cls:= .type "tuple",dict:=dd,data:= .seq items n,slots:=sl }/\
   R (.ok (.ret (Value.ref s.heap.objs.size))) { s with heap:=s.heap.push { cls:=Value.type "tuple",data:=Data.seq (List.foldl (fun x1 x2=>x1++x2) #[] (List.replicate x.toNat items)) },toks:=s.toks }):=
 .of_wp fun prog w A R s h=>by
  obtain ⟨hp,g,d,tk,os⟩:=s; obtain ⟨hl,h⟩:=h
  have f1:=AutoSeq1.idx_int
  have e0:(items.size:Int)*x=((items.size*x.toNat:Nat):Int):=by
   have:x=((x.toNat:Nat):Int):=by omega
   rw [Int.natCast_mul,← this]
  have sl1:(sizeLine:Nat)=16777216:=sizeLine_eq
  have c1:¬ (decide (x < -(2 ^ 63)) || decide (x ≥ 2 ^ 63))=true:=by simp; omega
  have c2:¬ (items.isEmpty || x == 1)=true:=by simp [hne]; omega
  have c3:¬ (decide (x<=0) || items.isEmpty)=true:=by simp [hne]; omega
  have c4:¬ ((items.size:Int)*x > (2 ^ 63 - 1) / 8):=by rw [e0]; omega
  have c5:¬ Builtin.Tuple.tupleTooMany ((items.size:Int)*x)=true:=by
   unfold Builtin.Tuple.tupleTooMany
   rw [e0]
   intro z
   have:=of_decide_eq_true z
   omega
  unfold Builtin.«tuple.__mul__»
  wp_walk using wpAny_loadPart' hl
  rw [if_neg c1]
  wp_walk using wpAny_loadPart' hl
  rw [if_neg c2]
  try dsimp only
  rw [if_neg c3]
  try dsimp only
  rw [if_neg c4]
  try dsimp only
  rw [if_neg c5]
  try dsimp only
  have hsz' :sizeOk (.seq (List.foldl (fun x1 x2=>x1++x2) #[] (List.replicate x.toNat items))):=by
   show (List.foldl (fun x1 x2=>x1++x2) #[] (List.replicate x.toNat items)).size<=sizeLine
   have:=jd items.toList x.toNat []
   rw [List.nil_append] at this
   have q:List.foldl (fun x1 x2=>x1++x2) #[] (List.replicate x.toNat items)=(List.replicate x.toNat items.toList).flatten.toArray:=by
    simpa using this
   rw [q,List.size_toArray,JB,Array.length_toList,Nat.mul_comm]
   exact hsz
  exact wpAny_bind (m:=Builtin.Tuple.tupleExact _) (wpAny_newObj_type (wpAny_pure ⟨_,rfl,h⟩) hsz')
theorem ww:seqRepeat? (.type "tuple")=pure (some (.builtin "tuple.__mul__")):=by
 unfold seqRepeat?
 rw [PySem.seqSlot_of (T:="tuple") (name:="__mul__") (id:="tuple.__mul__") F.slot_tuple_mul.lookup (by decide+kernel),PySem.seqSlot_of (T:="tuple") (name:="__rmul__") (id:="tuple.__rmul__") F.slot_tuple_rmul.lookup (by decide+kernel)]
 rfl
theorem jv:fillsNumberSlot (.type "tuple") "mul"=pure false:=
 PySem.fillsNumberSlot_seq (id:="tuple.__mul__") (r:=some (.builtin "tuple.__rmul__")) F.slot_tuple_mul.lookup (by decide+kernel) F.slot_tuple_rmul.lookup (by decide+kernel)
theorem Ji (a:Int) (t:Tok) (l:Addr) (items:Array Value) (n:Nat) (dd:Option Addr) (sl:Array (Option Value)):
  Meets (Builtin.«int.__rmul__» ⟨[.int a t, .ref l],[]⟩) (fun _ R s=>s.heap.get? l=some { cls:= .type "tuple",dict:=dd,data:= .seq items n,slots:=sl }/\R (.ok (.ret Value.notImplemented)) s):=
 .of_wp fun prog w A R s h=>by obtain ⟨hp,g,d,tk,os⟩:=s; obtain ⟨hl,h⟩:=h; wp_walk; exact ⟨_,rfl,h⟩
theorem qH {prog:Program} {w:World} {A:Around} {E:Value->Shared->Prop} {s:Shared} {l:Addr} {its:List Value} {k:Int} {t:Tok} {Q:Value->Shared->Prop} (p:IsTup s.heap l its.toArray) (hne:its ≠ []) (h1:2<=k) (h2:k < 1000000)
  (hsz:its.length*k.toNat<=sizeLine) (q:Q (.ref s.heap.objs.size) { s with heap:=s.heap.push { cls:= .type "tuple",data:= .seq (List.replicate k.toNat its).flatten.toArray } }):
  wpAny (model prog w) A (binaryOp .Mult (.ref l) (.int k t)) Q E s:=by
 obtain ⟨⟨cls,dd,data,sl⟩,ho,hc,n,hd⟩:=id p
 simp only at hc hd
 subst hc hd
 refine wpAny_binaryOp_repeat_ref (T:="tuple") (U:="int") (by decide) ⟨_,ho,rfl⟩ (fun s' =>typeIs_int s' k t) jv F.fills_int_mul F.slot_int_rmul ww F.slot_int_index.lookup
  (call_meets F.slot_int_rmul (typeIs_int s k t) F.entry_int_rmul (F.args_int_rmul_2 _ _) (Ji k t l its.toArray n dd sl)
   ⟨ho,rfl,⟨_,ho,rfl⟩,call_meets F.slot_tuple_mul ⟨_,ho,rfl⟩ F.entry_tuple_mul (F.args_tuple_mul_2 _ _) (ua l its.toArray n dd sl k t h1 h2 (by simpa using hne) (by simpa using hsz)) ⟨ho, ?_⟩⟩)
 have:=jd its k.toNat []
 rw [List.nil_append] at this
 rw [this]
 exact q
theorem qI:OpR X (binaryOp .Mult) (rG Y zP):=by
 intro pins s σ H x y v u Q I rx ry h
 obtain ⟨B,t,t',sB,r,r',q⟩:=h
 cases r with
 | int i=>
  cases r' with
  | int j=>
   by_cases hj:wa i j
   ·exact QU pins s σ H _ _ v u Q I rx ry ⟨i,j,rfl,rfl,hj,po0 sB q (if_pos hj) (.int _)⟩
   ·rw [show zP (.int i) (.int j)= .bad from if_neg hj] at q; exact q.elim
  | _=>exact q.elim
 | @lst l xs ts h1 r1=>
  cases r' with
  | int k=>
   by_cases hk:0<=k/\k < 1000000/\ts.length*k.toNat<=bnd
   ·have eg:zP (.lst ts) (.int k)= .ok (.lst (List.replicate k.toNat ts).flatten):=if_pos hk
    exact vf pins s σ H _ _ v u Q I rx ry ⟨l,k,xs,rfl,rfl,sB _ _ h1,by omega,by omega,by rw [r1.length]; exact ZJ hk.2.2,fun p hp=>xo sB q eg (r1.rep _) hp⟩
   ·rw [show zP (.lst ts) (.int k)= .bad from if_neg hk] at q; exact q.elim
  | _=>exact q.elim
 | @tup l xs ts h1 r1=>
  cases r' with
  | int k=>
   by_cases hk:2<=k/\k < 1000000/\ts ≠ []/\ts.length*k.toNat<=bnd
   ·have eg:zP (.tup ts) (.int k)= .ok (.tup (List.replicate k.toNat ts).flatten):=if_pos hk
    obtain rfl:v=Value.ref l:=rx
    obtain ⟨tk,rfl⟩:=ry
    obtain ⟨its,rv,p,_⟩:=I.tuple (SqT.of (sB _ _ h1))
    have ln:ts.length=its.length:=r1.length.symm.trans rv.length
    have hne:its ≠ []:=fun z=>hk.2.2.1 (by rw [z] at ln; exact List.length_eq_zero_iff.mp ln)
    refine qH p hne hk.1 hk.2.1 (by rw [← ln]; exact ZJ hk.2.2.2) ⟨.ref s.heap.objs.size,upd H s.heap.objs.size (.tup (List.replicate k.toNat xs).flatten),I.laid (t' :=s.toks) (fun b u e=>Heap.get?_push_of_some _ e) (Nat.le_refl _) ?_,rfl, ?_⟩
    ·exact ⟨by rw [JB,r1.length,Nat.mul_comm]; exact ZJ hk.2.2.2,(List.replicate k.toNat its).flatten,rv.rep _,⟨_,Heap.get?_push_size _ rfl,rfl,_,rfl⟩⟩
    ·exact VJ sB q eg (r1.rep _) (I.hok.fresh (Nat.le_refl _))
   ·rw [show zP (.tup ts) (.int k)= .bad from if_neg hk] at q; exact q.elim
  | _=>exact q.elim
 | _=>cases r' <;> exact q.elim
theorem uZ (ha:Snd X Y a fa) (hb:Snd X Y b fb):Snd X Y (.BinOp a .Sub b pos) (zb yL fa fb):=uY qF ha hb
theorem yN (ha:Snd X Y a fa) (hb:Snd X Y b fb):Snd X Y (.BinOp a .Mod b pos) (zb wv fa fb):=uY qG ha hb
theorem vh (ha:Snd X Y a fa) (hb:Snd X Y b fb):Snd X Y (.BinOp a .FloorDiv b pos) (zb u9 fa fb):=uY yM ha hb
theorem Zx (ha:Snd X Y a fa) (hb:Snd X Y b fb):Snd X Y (.BinOp a .Mult b pos) (zb zP fa fb):=uY qI ha hb
def yv (fa:En->R T):En->R T:=fun ρ=>(fa ρ).bind fun x=>match x with
 | .int i=> .ok (.int (-i))
 | _=> .bad
theorem U0 (ha:Snd X Y a fa):Snd X Y (.UnaryOp .USub a pos) (yv fa):= .mk fun ρ=>PE.imp (Vz QW (ha ρ)) fun σ H Q ⟨B,I,q⟩=>step I q fun t v H1 _ s1 r1 I1 q1=>by
 cases r1 with
 | int i=>exact ⟨i,rfl,po0 I1.sB q1 rfl (.int _)⟩
 | _=>exact q1.elim
def wx (g:T->T->R Bool):R2:=fun x y H Q=>∃ t t' b,Rep H x t/\Rep H y t' /\g t t' = .ok b/\Q (.bl b) H
def wX (g:T->T->R Bool) (fa fb:En->R T):En->R T:=fun ρ=>(fa ρ).bind fun x=>(fb ρ).bind fun y=>(g x y).bind fun b=> .ok (.bl b)
def Z8 (g:T->T->R Bool) (fa fb:En->R T):En->R Bool:=fun ρ=>(fa ρ).bind fun x=>(fb ρ).bind fun y=>g x y
def Nx (g:T->T->R Bool):Prop:=∀ t t' c,g t t' ≠ .ex c
theorem JD {op:CmpOp} {g:T->T->R Bool} (nx:Nx g) (ho:OpR X (compareOp op) (wx g)) (ha:jc X Y a fa) (hb:jc X Y b fb) (hm:behindInMarks op b=false):Snd X Y (.Compare a [op] [b] pos) (wX g fa fb):= .mk fun ρ=>
 PE.imp (ql ho (ha ρ) (hb ρ) hm) fun σ H Q ⟨B,I,q⟩=>step I q fun t v H1 _ s1 r1 I1 q1=>step I1 q1 fun t' v' H2 _ s2 r2 I2 q2=>by
  cases e:g t t' with
  | bad=>rw [e] at q2; exact q2.elim
  | ex c=>exact absurd e (nx _ _ _)
  | ok b=>rw [e] at q2; exact ⟨t,t',b,r1.mono s2,r2,e,ZU I2 q2 (.bl b)⟩
theorem zM {op:CmpOp} {g:T->T->R Bool} (nx:Nx g) (ho:OpR X (compareOp op) (wx g)) (ha:jc X Y a fa) (hb:jc X Y b fb) (hm:behindInMarks op b=false):WC X Y (.Compare a [op] [b] pos) (Z8 g fa fb):= .mk fun ρ=>
 PT.imp (qm ho (ha ρ) (hb ρ) hm) fun σ H Q ⟨B,I,q⟩=>step I q fun t v H1 _ s1 r1 I1 q1=>step I1 q1 fun t' v' H2 _ s2 r2 I2 q2=>by
  cases e:g t t' with
  | bad=>rw [e] at q2; exact q2.elim
  | ex c=>exact absurd e (nx _ _ _)
  | ok b=>rw [e] at q2; exact ⟨t,t',b,r1.mono s2,r2,e,b,rfl,ZU I2 q2 rfl⟩
def eqC (t t' :T):R Bool:=match eqF 30 t t' with
 | some b=> .ok b
 | none=> .bad
def neC (t t' :T):R Bool:=match eqF 30 t t' with
 | some b=> .ok (!b)
 | none=> .bad
theorem Z9:Nx eqC:=fun t t' c h=>by unfold eqC at h; split at h <;> cases h
theorem yO:Nx neC:=fun t t' c h=>by unfold neC at h; split at h <;> cases h
theorem zx (hu:X.A.units+64 < cLine):OpR X (compareOp .Eq) (wx eqC):=by
 intro pins s σ H x y v u Q I rx ry h
 obtain ⟨t,t',b,r,r',e,q⟩:=h
 unfold eqC at e
 split at e
 ·rename_i k ek
  have e' :k=b:=by injection e
  subst e'
  exact (qD I 30 X.A (by omega) t t' k x y v u ek r r' rx ry).2.1 _ _ _ _ ⟨.bl k,H,I,rfl,q⟩
 ·cases e
theorem WE (hu:X.A.units+64 < cLine):OpR X (compareOp .NotEq) (wx neC):=by
 intro pins s σ H x y v u Q I rx ry h
 obtain ⟨t,t',b,r,r',e,q⟩:=h
 unfold neC at e
 split at e
 ·rename_i k ek
  cases e
  exact (qD I 30 X.A (by omega) t t' k x y v u ek r r' rx ry).2.2 _ _ _ _ ⟨.bl (!k),H,I,rfl,q⟩
 ·cases e
def ltC:T->T->R Bool
 | .int i, .int j=> .ok (decide (i < j))
 | _,_=> .bad
def leC:T->T->R Bool
 | .int i, .int j=> .ok (decide (i<=j))
 | .str x, .str y=> .ok (!decide (y.cps.toList < x.cps.toList))
 | _,_=> .bad
def gtC:T->T->R Bool
 | .int i, .int j=> .ok (decide (j < i))
 | _,_=> .bad
theorem yP:Nx ltC:=fun t t' c h=>by unfold ltC at h; split at h <;> cases h
theorem ZV:Nx leC:=fun t t' c h=>by unfold leC at h; split at h <;> cases h
theorem qJ:Nx gtC:=fun t t' c h=>by unfold gtC at h; split at h <;> cases h
theorem WF:OpR X (compareOp .Lt) (wx ltC):=by
 intro pins s σ H x y v u Q I rx ry h
 obtain ⟨t,t',b,r,r',e,q⟩:=h
 unfold ltC at e
 split at e
 ·rename_i i j; cases e; cases r; cases r'; exact VB pins s σ H _ _ v u Q I rx ry ⟨i,j,rfl,rfl,q⟩
 ·cases e
theorem U1:OpR X (compareOp .Gt) (wx gtC):=by
 intro pins s σ H x y v u Q I rx ry h
 obtain ⟨t,t',b,r,r',e,q⟩:=h
 unfold gtC at e
 split at e
 ·rename_i i j; cases e; cases r; cases r'; exact VD pins s σ H _ _ v u Q I rx ry ⟨i,j,rfl,rfl,q⟩
 ·cases e
theorem Zn:OpR X (compareOp .LtE) (wx leC):=by
 intro pins s σ H x y v u Q I rx ry h
 obtain ⟨t,t',b,r,r',e,q⟩:=h
 unfold leC at e
 split at e
 ·rename_i i j; cases e; cases r; cases r'; exact VC pins s σ H _ _ v u Q I rx ry ⟨i,j,rfl,rfl,q⟩
 ·rename_i i j; cases e; cases r; cases r'
  obtain ⟨t1,rfl⟩:=rx
  obtain ⟨t2,rfl⟩:=ry
  exact PySem.P.le_str ⟨.bl _,H,I,rfl,q⟩
 ·cases e
end
section
variable {X:Cx} {Y:Fx} {a b c d:Expr} {fa fb fc fd:En->R T} {pos:Pos}
def yQ (f:T->Option Bool):List T->Option Bool
 | []=>some false
 | t :: r=>match f t with
  | none=>none
  | some b=>match yQ f r with
   | none=>none
   | some c=>some (b || c)
def inC (t t' :T):R Bool:=match t' with
 | .tup ys=>match yQ (fun y=>eqF 30 y t) ys with | some b=> .ok b | none=> .bad
 | .lst ys=>match yQ (fun y=>eqF 30 y t) ys with | some b=> .ok b | none=> .bad
 | _=> .bad
def yR (t t' :T):R Bool:=(inC t t').bind fun b=> .ok (!b)
theorem yS:Nx inC:=fun t t' c h=>by
 unfold inC at h
 split at h
 ·split at h <;> cases h
 ·split at h <;> cases h
 ·cases h
theorem vi:Nx yR:=fun t t' c h=>by
 unfold yR at h
 cases e:inC t t' with
 | bad=>rw [e] at h; cases h
 | ex k=>exact absurd e (yS _ _ _)
 | ok k=>rw [e] at h; cases h
open Classical in
theorem qK {H:Hp} (f:T->Option Bool):∃ e:Value->Bool,∀ (v:V) (t:T) (u:Value) (b:Bool),Zj v u->Rep H v t->f t=some b->e u=b:=by
 refine ⟨fun u=>decide (∃ v t,Zj v u/\Rep H v t/\f t=some true),fun v t u b rv r e=> ?_⟩
 cases b with
 | true=>exact decide_eq_true ⟨v,t,rv,r,e⟩
 | false=>
  refine decide_eq_false ?_
  rintro ⟨v',t',rv',r',e'⟩
  have:=rv.inj rv'; subst this
  have:=r.fn r'; subst this
  rw [e] at e'; cases e'
theorem U2 {H:Hp} {f:T->Option Bool} {e:Value->Bool} (he:∀ (v:V) (t:T) (u:Value) (b:Bool),Zj v u->Rep H v t->f t=some b->e u=b):∀ {xs:List V} {ts:List T} {its:List Value} {b:Bool},
  Z3 xs its->zB H xs ts->yQ f ts=some b->its.any e=b/\∀ u∈its,∃ v t k,Zj v u/\Rep H v t/\f t=some k
 | _,_,_,b, .nil, .nil,h=>by
  have h' :some false=some b:=h
  cases h'
  exact ⟨rfl,fun u hu=>by simp at hu⟩
 | _,_,_,b, .cons rv vs, .cons r rs,h=>by
  rename_i v u vals us t ts
  unfold yQ at h
  cases q:f t with
  | none=>rw [q] at h; cases h
  | some k=>
   rw [q] at h
   cases q' :yQ f ts with
   | none=>rw [q'] at h; cases h
   | some k' =>
    rw [q'] at h
    cases h
    obtain ⟨h1,h2⟩:=U2 he vs rs q'
    refine ⟨by rw [List.any_cons,h1,he v t u k rv r q],fun w hw=> ?_⟩
    rcases List.mem_cons.mp hw with rfl | hw
    ·exact ⟨v,t,k,rv,r,q⟩
    ·exact h2 w hw
theorem U3 (hu:X.A.units+64 < cLine) (neg:Bool):OpR X (compareOp (if neg then .NotIn else .In)) (wx (if neg then yR else inC)):=by
 intro pins s σ H x y v u Q I rx ry h
 obtain ⟨t,t',b,r,r',e,q⟩:=h
 have hs:∃ k,inC t t' = .ok k/\b=(if neg then !k else k):=by
  cases neg with
  | false=>exact ⟨b,e,rfl⟩
  | true=>
   have e' :yR t t' = .ok b:=e
   unfold yR at e'
   cases z:inC t t' with
   | bad=>rw [z] at e'; cases e'
   | ex k=>exact absurd z (yS _ _ _)
   | ok k=>rw [z] at e'; cases e'; exact ⟨k,rfl,rfl⟩
 obtain ⟨k,ek,rfl⟩:=hs
 unfold inC at ek
 obtain ⟨f,hf⟩:=qK (H:=H) fun y=>eqF 30 y t
 have eqa:∀ w,(∃ v t' k,Zj v w/\Rep H v t' /\eqF 30 t' t=some k)->SeqAt.EqAt X.A.in1 s w v (f w):=fun w ⟨v',t',k,rv,rr,ee⟩=>by
  rw [hf v' t' w k rv rr ee]
  exact (qD I 30 X.A.in1 (by rw [wu]; omega) t' t k v' x w v ee rr r rv rx).1
 split at ek
 ·rename_i ys
  split at ek
  ·rename_i k' hk
   cases ek
   cases r' with
   | @tup l xs _ h1 r1=>
    obtain rfl:u=Value.ref l:=ry
    obtain ⟨its,rv,p,_⟩:=ZE I h1 r1
    obtain ⟨h2,h3⟩:=U2 hf rv r1 hk
    have h4:its.toArray.any f=k:=by simpa using h2
    cases neg with
    | false=>exact SeqAt.in_tupleAt f p (fun w hw=>eqa w (h3 w (by simpa using hw))) (by rw [h4]; exact ⟨.bl k,H,I,rfl,q⟩)
    | true=>exact SeqAt.notIn_tupleAt f p (fun w hw=>eqa w (h3 w (by simpa using hw))) (by rw [h4]; exact ⟨.bl (!k),H,I,rfl,q⟩)
  ·cases ek
 ·rename_i ys
  split at ek
  ·rename_i k' hk
   cases ek
   cases r' with
   | @lst l xs _ h1 r1=>
    obtain rfl:u=Value.ref l:=ry
    obtain ⟨its,rv,p,_⟩:=zw I (.inl h1) r1
    obtain ⟨h2,h3⟩:=U2 hf rv r1 hk
    have h4:its.toArray.any f=k:=by simpa using h2
    cases neg with
    | false=>exact SeqAt.in_listAt f p (fun w hw=>eqa w (h3 w (by simpa using hw))) (by rw [h4]; exact ⟨.bl k,H,I,rfl,q⟩)
    | true=>exact SeqAt.notIn_listAt f p (fun w hw=>eqa w (h3 w (by simpa using hw))) (by rw [h4]; exact ⟨.bl (!k),H,I,rfl,q⟩)
  ·cases ek
 ·cases ek
theorem Yy (hu:X.A.units+64 < cLine):OpR X (compareOp .In) (wx inC):=U3 hu false
theorem qL (hu:X.A.units+64 < cLine):OpR X (compareOp .NotIn) (wx yR):=U3 hu true
def isNC (t t' :T):R Bool:=match t' with
 | .non=>match t with | .non=> .ok true | _=> .ok false
 | .bl k=>match t with | .bl j=> .ok (j == k) | _=> .ok false
 | _=> .bad
def chE (g g' :T->T->R Bool) (fa fb fc:En->R T):En->R T:=fun ρ=>(fa ρ).bind fun x=>(fb ρ).bind fun y=>(g x y).bind fun k=>if k=true then (fc ρ).bind fun z=>(g' y z).bind fun k' => .ok (.bl k') else .ok (.bl false)
def chT (g g' :T->T->R Bool) (fa fb fc:En->R T):En->R Bool:=fun ρ=>(fa ρ).bind fun x=>(fb ρ).bind fun y=>(g x y).bind fun k=>if k=true then (fc ρ).bind fun z=>g' y z else .ok false
theorem jK {op op' :CmpOp} {g g' :T->T->R Bool} (nx:Nx g) (nx' :Nx g') (ho:OpR X (compareOp op) (wx g)) (ho' :OpR X (compareOp op') (wx g')) (ha:jc X Y a fa) (hb:jc X Y b fb) (hc:jc X Y c fc)
  (hm:lastMarks [op,op'] [b,c]=false:=by with_unfolding_all rfl):Snd X Y (.Compare a [op,op'] [b,c] pos) (chE g g' fa fb fc):= .mk fun ρ=>
 PE.imp (yF ho ho' (ha ρ) (hb ρ) (hc ρ) hm) fun σ H Q ⟨B,I,q⟩=>step I q fun t v H1 _ s1 r1 I1 q1=>step I1 q1 fun t' v' H2 _ s2 r2 I2 q2=>by
  cases e:g t t' with
  | bad=>rw [e] at q2; exact q2.elim
  | ex c=>exact absurd e (nx _ _ _)
  | ok k=>
   rw [e] at q2
   refine ⟨t,t',k,r1.mono s2,r2,e,k,rfl, ?_⟩
   cases k with
   | false=>exact ZU I2 q2 (.bl false)
   | true=>
    refine step I2 q2 fun t3 v3 H3 _ s3 r3 I3 q3=> ?_
    ·cases e:g' t' t3 with
     | bad=>rw [e] at q3; exact q3.elim
     | ex c=>exact absurd e (nx' _ _ _)
     | ok k=>rw [e] at q3; exact ⟨t',t3,k,r2.mono s3,r3,e,ZU I3 q3 (.bl k)⟩
theorem qM {op op' :CmpOp} {g g' :T->T->R Bool} (nx:Nx g) (nx' :Nx g') (ho:OpR X (compareOp op) (wx g)) (ho' :OpR X (compareOp op') (wx g')) (ha:jc X Y a fa) (hb:jc X Y b fb) (hc:jc X Y c fc)
  (hm:lastMarks [op,op'] [b,c]=false:=by with_unfolding_all rfl):WC X Y (.Compare a [op,op'] [b,c] pos) (chT g g' fa fb fc):= .mk fun ρ=>
 PT.imp (yG ho ho' (ha ρ) (hb ρ) (hc ρ) hm) fun σ H Q ⟨B,I,q⟩=>step I q fun t v H1 _ s1 r1 I1 q1=>step I1 q1 fun t' v' H2 _ s2 r2 I2 q2=>by
  cases e:g t t' with
  | bad=>rw [e] at q2; exact q2.elim
  | ex c=>exact absurd e (nx _ _ _)
  | ok k=>
   rw [e] at q2
   refine ⟨t,t',k,r1.mono s2,r2,e,k,rfl, ?_⟩
   cases k with
   | false=>exact ⟨false,rfl,ZU I2 q2 rfl⟩
   | true=>
    refine step I2 q2 fun t3 v3 H3 _ s3 r3 I3 q3=> ?_
    ·cases e:g' t' t3 with
     | bad=>rw [e] at q3; exact q3.elim
     | ex c=>exact absurd e (nx' _ _ _)
     | ok k=>rw [e] at q3; exact ⟨t',t3,k,r2.mono s3,r3,e,k,rfl,ZU I3 q3 rfl⟩
def qN (r r' r'' :R2) (ta tb tc td:TE):TE:=fun σ H Q=>ta σ H fun x H1=>tb σ H1 fun y H2=>r x y H2 fun z H3=>∃ k,z= .bl k/\
 (if k=true then tc σ H3 fun w' H4=>r' y w' H4 fun z' H5=>∃ k',z' = .bl k' /\(if k' =true then td σ H5 fun w2 H6=>r'' w' w2 H6 Q else Q (.bl false) H5) else Q (.bl false) H3)
theorem U4 {op op' op'' :CmpOp} {r r' r'' :R2} {ta tb tc td:TE} (ho:OpR X (compareOp op) r) (ho' :OpR X (compareOp op') r') (ho'' :OpR X (compareOp op'') r'') (ha:PE X a ta) (hb:PE X b tb) (hc:PE X c tc) (hd:PE X d td)
  (hm:lastMarks [op,op',op''] [b,c,d]=false:=by with_unfolding_all rfl):PE X (.Compare a [op,op',op''] [b,c,d] pos) (qN r r' r'' ta tb tc td):=by
 intro pins s σ H Q I h
 refine Compare_chain (thn (ha pins s σ H _ I h) fun v s1 ⟨x,H1,I1,r1,q1⟩=>chain_link (thn (hb pins s1 σ H1 _ I1 q1) fun u s2 ⟨y,H2,I2,r2,q2⟩=>
  thn (ho pins s2 σ H2 x y v u _ I2 r1 r2 q2) fun d' s3 ⟨z,H3,I3,r3,k,e,q3⟩=> ?_)) hm
 subst e
 cases r3
 refine wpAny_truthy_bool ?_
 cases k with
 | false=>exact ite_ff ⟨.bl false,H3,I3,rfl,q3⟩
 | true=>
  refine ite_tt (chain_link (thn (hc pins s3 σ H3 _ I3 q3) fun w' s4 ⟨z',H4,I4,r4,q4⟩=>thn (ho' pins s4 σ H4 y z' u w' _ I4 r2 r4 q4) fun d2 s5 ⟨z5,H5,I5,r5,k5,e5,q5⟩=> ?_))
  subst e5
  cases r5
  refine wpAny_truthy_bool ?_
  cases k5 with
  | false=>exact ite_ff ⟨.bl false,H5,I5,rfl,q5⟩
  | true=>exact ite_tt (chain_last (thn (hd pins s5 σ H5 _ I5 q5) fun w6 s6 ⟨z6,H6,I6,r6,q6⟩=>ho'' pins s6 σ H6 z' z6 w' w6 Q I6 r4 r6 q6))
def xp (g g' g'' :T->T->R Bool) (fa fb fc fd:En->R T):En->R T:=fun ρ=>(fa ρ).bind fun x=>(fb ρ).bind fun y=>(g x y).bind fun k=>if k=true then (fc ρ).bind fun z=>(g' y z).bind fun k' =>
 if k' =true then (fd ρ).bind fun w=>(g'' z w).bind fun k'' => .ok (.bl k'') else .ok (.bl false) else .ok (.bl false)
theorem yT {op op' op'' :CmpOp} {g g' g'' :T->T->R Bool} (nx:Nx g) (nx' :Nx g') (nx'' :Nx g'') (ho:OpR X (compareOp op) (wx g)) (ho' :OpR X (compareOp op') (wx g')) (ho'' :OpR X (compareOp op'') (wx g''))
  (ha:jc X Y a fa) (hb:jc X Y b fb) (hc:jc X Y c fc) (hd:jc X Y d fd)
  (hm:lastMarks [op,op',op''] [b,c,d]=false:=by with_unfolding_all rfl):Snd X Y (.Compare a [op,op',op''] [b,c,d] pos) (xp g g' g'' fa fb fc fd):= .mk fun ρ=>
 PE.imp (U4 ho ho' ho'' (ha ρ) (hb ρ) (hc ρ) (hd ρ) hm) fun σ H Q ⟨B,I,q⟩=>step I q fun t v H1 _ s1 r1 I1 q1=>step I1 q1 fun t' v' H2 _ s2 r2 I2 q2=>by
  cases e:g t t' with
  | bad=>rw [e] at q2; exact q2.elim
  | ex c=>exact absurd e (nx _ _ _)
  | ok k=>
   rw [e] at q2
   refine ⟨t,t',k,r1.mono s2,r2,e,k,rfl, ?_⟩
   cases k with
   | false=>exact ZU I2 q2 (.bl false)
   | true=>
    refine step I2 q2 fun t3 v3 H3 _ s3 r3 I3 q3=> ?_
    ·cases e:g' t' t3 with
     | bad=>rw [e] at q3; exact q3.elim
     | ex c=>exact absurd e (nx' _ _ _)
     | ok k=>
      rw [e] at q3
      refine ⟨t',t3,k,r2.mono s3,r3,e,k,rfl, ?_⟩
      cases k with
      | false=>exact ZU I3 q3 (.bl false)
      | true=>
       refine step I3 q3 fun t4 v4 H4 _ s4 r4 I4 q4=> ?_
       ·cases e:g'' t3 t4 with
        | bad=>rw [e] at q4; exact q4.elim
        | ex c=>exact absurd e (nx'' _ _ _)
        | ok k=>rw [e] at q4; exact ⟨t3,t4,k,r3.mono s4,r4,e,ZU I4 q4 (.bl k)⟩
variable {rest:List Expr} {ga gb:En->R Bool}
def wY (fa fb:En->R T):En->R T:=fun ρ=>(fa ρ).bind fun x=>match x with
 | .bl true=>fb ρ
 | .bl false=> .ok (.bl false)
 | _=> .bad
def xr (fa:En->R T):En->R T:=fun ρ=>(fa ρ).bind fun x=>match x with
 | .bl k=> .ok (.bl (!k))
 | _=> .bad
theorem Jj {op} (h:Snd X Y a fa):Snd X Y (.BoolOp op [a] pos) fa:= .mk fun ρ=>QM (h ρ)
theorem je (ha:Snd X Y a fa) (hb:Snd X Y (.BoolOp .And (b :: rest) pos) fb):Snd X Y (.BoolOp .And (a :: b :: rest) pos) (wY fa fb):= .mk fun ρ=>
 PE.imp (QN (ha ρ) (hb ρ)) fun σ H Q ⟨B,I,q⟩=>step I q fun t v H1 _ s1 r1 I1 q1=>by
  cases r1 with
  | bl k=>
   refine ⟨k,rfl, ?_⟩
   cases k with
   | true=>exact ⟨_,I1,q1⟩
   | false=>exact ZU I1 q1 (.bl false)
  | _=>exact q1.elim
theorem VL (ha:Snd X Y a fa):Snd X Y (.UnaryOp .Not a pos) (xr fa):= .mk fun ρ=>
 PE.imp (QO (ha ρ)) fun σ H Q ⟨B,I,q⟩=>step I q fun t v H1 _ s1 r1 I1 q1=>by
  cases r1 with
  | bl k=>exact ⟨k,rfl,ZU I1 q1 (.bl (!k))⟩
  | _=>exact q1.elim
structure wy (X:Cx) (Y:Fx) (e:Expr) (f:En->R Bool):Prop where
 mk ::
 go:∀ ρ,PW X e (tS Y rE f ρ)
instance {X:Cx} {Y:Fx} {e:Expr} {f:En->R Bool}:CoeFun (wy X Y e f) fun _=>∀ ρ,PW X e (tS Y rE f ρ):=⟨wy.go⟩
theorem wy.t {e:Expr} {f:En->R Bool} (h:wy X Y e f):WC X Y e f:= .mk fun ρ=>(h ρ).pt
theorem PW.imp {e:Expr} {t t' :TT} (h:PW X e t) (i:∀ σ H Q,t' σ H Q->t σ H Q):PW X e t' :=fun wh pins s σ H Q I q=>h wh pins s σ H Q I (i σ H Q q)
def Va (fa fb:En->R Bool):En->R Bool:=fun ρ=>(fa ρ).bind fun x=>if x=true then fb ρ else .ok false
def orT (fa fb:En->R Bool):En->R Bool:=fun ρ=>(fa ρ).bind fun x=>if x=true then .ok true else fb ρ
def yU (fa:En->R Bool):En->R Bool:=fun ρ=>(fa ρ).bind fun x=> .ok (!x)
theorem vj (h:WC X Y a ga):wy X Y (.BoolOp .And [a] pos) ga:= .mk fun ρ=>qh (h ρ)
theorem ub (h:WC X Y a ga):wy X Y (.BoolOp .Or [a] pos) ga:= .mk fun ρ=>QJ (h ρ)
theorem VM (ha:WC X Y a ga) (hb:wy X Y (.BoolOp .And (b :: rest) pos) gb):wy X Y (.BoolOp .And (a :: b :: rest) pos) (Va ga gb):= .mk fun ρ=>
 PW.imp (QK (ha ρ) (hb ρ)) fun σ H Q ⟨B,I,q⟩=>step I q fun t v H1 _ s1 r1 I1 q1=>by
  have r1' :v=t:=r1
  subst r1'
  cases v with
  | true=>exact ⟨_,I1,q1⟩
  | false=>exact ZU I1 q1 rfl
theorem qO (ha:WC X Y a ga) (hb:wy X Y (.BoolOp .Or (b :: rest) pos) gb):wy X Y (.BoolOp .Or (a :: b :: rest) pos) (orT ga gb):= .mk fun ρ=>
 PW.imp (Vn (ha ρ) (hb ρ)) fun σ H Q ⟨B,I,q⟩=>step I q fun t v H1 _ s1 r1 I1 q1=>by
  have r1' :v=t:=r1
  subst r1'
  cases v with
  | false=>exact ⟨_,I1,q1⟩
  | true=>exact ZU I1 q1 rfl
theorem uc (ha:WC X Y a ga):WC X Y (.UnaryOp .Not a pos) (yU ga):= .mk fun ρ=>
 PT.imp (QL (ha ρ)) fun σ H Q ⟨B,I,q⟩=>step I q fun t v H1 _ s1 r1 I1 q1=>by
  have r1' :v=t:=r1
  subst r1'
  exact ZU I1 q1 rfl
def tru:T->R Bool
 | .bl k=> .ok k
 | .non=> .ok false
 | .int i=> .ok (i != 0)
 | .tup xs=> .ok (!xs.isEmpty)
 | .lst xs=> .ok (!xs.isEmpty)
 | _=> .bad
def yw (fa:En->R T):En->R Bool:=fun ρ=>(fa ρ).bind tru
theorem isE {H:Hp} {xs:List V} {ts:List T} (r:zB H xs ts):(!xs.isEmpty)= !ts.isEmpty:=by cases r <;> rfl
theorem W8 (ha:jc X Y a fa) (he:∀ whole,isTrue a X.env whole=(do let v ← whole; standAt a.pos; holding [v] (truthy v)):=by intro _; rfl):WC X Y a (yw fa):= .mk fun ρ=>
 PT.imp (yH (ha ρ) he) fun σ H Q ⟨B,I,q⟩=>step I q fun t v H1 _ s1 r1 I1 q1=>by
  cases r1 with
  | bl k=>exact ⟨k,rfl,ZU I1 q1 rfl⟩
  | non=>exact ⟨false,rfl,ZU I1 q1 rfl⟩
  | int i=>exact ⟨_,rfl,ZU I1 q1 rfl⟩
  | tup h r=>exact ⟨_, .inr (.inl ⟨_,SqT.of h,rfl⟩),ZU I1 q1 (isE r)⟩
  | lst h r=>exact ⟨_, .inl ⟨_,SqL.of h,rfl⟩,ZU I1 q1 (isE r)⟩
  | _=>exact q1.elim
def ifE (g:En->R Bool) (fa fb:En->R T):En->R T:=fun ρ=>(g ρ).bind fun k=>if k=true then fa ρ else fb ρ
theorem vk (hc:WC X Y c ga) (ha:Snd X Y a fa) (hb:Snd X Y b fb):Snd X Y (.IfExp c a b pos) (ifE ga fa fb):= .mk fun ρ=>
 PE.imp (yC (hc ρ) (ha ρ) (hb ρ)) fun σ H Q ⟨B,I,q⟩=>step I q fun t v H1 _ s1 r1 I1 q1=>by
  have r1' :v=t:=r1
  subst r1'
  cases v with
  | true=>exact ⟨_,I1,q1⟩
  | false=>exact ⟨_,I1,q1⟩
end
end PV
namespace PV
open PySem PySem.Spec PyProof.Rows L2
section
variable {X:Cx} {Y:Fx} {a b c d:Expr} {fa fb fc fd:En->R T} {pos p:Pos}
def ap1 (g:T->R T) (fa:En->R T):En->R T:=fun ρ=>(fa ρ).bind g
abbrev St1 (X:Cx) (a:Expr):Prop:=starEach [a] X.env=[(false,eval a X.env)]
theorem wz {id:String} {x:Str} {r:List V->Hp->VK->Prop} {g:T->R T} (hc:Zr X (.builtin id) r) (hr:∀ v t B H Q,Rep H v t->zp B H->Po Y rC B H (g t) Q->r [v] H Q)
  (gl:Gl X x) (mg:X.mg x=none) (bt:bootBuiltins x=some (.builtin id)) (ha:jc X Y a fa) (hs:St1 X a:=by exact st1 rfl) (hn:x ≠ "__name__":=by decide) (hd:(x == ("__debug__":Str))=false:=by decide):Snd X Y (.Call (.Name x p) [a] [] pos) (ap1 g fa):= .mk fun ρ=>
 PE.imp (j0 hc gl mg bt (zt (ha ρ) Zf hs) hn hd hs rfl) fun σ H Q ⟨B,I,q⟩=>step I q fun t v H1 _ s1 r1 I1 q1=>hr v t _ H1 Q r1 I1.sB q1
theorem Yz {id:String} {x:Str} {r:List V->Hp->VK->Prop} {g:T->R T} (hc:Zr X (.type id) r) (hr:∀ v t B H Q,Rep B v t->zp B H->Po Y rC B H (g t) Q->r [v] H Q)
  (gl:Gl X x) (mg:X.mg x=none) (bt:bootBuiltins x=some (.type id)) (ha:Snd X Y a fa) (hs:St1 X a:=by exact st1 rfl) (hn:x ≠ "__name__":=by decide) (hd:(x == ("__debug__":Str))=false:=by decide):Snd X Y (.Call (.Name x p) [a] [] pos) (ap1 g fa):= .mk fun ρ=>
 PE.imp (ZS hc gl mg bt (zt (ha ρ) Zf hs) hn hd hs rfl) fun σ H Q ⟨B,I,q⟩=>step I q fun t v H1 _ s1 r1 I1 q1=>hr v t _ H1 Q r1 I1.sB q1
def Jk:T->R T
 | .tup xs=> .ok (.int xs.length)
 | .lst xs=> .ok (.int xs.length)
 | .fz xs=> .ok (.int xs.length)
 | .str x=>if x.length<=bnd then .ok (.int x.length) else .bad
 | _=> .bad
theorem VN (v:V) (t:T) (B H:Hp) (Q:VK) (r:Rep H v t) (sB:zp B H) (q:Po Y rC B H (Jk t) Q):
  (∃ p ys,[v]=[V.ref p]/\(SqL X.K H p ys\/SqT X.K H p ys)/\Q (V.int ys.length) H)\/(∃ z,[v]=[V.str z]/\z.length<=sizeLine/\Q (V.int z.length) H):=by
 cases r with
 | tup h r=>exact .inl ⟨_,_,rfl, .inr (SqT.of h),po0 sB q rfl (by rw [r.length]; exact .int _)⟩
 | lst h r=>exact .inl ⟨_,_,rfl, .inl (SqL.of h),po0 sB q rfl (by rw [r.length]; exact .int _)⟩
 | fz h r=>exact .inl ⟨_,_,rfl, .inl (.inl (.inr ⟨_,h⟩)),po0 sB q rfl (by rw [r.length]; exact .int _)⟩
 | str x=>
  by_cases hb:x.length<=bnd
  ·exact .inr ⟨x,rfl,ZJ hb,po0 sB q (if_pos hb) (.int _)⟩
  ·rw [show Jk (.str x)= .bad from if_neg hb] at q; exact q.elim
 | _=>exact q.elim
theorem jL (gl:Gl X "len") (mg:X.mg "len"=none) (ha:jc X Y a fa) (hs:St1 X a:=by exact st1 rfl):Snd X Y (.Call (.Name "len" p) [a] [] pos) (ap1 Jk fa):=
 wz (wm.or wn) VN gl mg PySem.boot_len ha hs
def Vb:T->R T
 | .tup xs=> .ok (.tup xs)
 | .lst xs=> .ok (.tup xs)
 | _=> .bad
theorem VO (v:V) (t:T) (B H:Hp) (Q:VK) (r:Rep B v t) (sB:zp B H) (q:Po Y rC B H (Vb t) Q):
  ∃ p ys,[v]=[V.ref p]/\((SqL X.K H p ys/\∀ l,H l=none->Q (.ref l) (upd H l (.tup ys)))\/(SqT X.K H p ys/\Q (.ref p) H)):=by
 cases r with
 | tup h r=>exact ⟨_,_,rfl, .inr ⟨SqT.of (sB _ _ h),po0 sB q rfl (.tup h r)⟩⟩
 | lst h r=>exact ⟨_,_,rfl, .inl ⟨SqL.of (sB _ _ h),fun l hl=>VJ sB q rfl r hl⟩⟩
 | _=>exact q.elim
theorem U5 (gl:Gl X "tuple") (mg:X.mg "tuple"=none) (ha:Snd X Y a fa) (hs:St1 X a:=by exact st1 rfl):Snd X Y (.Call (.Name "tuple" p) [a] [] pos) (ap1 Vb fa):=
 Yz JA VO gl mg (PyProof.Rows.Boot.«tuple») ha hs
def tyN:T->String
 | .non=>"NoneType"
 | .bl _=>"bool"
 | .int _=>"int"
 | .str _=>"str"
 | .tup _=>"tuple"
 | .lst _=>"list"
 | .fz _=>"list"
def isT (n:String) (t:T):Bool:=tyN t == n || (n == "int" && tyN t == "bool")
theorem VP {H:Hp} {v:V} {t:T} (K:PySem.W.Frag) (r:Rep H v t):u8 K H v (.type (tyN t)):=by
 cases r with
 | non=>exact .non
 | bl b=>exact .bl b
 | int b=>exact .int b
 | str b=>exact .str b
 | tup h _=>exact .tup h
 | lst h _=>exact .lst h
 | fz h _=>exact .frz h
theorem yV:Zr X (.builtin "isinstance") (fun xs H Q=>∃ v n t,xs=[v, .ty n]/\Rep H v t/\PySem.W.kitOne X.K (.type (tyN t)) (.type n)=some (isT n t)/\Q (.bl (isT n t)) H):=by
 intro pins s σ H xs us Q I rv h
 obtain ⟨v,n,t,rfl,r,hk,q⟩:=h
 obtain ⟨u,w,rfl,ru,rw'⟩:=yI rv
 obtain rfl:w=Value.type n:=rw'
 exact uO I ru (VP X.K r) hk fun tk=>⟨.bl _,H,I.tok tk,rfl,q⟩
def yW (n:String) (t:T):R T:= .ok (.bl (isT n t))
theorem qP (K:PySem.W.Frag) (t:T):PySem.W.kitOne K (.type (tyN t)) (.type "int")=some (isT "int" t):=by cases t <;> rfl
theorem yX (K:PySem.W.Frag) (t:T):PySem.W.kitOne K (.type (tyN t)) (.type "bool")=some (isT "bool" t):=by cases t <;> rfl
theorem U6 (K:PySem.W.Frag) (t:T):PySem.W.kitOne K (.type (tyN t)) (.type "str")=some (isT "str" t):=by cases t <;> rfl
theorem jM (K:PySem.W.Frag) (t:T):PySem.W.kitOne K (.type (tyN t)) (.type "tuple")=some (isT "tuple" t):=by cases t <;> rfl
theorem W9 {n:String} {p' :Pos} (hk:∀ t,PySem.W.kitOne X.K (.type (tyN t)) (.type n)=some (isT n t)) (gl:Gl X "isinstance") (mg:X.mg "isinstance"=none) (gl' :Gl X (Str.ofString n)) (mg' :X.mg (Str.ofString n)=none) (bt:bootBuiltins (Str.ofString n)=some (.type n)) (ha:jc X Y a fa)
  (hs:starEach [a, .Name (Str.ofString n) p'] X.env=[(false,eval a X.env),(false,eval (.Name (Str.ofString n) p') X.env)]:=by exact st2 rfl rfl) (hs2:starEach [.Name (Str.ofString n) p'] X.env=[(false,eval (.Name (Str.ofString n) p') X.env)]:=by exact st1 rfl)
  (hn:Str.ofString n ≠ "__name__":=by decide) (hd:(Str.ofString n == ("__debug__":Str))=false:=by decide) (hz:((backTo pos (starEach [.Name (Str.ofString n) p'] X.env)).any fun x=>x.fst)=false:=by exact ZM rfl):
  Snd X Y (.Call (.Name "isinstance" p) [a, .Name (Str.ofString n) p'] [] pos) (ap1 (yW n) fa):= .mk fun ρ=>
 PE.imp (j0 yV gl mg PyProof.Rows.Boot.«isinstance» (zt (ha ρ) (zt (qg (v:= .ty n) gl' mg' bt rfl hn hd) Zf hs2) (by rw [hs,hs2])) (by decide) (by decide) (by rw [hs,hs2]) hz) fun σ H Q ⟨B,I,q⟩=>
  step I q fun t v H1 _ s1 r1 I1 q1=>⟨v,n,t,rfl,r1,hk t,po0 I1.sB q1 rfl (.bl _)⟩
def atT (xs:List T) (i:Int):R T:=match atI xs i with
 | some t=> .ok t
 | none=> .bad
def ixT:T->T->R T
 | .tup xs, .int i=>atT xs i
 | .lst xs, .int i=>atT xs i
 | .fz xs, .int i=>atT xs i
 | .str z, .int i=>if z.length<=bnd then match atI z.cps.toList i with | some c=> .ok (.str ⟨#[c]⟩) | none=> .bad else .bad
 | _,_=> .bad
theorem U7 {H:Hp} {xs:List V} {ts:List T} {i:Int} {t:T} (r:zB H xs ts) (h:atI ts i=some t):∃ v,atI xs i=some v/\Rep H v t:=by
 unfold atI at h ⊢
 rw [r.length]
 cases e:ixN ts.length i with
 | none=>rw [e] at h; cases h
 | some j=>
  rw [e] at h
  obtain ⟨v,h1,h2⟩:=r.get (show ts[j]? =some t from h)
  exact ⟨v,h1,h2⟩
theorem zX (ha:Snd X Y a fa) (hb:Snd X Y b fb) (hs:uQ b:=by exact fun _ _=>rfl):Snd X Y (.Subscript a b pos) (zb ixT fa fb):= .mk fun ρ=>
 PE.imp (VH vc (ha ρ) (hb ρ) hs) fun σ H Q ⟨B,I,q⟩=>step I q fun t v H1 _ s1 r1 I1 q1=>step I1 q1 fun t' v' H2 _ s2 r2 I2 q2=>by
  have r1:=r1.mono (zL.ge I1.sB s2)
  cases r2 with
  | int i=>
   cases r1 with
   | @tup _ xs ts h r=>
    have q2:Po Y rC _ H2 (atT ts i) Q:=q2
    unfold atT at q2
    split at q2
    ·rename_i t' e
     obtain ⟨w,e1,e2⟩:=U7 r e
     exact .inr (.inl ⟨_,xs,i,w,rfl,rfl,SqT.of (I2.sB _ _ h),e1,po0 I2.sB q2 rfl e2⟩)
    ·exact q2.elim
   | @lst _ xs ts h r=>
    have q2:Po Y rC _ H2 (atT ts i) Q:=q2
    unfold atT at q2
    split at q2
    ·rename_i t' e
     obtain ⟨w,e1,e2⟩:=U7 r e
     exact .inl ⟨_,xs,i,w,rfl,rfl,SqL.of (I2.sB _ _ h),e1,po0 I2.sB q2 rfl e2⟩
    ·exact q2.elim
   | @fz _ _ xs ts h r=>
    have q2:Po Y rC _ H2 (atT ts i) Q:=q2
    unfold atT at q2
    split at q2
    ·rename_i t' e
     obtain ⟨w,e1,e2⟩:=U7 r e
     exact .inl ⟨_,xs,i,w,rfl,rfl, .inl (.inr ⟨_,I2.sB _ _ h⟩),e1,po0 I2.sB q2 rfl e2⟩
    ·exact q2.elim
   | str z=>
    have q2:Po Y rC _ H2 (if z.length<=bnd then match atI z.cps.toList i with | some c=> .ok (.str ⟨#[c]⟩) | none=> .bad else .bad) Q:=q2
    split at q2
    ·rename_i hb
     split at q2
     ·rename_i c e
      exact .inr (.inr ⟨z,i,c,rfl,rfl,ZJ hb,e,po0 I2.sB q2 rfl (.str _)⟩)
     ·exact q2.elim
    ·exact q2.elim
   | _=>exact q2.elim
  | _=>cases r1 <;> exact q2.elim
def ud (t t' :T):R T:=match t,t' with
 | .int i, .int j=> .ok (.int (if j < i then j else i))
 | _,_=> .bad
theorem U8 (hc:X.calm=true) (gl:Gl X "min") (mg:X.mg "min"=none) (ha:Snd X Y a fa) (hb:Snd X Y b fb)
  (hs:starEach [a,b] X.env=[(false,eval a X.env),(false,eval b X.env)]:=by exact st2 rfl rfl) (hs2:starEach [b] X.env=[(false,eval b X.env)]:=by exact st1 rfl):
  Snd X Y (.Call (.Name "min" p) [a,b] [] pos) (zb ud fa fb):= .mk fun ρ=>
 PE.imp (j0 (uL hc) gl mg PyProof.Rows.Boot.«min» (zt (ha ρ) (zt (hb ρ) Zf hs2) (by rw [hs,hs2])) (by decide) (by decide) (by rw [hs,hs2]) (by rw [hs2]; rfl)) fun σ H Q ⟨B,I,q⟩=>
  step I q fun t v H1 _ s1 r1 I1 q1=>step I1 q1 fun t' v' H2 _ s2 r2 I2 q2=>by
   cases r1 with
   | int i=>
    cases r2 with
    | int j=>exact ⟨i,j,rfl,po0 I2.sB q2 rfl (.int _)⟩
    | _=>exact q2.elim
   | _=>cases r2 <;> exact q2.elim
def uy:List T->Option Bool
 | []=>some true
 | .bl k :: r=>match uy r with | some j=>some (k && j) | none=>none
 | _ :: _=>none
def qQ:T->R T
 | .lst ts=>match uy ts with | some k=> .ok (.bl k) | none=> .bad
 | _=> .bad
theorem U9:∀ {H:Hp} {xs:List V} {ts:List T} {its:List Value} {k:Bool},zB H xs ts->Z3 xs its->uy ts=some k->∃ tr:Nat->Bool,(∀ i v,its[i]? =some v->v=Value.bool (tr i))/\(List.range its.length).all tr=k
 | _,_,_,_,k, .nil, .nil,h=>by
  have h' :some true=some k:=h
  cases h'
  exact ⟨fun _=>true,fun i v e=>by simp at e,rfl⟩
 | H,_,_,_,k, .cons (v:=x) (t:=t) r rs, .cons (b:=u) rv vs,h=>by
  cases r with
  | bl b=>
   unfold uy at h
   split at h
   ·rename_i j e
    cases h
    obtain ⟨tr,h1,h2⟩:=U9 rs vs e
    obtain rfl:u=Value.bool b:=rv
    refine ⟨fun i=>match i with | 0=>b | i+1=>tr i,fun i v e=> ?_, ?_⟩
    ·cases i with
     | zero=>simp at e; exact e.symm
     | succ i=>exact h1 i v (by simpa using e)
    ·rw [List.length_cons,List.range_succ_eq_map,List.all_cons,List.all_map,← h2]
     rfl
   ·cases h
  | _=>cases h
theorem Ua (hh:X.A.handled=none):Zr X (.builtin "all") (fun vs H Q=>∃ l xs ts k,vs=[.ref l]/\H l=some (.lst xs)/\zB H xs ts/\uy ts=some k/\Q (.bl k) H):=by
 intro pins s σ H vs us Q I rv h
 obtain ⟨l,xs,ts,k,rfl,hl,r,hk,q⟩:=h
 obtain ⟨u,rfl,ru⟩:=ZQ rv
 obtain rfl:u=Value.ref l:=ru
 obtain ⟨its,rv,p,_⟩:=zw I (.inl hl) r
 obtain ⟨tr,h1,h2⟩:=U9 r rv hk
 refine call_all_walk (wpAny_pyIter_list p ?_)
 have hlt:l < s.heap.objs.size:=I.hok.lt hl
 have old:∀ b o,s.heap.get? b=some o->(s.heap.push { cls:= .type "list_iterator",data:= .fields #[.ref l, .int 0 0] }).get? b=some o:=fun b o e=>Heap.get?_push_of_some _ e
 refine ⟨s.heap.objs.size,_,_,_,_,_,tr,rfl,Walks.list (A:=X.A.in1) hh s.heap.objs.size l (Nat.ne_of_lt hlt) its.toArray, ?_, ?_,fun h' tk hk' => ?_⟩
 ·refine ⟨?_,p.at fun o e=>old _ o e⟩
  exact ⟨_,Heap.get?_push_size _ rfl,rfl,rfl⟩
 ·intro i v s' Q' E' hi hq
  rw [h1 i v (by simpa using hi)]
  exact wpAny_truthy_bool hq
 ·rw [List.size_toArray,h2]
  refine ⟨.bl k,H,I.kept (t' :=tk) (fun b o e=>hk' b o ?_ (old b o e)),rfl,q⟩
  simp
  exact Nat.ne_of_lt (Heap.lt_size e)
theorem qR (hh:X.A.handled=none) (gl:Gl X "all") (mg:X.mg "all"=none) (ha:jc X Y a fa) (hs:St1 X a:=by exact st1 rfl):Snd X Y (.Call (.Name "all" p) [a] [] pos) (ap1 qQ fa):=
 wz (Ua hh) (fun v t B H Q r sB q=>by
  cases r with
  | @lst l xs ts h r=>
   have q:Po Y rC B H (match uy ts with | some k=> .ok (.bl k) | none=> .bad) Q:=q
   split at q
   ·rename_i k e
    exact ⟨l,xs,ts,k,rfl,h,r,e,po0 sB q rfl (.bl k)⟩
   ·exact q.elim
  | _=>exact q.elim) gl mg PyProof.Rows.Boot.«all» ha hs
end
inductive RS where
 | nx (ρ:En) | rt (t:T) | bk (ρ:En) | ct (ρ:En) | ex (c:Nat) | bad | rf (ts:List T)
def R.s {α:Type} (r:R α) (k:α->RS):RS:=match r with
 | .ok a=>k a
 | .ex c=> .ex c
 | .bad=> .bad
def PoS (Y:Fx) (B:Hp) (r:RS) (D:Yt):Prop:=match r with
 | .nx ρ' =>∀ σ' H' B',zp B B' ->SI Y B' ρ' σ' H' ->D.nx σ' H'
 | .rt t=>∀ v H',zp Y.H0 H' ->Rep (zL Y.B0 Y.H0 H') v t->D.rt v H'
 | .bk ρ' =>∀ σ' H' B',zp B B' ->SI Y B' ρ' σ' H' ->D.bk σ' H'
 | .ct ρ' =>∀ σ' H' B',zp B B' ->SI Y B' ρ' σ' H' ->D.ct σ' H'
 | .ex c=>XP Y B c
 | .bad=>False
 | .rf ts=>∀ a xs H' B',zp Y.H0 H' ->Y.H0 a=none->H' a=some (.lst xs)->zB B' xs ts->B' a=none->zp B' (zL Y.B0 Y.H0 H')->D.rt (.ref a) H'
theorem PoS.up {Y:Fx} {B B' :Hp} {r:RS} {D:Yt} (s:zp B B') (h:PoS Y B r D):PoS Y B' r D:=by
 cases r with
 | nx ρ=>exact fun σ' H' B2 s2 I=>h σ' H' B2 (s.trans s2) I
 | bk ρ=>exact fun σ' H' B2 s2 I=>h σ' H' B2 (s.trans s2) I
 | ct ρ=>exact fun σ' H' B2 s2 I=>h σ' H' B2 (s.trans s2) I
 | rt t=>exact h
 | rf t=>exact h
 | ex c=>exact fun d H' s0 sB=>h d H' s0 (s.trans sB)
 | bad=>exact h
def tSS (Y:Fx) (f:En->RS) (ρ:En):TS:=fun D σ H=>∃ B,SI Y B ρ σ H/\PoS Y B (f ρ) D
structure wZ (X:Cx) (Y:Fx) (e:Stmt) (f:En->RS):Prop where
 mk ::
 go:∀ ρ,PS X e (tSS Y f ρ)
instance {X:Cx} {Y:Fx} {e:Stmt} {f:En->RS}:CoeFun (wZ X Y e f) fun _=>∀ ρ,PS X e (tSS Y f ρ):=⟨wZ.go⟩
structure Ub (X:Cx) (Y:Fx) (e:List Stmt) (f:En->RS):Prop where
 mk ::
 go:∀ ρ,PSs X e (tSS Y f ρ)
instance {X:Cx} {Y:Fx} {e:List Stmt} {f:En->RS}:CoeFun (Ub X Y e f) fun _=>∀ ρ,PSs X e (tSS Y f ρ):=⟨Ub.go⟩
theorem JE {α β:Type} {Y:Fx} {rel:Hp->Hp->β->α->Prop} {f:En->R α} {k:α->RS} {ρ:En} {B:Hp} {σ:Sg} {H:Hp} {D:Yt} {K:β->Hp->Prop}
  (I:SI Y B ρ σ H) (h:PoS Y B ((f ρ).s k) D)
  (n:∀ a b H1,f ρ= .ok a->zp H H1->rel (zL B H H1) H1 b a->SI Y (zL B H H1) ρ σ H1->PoS Y (zL B H H1) (k a) D->K b H1):tS Y rel f ρ σ H K:=by
 refine ⟨B,I, ?_⟩
 cases e:f ρ with
 | bad=>rw [e] at h; exact h
 | ex c=>rw [e] at h; exact h
 | ok a=>
  rw [e] at h
  exact fun b H1 s r=>n a b H1 e s r (I.grow s) (PoS.up (zL.ge I.sB s) h)
theorem zI {α:Type} {xs:List α} {i j:Nat} {x y:α} (h:(xs.set i x)[j]? =some y):(j=i/\y=x)\/(j ≠ i/\xs[j]? =some y):=by
 by_cases e:j=i
 ·subst e
  by_cases hl:j < xs.length
  ·rw [List.getElem?_set_self hl] at h; exact .inl ⟨rfl,(Option.some.inj h).symm⟩
  ·rw [List.getElem?_eq_none (by rw [List.length_set]; omega)] at h; cases h
 ·rw [List.getElem?_set_ne (Ne.symm e)] at h; exact .inr ⟨e,h⟩
theorem Uc {α:Type} {xs:List α} {i:Nat} {x y:α} (h:(xs.set i x)[i]? =some y):i < xs.length:=by
 by_cases hl:i < xs.length
 ·exact hl
 ·rw [List.getElem?_eq_none (by rw [List.length_set]; omega)] at h; cases h
theorem SI.setV {Y:Fx} {B:Hp} {ρ:En} {σ:Sg} {H:Hp} (I:SI Y B ρ σ H) (i:Nat) {v:V} {t:T} (r:Rep B v t):SI Y B (ρ.set i (.vl t)) (σ.set i (some v)) H where
 s0:=I.s0
 sH:=I.sH
 sB:=I.sB
 old:=I.old
 len:=by rw [List.length_set,List.length_set]; exact I.len
 vl:=fun j u h=>by
  rcases zI h with ⟨rfl,e⟩ | ⟨hj,h'⟩
  ·cases e
   exact ⟨v,List.getElem?_set_self (by rw [← I.len]; exact Uc h),r⟩
  ·obtain ⟨w,e,rr⟩:=I.vl j u h'
   exact ⟨w,by rw [List.getElem?_set_ne (Ne.symm hj)]; exact e,rr⟩
 ow:=fun j us h=>by
  rcases zI h with ⟨rfl,e⟩ | ⟨hj,h'⟩
  ·cases e
  ·obtain ⟨a,xs,e,b0,h0,hh,rr,d⟩:=I.ow j us h'
   refine ⟨a,xs,by rw [List.getElem?_set_ne (Ne.symm hj)]; exact e,b0,h0,hh,rr,fun k ws hk hw=> ?_⟩
   rcases zI hw with ⟨rfl,e'⟩ | ⟨hk',hw'⟩
   ·cases e'
   ·rw [List.getElem?_set_ne (Ne.symm hk')]; exact d k ws hk hw'
 xc:=fun j c h=>by
  rcases zI h with ⟨rfl,e⟩ | ⟨hj,h'⟩
  ·cases e
  ·obtain ⟨a,e,r⟩:=I.xc j c h'
   exact ⟨a,by rw [List.getElem?_set_ne (Ne.symm hj)]; exact e,r⟩
theorem SI.newO {Y:Fx} {B:Hp} {ρ:En} {σ:Sg} {H:Hp} (I:SI Y B ρ σ H) (i:Nat) {p:Addr} {xs:List V} {ts:List T} (hp:H p=none) (r:zB B xs ts):SI Y B (ρ.set i (.ow ts)) (σ.set i (some (.ref p))) (upd H p (.lst xs)) where
 s0:=I.s0
 sH:=I.sH.trans (zp.new hp _)
 sB:=I.sB.trans (zp.new hp _)
 old:=I.old
 len:=by rw [List.length_set,List.length_set]; exact I.len
 vl:=fun j u h=>by
  rcases zI h with ⟨rfl,e⟩ | ⟨hj,h'⟩
  ·cases e
  ·obtain ⟨w,e,rr⟩:=I.vl j u h'
   exact ⟨w,by rw [List.getElem?_set_ne (Ne.symm hj)]; exact e,rr⟩
 ow:=fun j us h=>by
  have op:∀ k ws a,ρ[k]? =some (Sl.ow ws)->σ[k]? =some (some (V.ref a))->a ≠ p:=fun k ws a h1 h2=>by
   obtain ⟨a',xs',e,_,_,hh,_⟩:=I.ow k ws h1
   rw [e] at h2; cases h2
   exact zy hh hp
  rcases zI h with ⟨rfl,e⟩ | ⟨hj,h'⟩
  ·cases e
   refine ⟨p,xs,List.getElem?_set_self (by rw [← I.len]; exact Uc h),I.sB.free hp,I.sH.free hp,zA,r,fun k ws hk hw=> ?_⟩
   rcases zI hw with ⟨rfl,e'⟩ | ⟨hk',hw'⟩
   ·exact absurd rfl hk
   ·rw [List.getElem?_set_ne (Ne.symm hk')]
    exact fun z=>op k ws p hw' z rfl
  ·obtain ⟨a,xs',e,b0,h0,hh,rr,d⟩:=I.ow j us h'
   refine ⟨a,xs',by rw [List.getElem?_set_ne (Ne.symm hj)]; exact e,b0,h0,by rw [zo (op j us a h' e)]; exact hh,rr,fun k ws hk hw=> ?_⟩
   rcases zI hw with ⟨rfl,e'⟩ | ⟨hk',hw'⟩
   ·rw [List.getElem?_set_self (by rw [← I.len]; exact Uc hw)]
    intro z
    exact op j us a h' e (by injection z with z; injection z with z; injection z with z; exact z.symm)
   ·rw [List.getElem?_set_ne (Ne.symm hk')]; exact d k ws hk hw'
 xc:=fun j c h=>by
  rcases zI h with ⟨rfl,e⟩ | ⟨hj,h'⟩
  ·cases e
  ·obtain ⟨a,e,r⟩:=I.xc j c h'
   exact ⟨a,by rw [List.getElem?_set_ne (Ne.symm hj)]; exact e,r⟩
theorem SI.chg {Y:Fx} {B:Hp} {ρ:En} {σ:Sg} {H:Hp} (I:SI Y B ρ σ H) (i:Nat) {p:Addr} {ts us:List T} {ys:List V} (hi:ρ[i]? =some (.ow ts)) (he:σ[i]? =some (some (.ref p))) (r:zB B ys us):SI Y B (ρ.set i (.ow us)) σ (upd H p (.lst ys)):=by
 obtain ⟨p',xs,e,b0,h0,hh,rr,d⟩:=I.ow i ts hi
 rw [he] at e
 cases e
 have nb:∀ b o,B b=some o->b ≠ p:=fun b o h z=>by subst z; rw [b0] at h; cases h
 have n0:∀ b o,Y.H0 b=some o->b ≠ p:=fun b o h z=>by subst z; rw [h0] at h; cases h
 refine ⟨I.s0,fun b o h=>by rw [zo (n0 b o h)]; exact I.sH b o h,fun b o h=>by rw [zo (nb b o h)]; exact I.sB b o h,I.old,by rw [List.length_set]; exact I.len,fun j u h=> ?_,fun j ws h=> ?_,fun j c h=> ?_⟩
 rotate_right
 ·rcases zI h with ⟨rfl,z⟩ | ⟨hj,h'⟩
  ·cases z
  ·exact I.xc j c h'
 ·rcases zI h with ⟨rfl,z⟩ | ⟨hj,h'⟩
  ·cases z
  ·exact I.vl j u h'
 ·rcases zI h with ⟨rfl,z⟩ | ⟨hj,h'⟩
  ·cases z
   refine ⟨p,ys,he,b0,h0,zA,r,fun k vs hk hw=> ?_⟩
   rcases zI hw with ⟨rfl,e'⟩ | ⟨hk',hw'⟩
   ·exact absurd rfl hk
   ·exact d k vs hk hw'
  ·obtain ⟨a,xs',e,c0,g0,gg,ss,d'⟩:=I.ow j ws h'
   have hne:a ≠ p:=fun z=>by subst z; exact d j ws hj h' e
   refine ⟨a,xs',e,c0,g0,by rw [zo hne]; exact gg,ss,fun k vs hk hw=> ?_⟩
   rcases zI hw with ⟨rfl,e'⟩ | ⟨hk',hw'⟩
   ·rw [he]; intro z; injection z with z; injection z with z; injection z with z; exact hne z.symm
   ·exact d' k vs hk hw'
def xt:Sl->Sl
 | .ow ts=> .vl (.lst ts)
 | x=>x
def frz (ρ:En):En:=ρ.map xt
theorem SI.up {Y:Fx} {B:Hp} {ρ:En} {σ:Sg} {H:Hp} (I:SI Y B ρ σ H):zp B (zL B Y.H0 H):=fun b o h=>by
 cases q:Y.H0 b with
 | none=>rw [Zd q]; exact I.sB b o h
 | some u=>rw [Zg q]; exact h
theorem SI.frz {Y:Fx} {B:Hp} {ρ:En} {σ:Sg} {H:Hp} (I:SI Y B ρ σ H):SI Y (zL B Y.H0 H) (PV.frz ρ) σ H:=by
 have up:zp B (zL B Y.H0 H):=fun b o h=>by
  cases q:Y.H0 b with
  | none=>rw [Zd q]; exact I.sB b o h
  | some u=>rw [Zg q]; exact h
 refine ⟨I.s0,I.sH,fun b o h=> ?_,fun b o h=>by rw [Zg h]; exact I.old b o h,by unfold PV.frz; rw [List.length_map]; exact I.len,fun j t h=> ?_,fun j ts h=> ?_,fun j c h=> ?_⟩
 rotate_right
 ·unfold PV.frz at h
  rw [List.getElem?_map] at h
  cases e:ρ[j]? with
  | none=>rw [e] at h; cases h
  | some x=>
   rw [e] at h
   cases x with
   | xc d=>
    cases h
    obtain ⟨a,e1,r⟩:=I.xc j _ e
    exact ⟨a,e1,up a _ r⟩
   | un=>cases h
   | vl _=>cases h
   | ow _=>cases h
 ·cases q:Y.H0 b with
  | none=>rw [Zd q] at h; exact h
  | some u=>rw [Zg q] at h; exact I.sB b o h
 ·unfold PV.frz at h
  rw [List.getElem?_map] at h
  cases e:ρ[j]? with
  | none=>rw [e] at h; cases h
  | some x=>
   rw [e] at h
   cases x with
   | un=>cases h
   | vl u=>
    cases h
    obtain ⟨v,e1,r⟩:=I.vl j _ e
    exact ⟨v,e1,r.mono up⟩
   | ow us=>
    cases h
    obtain ⟨a,xs,e1,b0,h0,hh,rr,_⟩:=I.ow j us e
    exact ⟨.ref a,e1, .lst (by rw [Zd h0]; exact hh) (rr.mono up)⟩
   | xc _=>cases h
 ·unfold PV.frz at h
  rw [List.getElem?_map] at h
  cases e:ρ[j]? with
  | none=>rw [e] at h; cases h
  | some x=>
   rw [e] at h
   cases x with
   | un=>cases h
   | vl u=>cases h
   | ow us=>cases h
   | xc _=>cases h
theorem vm {Y:Fx} {B H H' :Hp} (s0:zp Y.H0 H) (old:∀ b o,Y.H0 b=some o->B b=Y.B0 b) (s:zp H H') (sB:zp B H):zp (zL B H H') (zL Y.B0 Y.H0 H'):=fun b o h=>by
 cases q:H b with
 | none=>
  rw [Zd q] at h
  rw [Zd (s0.free q)]; exact h
 | some u=>
  rw [Zg q] at h
  cases z:Y.H0 b with
  | none=>rw [Zd z]; exact s b o (sB b o h)
  | some w=>rw [Zg z,← old b w z]; exact h
section
variable {X:Cx} {Y:Fx} {a b c d:Expr} {fa fb fc fd:En->R T} {pos p:Pos} {st:Stmt} {sts sts' :List Stmt} {f g:En->RS}
def nxS:En->RS:=fun ρ=> .nx ρ
def zC (f g:En->RS):En->RS:=fun ρ=>match f ρ with
 | .nx ρ' =>g ρ'
 | r=>r
theorem Z1:Ub X Y [] nxS:= .mk fun ρ=>PSs.imp qi fun D σ H ⟨B,I,q⟩=>q σ H B (zp.refl B) I
theorem zg (h:wZ X Y st f):Ub X Y [st] f:= .mk fun ρ=>qj (h ρ)
theorem ze (h1:wZ X Y st f) (h2:Ub X Y sts g):Ub X Y (st :: sts) (zC f g):= .mk fun ρ=>by
 refine PSs.imp (yD (u:=fun D σ H=>∃ ρ',tSS Y g ρ' D σ H) (h1 ρ) ?_) ?_
 ·intro pins s σ H D I ⟨ρ',q⟩
  exact h2 ρ' pins s σ H D I q
 ·intro D σ H ⟨B,I,q⟩
  refine ⟨B,I, ?_⟩
  unfold zC at q
  cases e:f ρ with
  | nx ρ' =>
   rw [e] at q
   intro σ' H' B' s' I'
   exact ⟨ρ',B',I',PoS.up s' q⟩
  | rt t=>rw [e] at q; exact q
  | rf t=>rw [e] at q; exact q
  | bk ρ' =>rw [e] at q; exact q
  | ct ρ' =>rw [e] at q; exact q
  | ex c=>rw [e] at q; exact q
  | bad=>rw [e] at q; exact q
def Zy (i:Nat) (fa:En->R T):En->RS:=fun ρ=>(fa ρ).s fun t=> .nx (ρ.set i (.vl t))
theorem ZK {i:Nat} {x:Str} {p' :Pos} (hN:X.N.Nodup) (hi:X.N[i]? =some x) (hx:L2.Loc X.env.scope x) (ha:Snd X Y a fa) (hs:swapsWith a (some (.Name x p')) pos.line X.env=pure false:=by rfl)
  (hf:X.fn x=true\/X.env.scope.names.lookup x=some .local:=by first | exact .inl rfl | exact .inr rfl | assumption):wZ X Y (.Assign [.Name x p'] a pos) (Zy i fa):= .mk fun ρ=>
 PS.imp (uE hN hi hx (ha ρ) hs hf) fun D σ H ⟨B,I,q⟩=>JE I q fun t v H1 _ s1 r1 I1 q1=>q1 _ _ _ (zp.refl _) (I1.setV i r1)
def uz (i:Nat) (ga:En->R (List T)):En->RS:=fun ρ=>(ga ρ).s fun ts=>if ts.length<=bnd then .nx (ρ.set i (.ow ts)) else .bad
theorem wA {i:Nat} {x:Str} {p' :Pos} {es:List Expr} {ga:En->R (List T)} (hN:X.N.Nodup) (hi:X.N[i]? =some x) (hx:L2.Loc X.env.scope x) (ha:WD X Y es ga) (hs:swapsWith (.List es p) (some (.Name x p')) pos.line X.env=pure false:=by rfl)
  (hf:X.fn x=true\/X.env.scope.names.lookup x=some .local:=by first | exact .inl rfl | exact .inr rfl | assumption):wZ X Y (.Assign [.Name x p'] (.List es p) pos) (uz i ga):= .mk fun ρ=>
 PS.imp (uE hN hi hx (Yx (ha ρ)) hs hf) fun D σ H ⟨B,I,q⟩=>JE I q fun ts vs H1 _ s1 r1 I1 q1=>by
  split at q1
  ·rename_i hb
   exact ⟨by rw [r1.length]; exact ZJ hb,fun p hp=>q1 _ _ _ (zp.refl _) (I1.newO i hp r1)⟩
  ·exact q1.elim
def zW (fa:En->R T):En->RS:=fun ρ=>(fa (frz ρ)).s fun t=> .rt t
theorem zn (ha:Snd X Y a fa):wZ X Y (.Return (some a) pos) (zW fa):= .mk fun ρ=>
 PS.imp (QP (ha (frz ρ))) fun D σ H ⟨B,I,q⟩=>by
  refine ⟨_,I.frz, ?_⟩
  unfold zW at q
  cases e:fa (frz ρ) with
  | bad=>rw [e] at q; exact q
  | ex c=>
   rw [e] at q
   exact fun d H' s0 sG=>q d H' s0 (I.up.trans sG)
  | ok t=>
   rw [e] at q
   intro v H' s r
   have J:=I.frz
   exact q v H' (I.sH.trans s) (r.mono (vm J.sH J.old s J.sB))
def ifS (g:En->R Bool) (f1 f2:En->RS):En->RS:=fun ρ=>(g ρ).s fun k=>if k=true then f1 ρ else f2 ρ
theorem Z2 {ga:En->R Bool} (hc:WC X Y c ga) (h1:Ub X Y sts f) (h2:Ub X Y sts' g):wZ X Y (.If c sts sts' pos) (ifS ga f g):= .mk fun ρ=>
 PS.imp (Vs (hc ρ) (h1 ρ) (h2 ρ)) fun D σ H ⟨B,I,q⟩=>JE I q fun t v H1 _ s1 r1 I1 q1=>by
  have r1' :v=t:=r1
  subst r1'
  cases v with
  | true=>exact ⟨_,I1,q1⟩
  | false=>exact ⟨_,I1,q1⟩
def ue (fa:En->R T):En->RS:=fun ρ=>(fa ρ).s fun _=> .nx ρ
theorem Ud (ha:Snd X Y a fa) (hs:swapsWith a none pos.line X.env=pure false:=by rfl):wZ X Y (.Expr a pos) (ue fa):= .mk fun ρ=>
 PS.imp (W4 (ha ρ) hs) fun D σ H ⟨B,I,q⟩=>JE I q fun t v H1 _ s1 r1 I1 q1=>q1 _ _ _ (zp.refl _) I1
def Vc (i:Nat) (fa:En->R T):En->RS:=fun ρ=>match ρ[i]? with
 | some (.ow ts)=>(fa ρ).s fun t=>if ts.length < bnd then .nx (ρ.set i (.ow (ts++[t]))) else .bad
 | _=> .bad
def W0 (i:Nat) (fa:En->R T):En->RS:=fun ρ=>match ρ[i]? with
 | some (.ow ts)=>(fa ρ).s fun t=>match t with
  | .lst us=>if ts.length+us.length<=bnd then .nx (ρ.set i (.ow (ts++us))) else .bad
  | _=> .bad
 | _=> .bad
theorem vn {n:Nat} (h:n < bnd):n < sizeLine:=by rw [sizeLine_eq]; exact h
theorem VQ {i:Nat} {x:Str} {px pa:Pos} (hv:PE X (.Name x px) (qe i)) (ha:Snd X Y a fa) (hb:attributeBase (.Name x px) "append" X.env (eval (.Name x px) X.env)=eval (.Name x px) X.env:=by rfl) (hs:St1 X a:=by exact st1 rfl)
  (hz:(pa.endLine == p.line)=true:=by rfl) (hw:swapsWith (.Call (.Attribute (.Name x px) "append" pa) [a] [] p) none pos.line X.env=pure false:=by rfl):wZ X Y (.Expr (.Call (.Attribute (.Name x px) "append" pa) [a] [] p) pos) (Vc i fa):= .mk fun ρ=>by
 have e1:(((((backTo p (starEach [a] X.env)).all fun x=> !x.fst) && (backToKw p (keywordEach [] X.env)).all fun x=>x.fst.isSome) && decide (([a].length+([]:List Keyword).length+if ([]:List Keyword).isEmpty=true then 0 else 1) < 30))=true):=by rw [hs]; rfl
 refine PS.imp (W4 (qv PySem.F.plainAttrs_list PySem.F.slot_list_append PySem.F.type_list_append wo hv (zt (ha ρ) Zf hs) hb e1 hz hs rfl) hw) fun D σ H ⟨B,I,q⟩=> ?_
 unfold Vc at q
 split at q
 ·rename_i ts e
  obtain ⟨l,xs,e1,b0,h0,hh,rr,d⟩:=I.ow i ts e
  refine ⟨.ref l,e1, .inl ⟨rfl,_,SqL.of hh⟩, ?_⟩
  refine JE I q fun t v H1 _ s1 r1 I1 q1=> ?_
  split at q1
  ·rename_i hb
   refine ⟨l,xs,v,rfl,rfl,s1 _ _ hh,by rw [rr.length]; exact vn hb, ?_⟩
   exact q1 _ _ _ (zp.refl _) (I1.chg i e e1 ((rr.mono (zL.ge I.sB s1)).append (.cons r1 .nil)))
  ·exact q1.elim
 ·exact q.elim
theorem yY {i:Nat} {x:Str} {px pa:Pos} (hv:PE X (.Name x px) (qe i)) (ha:Snd X Y a fa) (hb:attributeBase (.Name x px) "extend" X.env (eval (.Name x px) X.env)=eval (.Name x px) X.env:=by rfl) (hs:St1 X a:=by exact st1 rfl)
  (hz:(pa.endLine == p.line)=true:=by rfl) (hw:swapsWith (.Call (.Attribute (.Name x px) "extend" pa) [a] [] p) none pos.line X.env=pure false:=by rfl):wZ X Y (.Expr (.Call (.Attribute (.Name x px) "extend" pa) [a] [] p) pos) (W0 i fa):= .mk fun ρ=>by
 have e1:(((((backTo p (starEach [a] X.env)).all fun x=> !x.fst) && (backToKw p (keywordEach [] X.env)).all fun x=>x.fst.isSome) && decide (([a].length+([]:List Keyword).length+if ([]:List Keyword).isEmpty=true then 0 else 1) < 30))=true):=by rw [hs]; rfl
 refine PS.imp (W4 (qv PySem.F.plainAttrs_list PySem.F.slot_list_extend PySem.F.type_list_extend uR hv (zt (ha ρ) Zf hs) hb e1 hz hs rfl) hw) fun D σ H ⟨B,I,q⟩=> ?_
 unfold W0 at q
 split at q
 ·rename_i ts e
  obtain ⟨l,xs,e1,b0,h0,hh,rr,d⟩:=I.ow i ts e
  refine ⟨.ref l,e1, .inl ⟨rfl,_,SqL.of hh⟩, ?_⟩
  refine JE I q fun t v H1 _ s1 r1 I1 q1=> ?_
  cases r1 with
  | @lst b zs us hb r=>
   have q1:PoS Y _ (if ts.length+us.length<=bnd then .nx (ρ.set i (.ow (ts++us))) else .bad) D:=q1
   split at q1
   ·rename_i hl
    refine ⟨l,b,xs,zs,rfl,rfl,s1 _ _ hh,I1.sB _ _ hb,by rw [rr.length,r.length]; exact ZJ hl, ?_⟩
    exact q1 _ _ _ (zp.refl _) (I1.chg i e e1 ((rr.mono (zL.ge I.sB s1)).append r))
   ·exact q1.elim
  | _=>exact q1.elim
 ·exact q.elim
end
def spP (cl:Nat->Value) (n:Nat) (g:List T->R T):Sp:=fun vs H Q E=>∃ B ts,ts.length=n/\zp B H/\zB B vs ts/\Po ⟨B,H,E,cl⟩ rC B H (g ts) Q
theorem spP.len {cl:Nat->Value} {n:Nat} {g:List T->R T} (vs:List V) (H:Hp) (Q:VK) (E:XK) (h:spP cl n g vs H Q E):vs.length=n:=by
 obtain ⟨B,ts,hl,_,r,_⟩:=h
 rw [r.length,hl]
def za (n:Nat) (g:List T->R T) (ga:En->R (List T)):En->R T:=fun ρ=>(ga ρ).bind fun ts=>if ts.length=n then g ts else .bad
section
variable {X:Cx} {Y:Fx} {a b c d:Expr} {fa fb fc fd:En->R T} {pos p:Pos}
theorem YA {CX:CXT} {k n:Nat} {f:Addr} {fd:FuncData} {ps:List Str} {g:List T->R T} {x:Str} {es:List Expr} {ga:En->R (List T)} (F:ZA X.prog X.w X.K X.mg X.base CX k f fd ps (spP Y.cl n g)) (hr:ju k X.A) (gl:Gl X x) (mg:X.mg x=some (.ref f))
  (kp:PySem.W.keepIn X.K (.ref f)=true) (bd:L2.Binds X.K fd ps []) (hx:jH CX X Y.E) (ha:WD X Y (a :: es) ga) (hd:(x == ("__debug__":Str))=false:=by decide)
  (hs:starEach (a :: es) X.env=(false,eval a X.env) :: starEach es X.env:=by exact zV rfl) (hz:((backTo pos (starEach es X.env)).any fun x=>x.fst)=false:=by exact ZM rfl):Snd X Y (.Call (.Name x p) (a :: es) [] pos) (za n g ga):= .mk fun ρ=>
 PE.imp (qp F hr gl mg kp bd .nil hx (ha ρ) hd hs hz) fun σ H Q ⟨B,I,q⟩=>step I q fun ts vs H1 _ s1 r1 I1 q1=>by
  split at q1
  ·rename_i hn
   rw [List.append_nil]
   refine ⟨_,ts,hn,I1.sB,r1, ?_⟩
   revert q1
   cases g ts with
   | bad=>exact fun q1=>q1
   | ex c=>exact fun q1 d H' s sB=>q1 d H' (I1.sH.trans s) sB
   | ok t=>exact fun q1=>q1
  ·exact q1.elim
end
def zh:RS->R T
 | .rt t=> .ok t
 | .rf ts=> .ok (.lst ts)
 | .nx _=> .ok .non
 | .ex c=> .ex c
 | _=> .bad
def en0 (n:Nat) (ts:List T):En:=ts.map Sl.vl++List.replicate (n - ts.length) Sl.un
theorem zB.vl {H:Hp}:∀ {vs:List V} {ts:List T} {i:Nat} {t:T} {n m:Nat},zB H vs ts->(ts.map Sl.vl++List.replicate n Sl.un)[i]? =some (Sl.vl t)->∃ v:V,(vs.map some++List.replicate m none)[i]? =some (some v)/\Rep H v t
 | _,_,i,t,n,m, .nil,h=>by
  exfalso
  simp only [List.map_nil,List.nil_append] at h
  rw [List.getElem?_replicate] at h
  split at h
  ·cases h
  ·cases h
 | _,_,0,t,n,m, .cons r _,h=>by
  simp at h; subst h; exact ⟨_,rfl,r⟩
 | _,_,i+1,t,n,m, .cons _ q,h=>by
  obtain ⟨v,h1,h2⟩:=zB.vl (i:=i) (t:=t) (n:=n) (m:=m) q (by simpa using h)
  exact ⟨v,by simpa using h1,h2⟩
theorem YB {n:Nat}:∀ {ts:List T} {i:Nat} {us:List T},(ts.map Sl.vl++List.replicate n Sl.un)[i]? =some (Sl.ow us)->False
 | [],i,us,h=>by
  simp only [List.map_nil,List.nil_append] at h
  rw [List.getElem?_replicate] at h
  split at h
  ·cases h
  ·cases h
 | t :: ts,0,us,h=>by simp at h
 | t :: ts,i+1,us,h=>YB (ts:=ts) (i:=i) (us:=us) (n:=n) (by simpa using h)
theorem YC {n:Nat}:∀ {ts:List T} {i:Nat} {c:Nat},(ts.map Sl.vl++List.replicate n Sl.un)[i]? =some (Sl.xc c)->False
 | [],i,us,h=>by
  simp only [List.map_nil,List.nil_append] at h
  rw [List.getElem?_replicate] at h
  split at h
  ·cases h
  ·cases h
 | t :: ts,0,us,h=>by simp at h
 | t :: ts,i+1,us,h=>YC (ts:=ts) (i:=i) (c:=us) (n:=n) (by simpa using h)
theorem SI.start {Y:Fx} {N:List Str} {vs:List V} {ts:List T} (s:zp Y.B0 Y.H0) (r:zB Y.B0 vs ts):SI Y Y.B0 (en0 N.length ts) (L2.start N vs) Y.H0 where
 s0:=s
 sH:=zp.refl _
 sB:=s
 old:=fun _ _ _=>rfl
 len:=by unfold en0 L2.start; simp [r.length]
 vl:=fun i t h=>r.vl h
 ow:=fun i ts h=>(YB h).elim
 xc:=fun i c h=>(YC h).elim
section
variable {P:Program} {w:World} {K:PySem.W.Frag} {mg:Str->Option Value} {base:Heap}
theorem Zo {cl:Nat->Value} {x qual:Str} {st:Stmt} {f:Addr} {fd:FuncData} {N ps:List Str} {k n:Nat} {fb:En->RS} {g:List T->R T} (F:Fun K x qual st f fd) (S:zf N ps (z9 st)) (hn:n=ps.length)
  (hb:∀ (cdv:Value) (A:Around) (outer:List Env) (s:Shared) (H:Hp) (E:XK) (Y:Fx),Y.cl=cl->ju k (A.deeper (envOfC qual (z9 st) s.heap.objs.size f cdv))->
   Ub (Jf CX0 P w K mg base N qual (z9 st) f cdv A outer s H E).nox Y (Zs st) fb)
  (hg:∀ ts,ts.length=n->g ts=zh (fb (en0 N.length ts))):ZA P w K mg base CX0 (k+1) f fd ps (spP cl n g):=by
 subst hn
 refine F.ok S spP.len fun cdv A outer s H vs Q E hr ⟨B,ts,hl,sB,r,q⟩=> ?_
 refine ⟨_,hb cdv A outer s H E ⟨B,H,E,cl⟩ rfl hr (en0 N.length ts),B,SI.start (Y:=⟨B,H,E,cl⟩) sB r, ?_⟩
 rw [hg ts hl] at q
 revert q
 cases fb (en0 N.length ts) with
 | rt t=>exact fun q v H' s r=>q v H' s r
 | rf t=>exact fun q a xs H' B' s0 n e r _ l=>q (.ref a) H' s0 (.lst (by rw [Zd n]; exact e) (r.mono l))
 | nx ρ=>exact fun q σ' H' B' _ I=>q .non H' I.sH .non
 | ex c=>exact fun q=>q
 | bk ρ=>exact fun q=>q.elim
 | ct ρ=>exact fun q=>q.elim
 | bad=>exact fun q=>q
end
abbrev rI:Hp->Hp->It->List T->Prop:=fun B1 _ J ts=>∀ B2 H2,zp B1 B2->zp B2 H2->(∀ i,i < ts.length->J.go i H2)/\(∀ (i:Nat) t x H3,ts[i]? =some t->J.yld i H2 x H3->zp H2 H3/\Rep (zL B2 H2 H3) x t)/\(∀ i,ts.length<=i->J.stop i H2)
structure yZ (X:Cx) (Y:Fx) (tg iter:Expr) (f:En->R (List T)):Prop where
 mk ::
 go:∀ ρ,PI X tg iter (tS Y rI f ρ)
instance {X:Cx} {Y:Fx} {tg iter:Expr} {f:En->R (List T)}:CoeFun (yZ X Y tg iter f) fun _=>∀ ρ,PI X tg iter (tS Y rI f ρ):=⟨yZ.go⟩
section
variable {X:Cx} {Y:Fx} {a b c d tg:Expr} {fa fb fc fd:En->R T} {pos p:Pos}
theorem PI.imp {e:Expr} {t t' :TI} (h:PI X tg e t) (i:∀ σ H Q,t' σ H Q->t σ H Q):PI X tg e t' :=fun pins s σ H Q I q=>h pins s σ H Q I (i σ H Q q)
theorem vo {K:PySem.W.Frag} {B1 H1:Hp} {a:Addr} {xs:List V} {ts:List T} (h:B1 a=some (.tup xs)) (r:zB B1 xs ts):rI B1 H1 (Itt K a) ts:=fun B2 H2 s1 s2=>by
 have h2:=s2 _ _ (s1 _ _ h)
 refine ⟨fun i hi=> ?_,fun i t x H3 e y=> ?_,fun i hi=>⟨xs,SqT.of h2,by rw [r.length]; exact hi⟩⟩
 ·obtain ⟨v,e,_⟩:=r.get (List.getElem?_eq_getElem hi)
  exact ⟨xs,v,SqT.of h2,e⟩
 ·obtain ⟨rfl,y⟩:=y
  obtain ⟨v,e1,r1⟩:=r.get e
  have:=y xs (SqT.of h2)
  rw [e1] at this; cases this
  refine ⟨zp.refl _, ?_⟩
  rw [zL.self B2 _ s2]
  exact r1.mono s1
theorem vp {K:PySem.W.Frag} {B1 H1:Hp} {a:Addr} {xs:List V} {ts:List T} (h:B1 a=some (.lst xs)) (r:zB B1 xs ts):rI B1 H1 (Itl K a) ts:=fun B2 H2 s1 s2=>by
 have h2:=s2 _ _ (s1 _ _ h)
 refine ⟨fun i hi=> ?_,fun i t x H3 e y=> ?_,fun i hi=>⟨xs,SqL.of h2,by rw [r.length]; exact hi⟩⟩
 ·obtain ⟨v,e,_⟩:=r.get (List.getElem?_eq_getElem hi)
  exact ⟨xs,v,SqL.of h2,e⟩
 ·obtain ⟨rfl,y⟩:=y
  obtain ⟨v,e1,r1⟩:=r.get e
  have:=y xs (SqL.of h2)
  rw [e1] at this; cases this
  refine ⟨zp.refl _, ?_⟩
  rw [zL.self B2 _ s2]
  exact r1.mono s1
def rng (lo:Int) (n:Nat):List T:=(List.range n).map fun (i:Nat)=>T.int (lo+(i:Int))
theorem YD {B1 H1:Hp} {lo:Int} {n:Nat}:rI B1 H1 (Itr lo n) (rng lo n):=fun B2 H2 s1 s2=>by
 have hl:(rng lo n).length=n:=by unfold rng; simp
 refine ⟨fun i hi=>by rw [hl] at hi; exact hi,fun i t x H3 e y=> ?_,fun i hi=>by rw [hl] at hi; exact hi⟩
 obtain ⟨rfl,rfl⟩:=y
 refine ⟨zp.refl _, ?_⟩
 unfold rng at e
 rw [List.getElem?_map] at e
 by_cases hi:i < n
 ·rw [List.getElem?_range hi] at e
  cases e
  exact .int _
 ·rw [List.getElem?_eq_none (by simp; omega)] at e; cases e
def jf (fa:En->R T):En->R (List T):=fun ρ=>(fa ρ).bind fun t=>match t with
 | .int j=>if -1000000 < j/\j < 1000000 then .ok (rng 0 j.toNat) else .bad
 | _=> .bad
def Jl (fa fb:En->R T):En->R (List T):=fun ρ=>(fa ρ).bind fun t=>(fb ρ).bind fun t' =>match t,t' with
 | .int i, .int j=>if -1000000 < i/\i < 1000000/\ -1000000 < j/\j < 1000000 then .ok (rng i (j - i).toNat) else .bad
 | _,_=> .bad
theorem WG (gl:Gl X "range") (mg:X.mg "range"=none) (ha:Snd X Y a fa) (hs:St1 X a:=by exact st1 rfl):yZ X Y tg (.Call (.Name "range" p) [a] [] pos) (jf fa):= .mk fun ρ=>PI.imp (uG gl mg (zt (ha ρ) Zf hs) hs) fun σ H R ⟨B,I,q⟩=>step I q fun t v H1 _ s1 r1 I1 q1=>by
 cases r1 with
 | int j=>
  have q1:Po Y rI _ H1 (if -1000000 < j/\j < 1000000 then .ok (rng 0 j.toNat) else .bad) R:=q1
  split at q1
  ·rename_i hj
   exact ⟨j,rfl,by omega,by omega,ZU I1 q1 YD⟩
  ·exact q1.elim
 | _=>exact q1.elim
theorem vq (gl:Gl X "range") (mg:X.mg "range"=none) (ha:Snd X Y a fa) (hb:Snd X Y b fb) (hs:starEach [a,b] X.env=[(false,eval a X.env),(false,eval b X.env)]:=by exact st2 rfl rfl) (hs2:St1 X b:=by exact st1 rfl):yZ X Y tg (.Call (.Name "range" p) [a,b] [] pos) (Jl fa fb):= .mk fun ρ=>
 PI.imp (uH gl mg (zt (ha ρ) (zt (hb ρ) Zf hs2) (by rw [hs,hs2])) hs hs2) fun σ H R ⟨B,I,q⟩=>step I q fun t v H1 _ s1 r1 I1 q1=>step I1 q1 fun t' v' H2 _ s2 r2 I2 q2=>by
  cases r1 with
  | int i=>
   cases r2 with
   | int j=>
    have q2:Po Y rI _ H2 (if -1000000 < i/\i < 1000000/\ -1000000 < j/\j < 1000000 then .ok (rng i (j - i).toNat) else .bad) R:=q2
    split at q2
    ·rename_i hj
     exact ⟨i,j,rfl,⟨by omega,by omega,by omega,by omega⟩,ZU I2 q2 YD⟩
    ·exact q2.elim
   | _=>exact q2.elim
  | _=>cases r2 <;> exact q2.elim
def Vd (X:Cx) (Y:Fx) (tg:Expr) (g:T->En->R En):Prop:=∃ t:TG,PG X tg t/\∀ B ρ σ H v x Q,SI Y B ρ σ H->Rep B v x->(match g x ρ with | .ok ρ' =>∀ σ',SI Y B ρ' σ' H->Q σ' H | _=>False)->t v σ H Q
def zr (i:Nat):T->En->R En:=fun t ρ=> .ok (ρ.set i (.vl t))
theorem jn {i:Nat} {x:Str} (hN:X.N.Nodup) (hi:X.N[i]? =some x) (hx:L2.Loc X.env.scope x) (hf:X.fn x=true\/X.env.scope.names.lookup x=some .local:=by first | exact .inl rfl | exact .inr rfl | assumption):Vd X Y (.Name x pos) (zr i):=
 ⟨wd i,zm hN hi hx hf,fun B ρ σ H v x Q I r q=>q _ (I.setV i r)⟩
def zQ (i j:Nat):T->En->R En:=fun t ρ=>match t with
 | .tup [x,y]=> .ok ((ρ.set i (.vl x)).set j (.vl y))
 | _=> .bad
theorem Ue {i j:Nat} {x y:Str} {p' p2:Pos} {k:Nat} (hc:X.calm=true) (hN:X.N.Nodup) (hi:X.N[i]? =some x) (hj:X.N[j]? =some y) (hx:L2.Loc X.env.scope x) (hy:L2.Loc X.env.scope y)
  (hf:X.fn x=true\/X.env.scope.names.lookup x=some .local:=by first | exact .inl rfl | exact .inr rfl | assumption) (hf' :X.fn y=true\/X.env.scope.names.lookup y=some .local:=by first | exact .inl rfl | exact .inr rfl | assumption):
  Vd X Y (.Tuple [.Name x pos, .Name y p'] k p2) (zQ i j):=by
 refine ⟨Vu X.K 2 (uD (wd i) (uD (wd j) Vt)),jG hc (zS (zm hN hi hx hf) (zS (zm hN hj hy hf') j8)),fun B ρ σ H v t Q I r q=> ?_⟩
 cases r with
 | @tup l xs ts h r=>
  cases r with
  | nil=>exact q.elim
  | cons r1 rr=>
   cases rr with
   | nil=>exact q.elim
   | cons r2 rr=>
    cases rr with
    | cons _ _=>exact q.elim
    | nil=>
     exact ⟨l,_,rfl,SqT.of (I.sB _ _ h),rfl,_,_,rfl,_,_,rfl,rfl,q _ ((I.setV i r1).setV j r2)⟩
 | _=>exact q.elim
def ZO (g:T->En->R En) (fb:En->RS):List T->En->RS
 | [],ρ=> .nx ρ
 | t :: ts,ρ=>match g t ρ with
  | .ok ρ1=>match fb ρ1 with
   | .nx ρ2=>ZO g fb ts ρ2
   | .ct ρ2=>ZO g fb ts ρ2
   | .bk ρ2=> .nx ρ2
   | r=>r
  | .ex c=> .bad
  | .bad=> .bad
def jk (fi:En->R (List T)) (g:T->En->R En) (fb:En->RS):En->RS:=fun ρ=>(fi ρ).s fun ts=>ZO g fb ts ρ
theorem JF {iter:Expr} {sts:List Stmt} {fi:En->R (List T)} {g:T->En->R En} {fb:En->RS} (hp:PassesOwn (model X.prog X.w) X.A X.env X.xe) (hc:X.calm=true) (hi:yZ X Y tg iter fi) (hg:Vd X Y tg g) (hb:Ub X Y sts fb)
  (hs:∀ x,foldedSetIterable iter X.env x=pure x:=by intro _; rfl):wZ X Y (.For tg iter sts [] pos) (jk fi g fb):= .mk fun ρ=>by
 obtain ⟨tG,hG,hG'⟩:=hg
 refine PS.imp (QR (tb:=fun D σ H=>∃ ρ',tSS Y fb ρ' D σ H) hp hc (hi ρ) hG (fun pins s σ H D I ⟨ρ',q⟩=>hb ρ' pins s σ H D I q) hs) fun D σ H ⟨B,I,q⟩=> ?_
 refine JE I q fun ts J H1 _ s1 r1 I1 q1=> ?_
 refine ⟨fun i m σ' H' =>m=ts.length - i/\i<=ts.length/\∃ ρ' B',SI Y B' ρ' σ' H' /\zp (zL B H H1) B' /\PoS Y B' (ZO g fb (ts.drop i) ρ') D,⟨ts.length,by simp,Nat.zero_le _,ρ,_,I1,zp.refl _,q1⟩, ?_⟩
 rintro i m σ' H' ⟨rfl,hi,ρ',B',I',sB',q'⟩
 obtain ⟨hgo,hyld,hstop⟩:=r1 B' H' sB' I'.sB
 by_cases hlt:i < ts.length
 ·refine .inr ⟨hgo i hlt,fun σ2 H2=>∃ ρ2 B2,SI Y B2 ρ2 σ2 H2/\zp (zL B H H1) B2/\PoS Y B2 (ZO g fb (ts.drop (i+1)) ρ2) D,fun σ2 H2 ⟨ρ2,B2,I2,s2,q2⟩=>⟨ts.length - (i+1),by omega,rfl,hlt,ρ2,B2,I2,s2,q2⟩,fun x H2 y=> ?_⟩
  obtain ⟨s2,r2⟩:=hyld i _ x H2 (List.getElem?_eq_getElem hlt) y
  rw [List.drop_eq_getElem_cons hlt] at q'
  unfold ZO at q'
  refine hG' _ ρ' σ' H2 x _ _ (I'.grow s2) r2 ?_
  cases eg:g ts[i] ρ' with
  | bad=>rw [eg] at q'; exact q'
  | ex c=>rw [eg] at q'; exact q'
  | ok ρ1=>
   rw [eg] at q'
   intro σ1 J1
   refine ⟨ρ1,_,J1, ?_⟩
   have q2:=PoS.up (zL.ge I'.sB s2) q'
   dsimp only at q2
   have s3:zp (zL B H H1) (zL B' H' H2):=sB'.trans (zL.ge I'.sB s2)
   revert q2
   cases fb ρ1 with
   | nx ρ2=>exact fun q2 σ3 H3 B3 s4 I3=>⟨ρ2,B3,I3,s3.trans s4,PoS.up s4 q2⟩
   | ct ρ2=>exact fun q2 σ3 H3 B3 s4 I3=>⟨ρ2,B3,I3,s3.trans s4,PoS.up s4 q2⟩
   | bk ρ2=>exact fun q2=>q2
   | rt t=>exact fun q2=>q2
   | rf t=>exact fun q2=>q2
   | ex c=>exact fun q2=>q2
   | bad=>exact fun q2=>q2
 ·have e:i=ts.length:=by omega
  subst e
  rw [List.drop_length] at q'
  exact .inl ⟨hstop _ (Nat.le_refl _),q' σ' H' B' (zp.refl _) I'⟩
end
theorem jN {env:Env}:∀ (ns:List (Str×NameKind)) (acc:List (Str×Addr)),(∀ x∈ns,x.2=NameKind.free->∃ c,env.cells.lookup x.1=some c)->(∀ x c,acc.lookup x=some c->env.cells.lookup x=some c)->
  ∃ cl,(forIn ns acc (fun (x:Str×NameKind) (r:List (Str×Addr))=>if (x.2 == NameKind.free)=true then (do let c ← cellOf env x.1; pure (ForInStep.yield ((x.1,c) :: r))) else pure (ForInStep.yield r)):Sem _)=pure cl/\
   (∀ x c,cl.lookup x=some c->env.cells.lookup x=some c)/\(∀ x c,acc.lookup x=some c->∃ c',cl.lookup x=some c')/\(∀ x∈ns,x.2=NameKind.free->∃ c,cl.lookup x.1=some c)
 | [],acc,_,h=>⟨acc,rfl,h,fun x c e=>⟨c,e⟩,fun x hx=>by simp at hx⟩
 | (n,k) :: ns,acc,hf,h=>by
  by_cases hk:k=NameKind.free
  ·obtain ⟨c,hc⟩:=hf (n,k) List.mem_cons_self hk
   have h' :∀ x d,((n,c) :: acc).lookup x=some d->env.cells.lookup x=some d:=fun x d e=>by
    by_cases hx:x=n
    ·subst hx
     have e' :some c=some d:=by simpa [List.lookup_cons] using e
     cases e'; exact hc
    ·have e' :acc.lookup x=some d:=by
      rw [List.lookup_cons,(beq_eq_false_iff_ne.mpr hx)] at e; exact e
     exact h x d e'
   obtain ⟨cl,e,h1,h2,h3⟩:=jN ns ((n,c) :: acc) (fun x hx=>hf x (List.mem_cons_of_mem _ hx)) h'
   refine ⟨cl, ?_,h1,fun x d ed=> ?_,fun x hx hxf=> ?_⟩
   ·rw [List.forIn_cons]
    subst hk
    have q:cellOf env n=pure c:=by unfold cellOf; rw [hc]
    simp only [beq_self_eq_true,if_true,q]
    exact e
   ·by_cases hx:x=n
    ·subst hx; exact h2 x c (by simp [List.lookup_cons])
    ·exact h2 x d (by rw [List.lookup_cons,(beq_eq_false_iff_ne.mpr hx)]; exact ed)
   ·rcases List.mem_cons.mp hx with rfl | hx
    ·exact h2 n c (by simp [List.lookup_cons])
    ·exact h3 x hx hxf
  ·obtain ⟨cl,e,h1,h2,h3⟩:=jN ns acc (fun x hx=>hf x (List.mem_cons_of_mem _ hx)) h
   refine ⟨cl, ?_,h1,h2,fun x hx hxf=> ?_⟩
   ·rw [List.forIn_cons]
    have q:(k == NameKind.free)=false:=by simpa using hk
    simp only [q,Bool.false_eq_true,if_false]
    exact e
   ·rcases List.mem_cons.mp hx with rfl | hx
    ·exact absurd hxf hk
    ·exact h3 x hx hxf
theorem qS {scope:Scope} {env:Env} (hf:∀ x∈scope.names,x.2=NameKind.free->∃ c,env.cells.lookup x.1=some c):
  ∃ cl,closureFor scope env=pure cl/\(∀ x c,cl.lookup x=some c->env.cells.lookup x=some c)/\(∀ x∈scope.names,x.2=NameKind.free->∃ c,cl.lookup x.1=some c):=by
 obtain ⟨cl,e,h1,_,h3⟩:=jN scope.names [] hf (fun x c e=>by simp at e)
 refine ⟨cl, ?_,h1,h3⟩
 unfold closureFor
 show (do let cs ← _; pure cs)=_
 exact (by simpa using e)
def cxC (X:Cx) (scope:Scope) (N' :List Str) (cl:List (Str×Addr)) (C:Addr) (s3:Shared) (H3:Hp) (fp:List Addr) (pins:List (Addr×Obj)):Cx:=
 { X with N:=N',s₀:=s3,H₀:=H3,env:=compEnvC scope cl C X.env,outer:=X.stack,stack:=X.stack,ex:=fp,fn:=fun _=>false,pn:=X.pn++pins,xe:=fun _ _=>False }
structure CSc (X:Cx) (scope:Scope):Prop where
 kind:scope.kind= .function
 nocell:∀ x∈scope.names,x.2 ≠ .cell
 loc:∀ x∈scope.names,x.2= .local->scope.names.lookup x.1=some .local
 fre:∀ x∈scope.names,x.2= .free->X.env.kindOf x.1=some .cell\/X.env.kindOf x.1=some .free
theorem jg {scope:Scope} {env:Env} {x:Str} {k:NameKind} (h:(relabel scope env).names.lookup x=some k) (hk:k= .cell\/k= .free) (hn:∀ x∈scope.names,x.2 ≠ NameKind.cell):∃ y∈scope.names,y.1=x/\y.2= .free:=by
 have go:∀ ns:List (Str×NameKind),(∀ x∈ns,x.2 ≠ NameKind.cell)->(ns.map fun (n,k)=>if (k == NameKind.free && env.scope.kind == .function && env.kindOf n == some .cell) then (n,NameKind.cell) else (n,k)).lookup x=some k->∃ y∈ns,y.1=x/\y.2= .free:=by
  intro ns
  induction ns with
  | nil=>intro _ h; simp at h
  | cons y ns ih=>
   intro hn h
   obtain ⟨n,k'⟩:=y
   by_cases hx:x=n
   ·subst hx
    refine ⟨(x,k'),List.mem_cons_self,rfl, ?_⟩
    rw [List.map_cons] at h
    by_cases hc:(k' == NameKind.free && env.scope.kind == .function && env.kindOf x == some .cell)=true
    ·rw [Bool.and_eq_true,Bool.and_eq_true] at hc
     exact eq_of_beq hc.1.1
    ·simp only [if_neg hc,List.lookup_cons,beq_self_eq_true] at h
     cases h
     rcases hk with rfl | rfl
     ·exact absurd rfl (hn _ List.mem_cons_self)
     ·rfl
   ·obtain ⟨z,hz,h1,h2⟩:=ih (fun z hz=>hn z (List.mem_cons_of_mem _ hz)) (by
     rw [List.map_cons] at h
     by_cases hc:(k' == NameKind.free && env.scope.kind == .function && env.kindOf n == some .cell)=true
     ·simp only [if_pos hc,List.lookup_cons,(beq_eq_false_iff_ne.mpr hx)] at h; exact h
     ·simp only [if_neg hc,List.lookup_cons,(beq_eq_false_iff_ne.mpr hx)] at h; exact h)
    exact ⟨z,List.mem_cons_of_mem _ hz,h1,h2⟩
 exact go scope.names hn h
section
variable {X:Cx} {pins:List (Addr×Obj)} {σ:Sg} {H:Hp} {s:Shared}
theorem Uf {scope:Scope} {N' :List Str} {cl:List (Str×Addr)} {fp:List Addr} {h' :Heap} {tk:Nat} {σ' :Sg} (I:L2.Inv X pins σ H s) (S:CSc X scope) (hc:X.calm=true)
  (hcl:∀ x c,cl.lookup x=some c->X.env.cells.lookup x=some c) (hcf:∀ x∈scope.names,x.2=NameKind.free->∃ c,cl.lookup x.1=some c)
  (hfp:∀ b∈fp,Wx X pins H b) (hfo:∀ b∈fp,∃ o,s.heap.get? b=some o)
  (hns:h'.Ns s.heap.objs.size (fun _=>none)) (hk:∀ b o,s.heap.get? b=some o->h'.get? b=some o)
  (hl:σ'.length=N'.length) (hσ:∀ (i:Nat) (x:Str) (v:V),N'[i]? =some x->σ'[i]? =some (some v)->∃ j:Nat,X.N[j]? =some x/\σ[j]? =some (some v)/\Vis X.env.scope x/\(scope.names.lookup x=some .free)/\(X.env.kindOf x=some .cell\/X.env.kindOf x=some .free)):
  L2.Inv (cxC X scope N' cl s.heap.objs.size s H fp pins) [] σ' H { s with heap:=h',toks:=tk }:=by
 have stk:=I.stkSub
 have hlt:∀ b∈fp,b < s.heap.objs.size:=fun b hb=>let ⟨o,e⟩:=hfo b hb; Heap.lt_size e
 have fresh:H s.heap.objs.size=none:=I.hok.fresh (Nat.le_refl _)
 refine ⟨⟨I.ok.mod,S.kind,I.ok.glob,I.ok.blt,Nat.le_refl _,fun x y c h1 h2=>I.ok.inj x y c (hcl _ _ h1) (hcl _ _ h2),fun x hx=> ?_,fun x c h _=>(Bool.false_ne_true h).elim,fun _=>I.ok.hd hc,I.ok.frames, .inl rfl,fun b hb=> ?_,I.bs,
   Nat.le_trans I.ok.bsz I.sz,fun b o e hb=> ?_,fun b hb hb' => ?_,I.stack,I.stkFree⟩,rfl,I.bare,Un.kept hk,⟨_,hns,fun i x v h1 h2 h3=> ?_⟩,fun x c e=> ?_,fresh,fun x c e=>I.freeC x c (hcl _ _ e),fun p hp=> ?_,I.hok.kept hk,hl⟩
 ·have hx' :(relabel scope X.env).names.lookup x=some .cell\/(relabel scope X.env).names.lookup x=some .free:=hx
  obtain ⟨y,hy,rfl,hyf⟩:∃ y∈scope.names,y.1=x/\y.2= .free:=by
   rcases hx' with h | h
   ·exact jg h (.inl rfl) S.nocell
   ·exact jg h (.inr rfl) S.nocell
  exact hcf y hy hyf
 ·refine ⟨Nat.ne_of_lt (hlt b hb),fun x c e=>(hfp b hb).2.2.2.2.1 x c (hcl _ _ e)⟩
 ·rcases (hfp b hb).2.2.2.1 with h | h
  ·exact I.ok.noex b o e h
  ·exact absurd (Nat.lt_of_lt_of_le (Heap.lt_size e) (Nat.le_trans I.ok.bsz h)) (Nat.lt_irrefl _)
 ·have q:=hfp b hb
  rcases List.mem_cons.mp (stk b hb') with z | z
  ·exact q.2.1 z
  ·exact q.2.2.1 z
 ·obtain ⟨j,e1,e2,e3,e4,e5⟩:=hσ i x v h1 h2
  obtain ⟨m,hn,hloc⟩:=I.loc
  obtain ⟨u,ru,lk⟩:=hloc j x v e1 e2 e3
  refine ⟨u,ru, .inr ⟨?_, ?_⟩⟩
  ·have h3:Vis (relabel scope X.env) x:=h3
   rcases h3 with h | h | h
   ·exfalso
    have:∀ ns:List (Str×NameKind),ns.lookup x=some .free->(ns.map fun (n,k)=>if (k == NameKind.free && X.env.scope.kind == .function && X.env.kindOf n == some .cell) then (n,NameKind.cell) else (n,k)).lookup x ≠ some .local:=by
     intro ns
     induction ns with
     | nil=>intro z; simp at z
     | cons y ns ih=>
      obtain ⟨n,k⟩:=y
      intro z w
      rw [List.map_cons] at w
      by_cases hx:x=n
      ·subst hx
       have hkf:some k=some NameKind.free:=by simpa [List.lookup_cons] using z
       by_cases hcn:(k == NameKind.free && X.env.scope.kind == .function && X.env.kindOf x == some .cell)=true
       ·simp only [if_pos hcn,List.lookup_cons,beq_self_eq_true] at w; cases w
       ·simp only [if_neg hcn,List.lookup_cons,beq_self_eq_true] at w
        rw [hkf] at w; cases w
      ·have z' :ns.lookup x=some .free:=by rw [List.lookup_cons,(beq_eq_false_iff_ne.mpr hx)] at z; exact z
       refine ih z' ?_
       by_cases hcn:(k == NameKind.free && X.env.scope.kind == .function && X.env.kindOf n == some .cell)=true
       ·simp only [if_pos hcn,List.lookup_cons,(beq_eq_false_iff_ne.mpr hx)] at w; exact w
       ·simp only [if_neg hcn,List.lookup_cons,(beq_eq_false_iff_ne.mpr hx)] at w; exact w
    exact this _ e4 h
   ·exact .inl h
   ·exact .inr h
  ·rcases lk with ⟨hk',_⟩ | ⟨_,c,hc',hcell⟩
   ·rcases e5 with z | z <;> (rw [z] at hk'; cases hk')
   ·obtain ⟨c',hc2⟩:=hcf (x, .free) (PySem.mem_of_lookup e4) rfl
    have:=hcl x c' hc2
    rw [hc'] at this; cases this
    obtain ⟨o,eo,ed⟩:=hcell
    exact ⟨c,hc2,o,hk _ _ eo,ed⟩
 ·obtain ⟨v,o,eo,ed⟩:=I.cell x c (hcl _ _ e)
  exact ⟨v,o,hk _ _ eo,ed⟩
 ·have hp' :p∈X.pn++pins:=by
   have:p∈(X.pn++pins)++[]:=hp
   rwa [List.append_nil] at this
  obtain ⟨e,n,ne,nf,dc⟩:=I.pin p hp'
  refine ⟨hk _ _ e,n,Nat.ne_of_lt (Heap.lt_size e),fun hb=> ?_,dc⟩
  rcases List.mem_cons.mp (stk _ hb) with z | z
  ·exact ne z
  ·exact nf z
end
def PIf (X:Cx) (ifs:List Expr) (t:TT):Prop:=
 ∀ (pins:List (Addr×Obj)) (s:Shared) (σ:Sg) (H:Hp) (Q:Bool->Hp->Prop),L2.Inv X pins σ H s->t σ H Q->
  wpAny (model X.prog X.w) X.A (forIn ifs true fun c r=>if r=true then do let ok ← isTrue c X.env (eval c X.env); pure (ForInStep.yield ok) else pure (ForInStep.yield r)) (TP X pins σ Q) X.xe s
theorem qT {X:Cx}:PIf X [] (fun _ H Q=>Q true H):=fun _ _ σ H _ I h=>wpAny_tests_nil ⟨H,I,h⟩
theorem JG {α:Type} {M:Model} {A:Around} {m:Sem α} {Q:α->Shared->Prop} {E E' :Value->Shared->Prop} {s:Shared} (hE:E' =fun _ _=>False) (h:wpAny M A m Q E' s):wpAny M A m Q E s:=wpAny_mono h (fun _ _ q=>q) fun e s' z=>by
 rw [hE] at z; exact z.elim
def qU (J:It) (D:Addr) (g:TG) (tt:TT) (te:TE) (fin:Sg->Hp->Prop) (W:Nat->Nat->List V->Sg->Hp->Prop):Prop:=
 ∀ i m ys σ H,W i m ys σ H->H D=some (.lst ys)/\((J.stop i H/\fin σ H)\/(J.go i H/\∀ x H2,J.yld i H x H2->g x σ H2 fun σ3 H3=>tt σ3 H3 fun k H4=>
  if k=true then te σ3 H4 fun v H5=>H5 D=some (.lst ys)/\ys.length < sizeLine/\∃ m',m' < m/\W (i+1) m' (ys++[v]) σ3 (upd H5 D (.lst (ys++[v]))) else ∃ m',m' < m/\W (i+1) m' ys σ3 H4))
theorem Ug {X:Cx} (hx:X.xe=fun _ _=>False) (hc:X.calm=true) {tg iter elt:Expr} {ifs:List Expr} {scope:Scope} {pos:Pos} {J:It} {fp:List Addr} {it:Addr} {tn:Nat->Heap->Prop} (TJ:Yv X.prog X.w X.K tg J fp it tn)
  {g:TG} {tt:TT} {te:TE} (hg:PG X tg g) (ht:PIf X ifs tt) (he:PE X elt te) {D:Addr} {R:Result->Shared->Prop} {fin:Sg->Hp->Prop} (W:Nat->Nat->List V->Sg->Hp->Prop) (turn:qU J D g tt te fin W)
  (hR:∀ s σ H,L2.Inv X [] σ H s->fin σ H->R (.ok .next) s) {m0:Nat} {σ0:Sg} {H0:Hp} {s0:Shared} (w0:W 0 m0 [] σ0 H0) (I0:L2.Inv X [] σ0 H0 s0) (t0:tn 0 s0.heap) (f0:∀ b∈fp,Wx X [] H0 b):
  codeAny (model X.prog X.w) X.A (.compLoop (.ListComp elt [⟨tg,iter,ifs,0⟩] scope pos) 0 (.ref it) (.ref D) X.env) R s0:=by
 have stat:∀ {H' :Hp},(∀ b∈fp,H' b=none)->∀ b∈fp,Wx X [] H' b:=fun hn b hb=>⟨hn b hb,(f0 b hb).2⟩
 refine codeAny_loop rfl (fun n s' =>∃ i ys σ' H',L2.Inv X [] σ' H' s' /\tn i s'.heap/\(∀ b∈fp,H' b=none)/\W i n ys σ' H') (fun n s3 h3=> ?_) m0 ⟨0,[],σ0,H0,I0,t0,fun b hb=>(f0 b hb).1,w0⟩
 obtain ⟨i,ys,σ3,H3,I3,st3,fr3,w3⟩:=h3
 show wpAny _ X.A ((compTurn (.ListComp elt [⟨tg,iter,ifs,0⟩] scope pos) 0 (.ref it) (.ref D) X.env).onRaise (fun x=>do noteFrame x X.env; theTreesLotGoes x)) _ _ s3
 refine wpAny_noted ?_
 rw [compTurn_list]
 obtain ⟨hD,h⟩:=turn i n ys σ3 H3 w3
 rcases h with ⟨stop,qn⟩ | ⟨go,next⟩
 ·refine wpAny_bind (wpAny_standAt (wpAny_bind (thn (TJ.done X rfl rfl rfl hc i [] s3 σ3 H3 _ I3 (stat fr3) st3 stop) fun r s4 ⟨hr,I4⟩=> ?_)))
  subst hr
  exact wpAny_pure (hR s4 σ3 H3 I4 qn)
 ·refine wpAny_bind (wpAny_standAt (wpAny_bind (thn (TJ.item X rfl rfl rfl hc i [] s3 σ3 H3 _ I3 (stat fr3) st3 go) fun r s4 ⟨u,hr,h4⟩=> ?_)))
  subst hr
  refine wpAny_bind (thn h4 fun _ s5 ⟨x,H5,I5,r5,y5,st5,fr5⟩=> ?_)
  have I5' :=I5.pinned (stat fr5) (TJ.obj _ _ st5)
  refine wpAny_bind (JG hx (thn (hg _ s5 σ3 H5 x u _ I5' r5 (next x H5 y5)) fun _ s6 ⟨σ6,H6,I6,q6⟩=> ?_))
  have again:∀ {σ7:Sg} {H7:Hp} {s7:Shared} {ys' :List V},L2.Inv X ([]++we fp s5.heap) σ7 H7 s7->(∃ m',m' < n/\W (i+1) m' ys' σ7 H7)->∃ m,m < n/\∃ i ys σ' H',L2.Inv X [] σ' H' s7/\tn i s7.heap/\(∀ b∈fp,H' b=none)/\W i m ys σ' H' :=fun {σ7 H7 s7 ys'} I7 ⟨m',hm,w7⟩=>by
   refine ⟨m',hm,i+1,ys',σ7,H7,I7.unpinned,TJ.keep _ _ _ st5 fun b hb o e=>(I7.pin (b,o) (List.mem_append_right _ (List.mem_append_right _ (ZZ hb e)))).1,fun b hb=> ?_,w7⟩
   obtain ⟨o,e,d⟩:=TJ.obj _ _ st5 b hb
   exact (I7.pin (b,o) (List.mem_append_right _ (List.mem_append_right _ (ZZ hb e)))).2.1
  refine wpAny_bind (JG hx (thn (ht _ s6 σ6 H6 _ I6 q6) fun k s7 ⟨H7,I7,q7⟩=> ?_))
  cases k with
  | false=>exact wpAny_pure ⟨rfl,again I7 q7⟩
  | true=>
   refine wpAny_bind (wpAny_bind (JG hx (thn (he _ s7 σ6 H7 _ I7 q7) fun v s8 ⟨y,H8,I8,r8,hD8,hlen,q8⟩=> ?_)))
   refine wpAny_bind (JG hx (thn (wo _ s8 σ6 H8 (.ref D) [y] (.ref D) [v] (fun _ H9=>∃ m',m' < n/\W (i+1) m' (ys++[y]) σ6 H9) I8 rfl (.cons r8 .nil) ⟨D,ys,y,rfl,rfl,hD8,hlen,q8⟩) fun w s9 ⟨_,H9,I9,_,q9⟩=> ?_))
   exact wpAny_pure (wpAny_pure ⟨rfl,again I9 q9⟩)
def YE (k:Nat) (js:List Nat) (σ:Sg):Sg:=List.replicate k none++js.map fun j=>(σ[j]?).getD none
section
variable {X:Cx}
abbrev Y0 (X:Cx) (scope:Scope) (N' :List Str) (P:Cx->Prop):Prop:=∀ cl C s3 H3 fp pins,P (cxC X scope N' cl C s3 H3 fp pins)
structure VR (X:Cx) (scope:Scope) (N' :List Str) (k:Nat) (js:List Nat):Prop where
 len:N'.length=k+js.length
 cap:∀ (i j:Nat),js[i]? =some j->∃ x,N'[k+i]? =some x/\X.N[j]? =some x/\Vis X.env.scope x/\scope.names.lookup x=some .free/\(X.env.kindOf x=some .cell\/X.env.kindOf x=some .free)
theorem WH {tg iter elt:Expr} {ifs:List Expr} {scope:Scope} {pos pos' :Pos} {N' :List Str} {k:Nat} {js:List Nat} {wi:TI} {g:TG} {tt:TT} {te:TE} {use:Option (Value->Sem Unit)} (S:CSc X scope) (CP:VR X scope N' k js) (hc:X.calm=true)
  (hi:PI X tg iter wi) (hg:Y0 X scope N' fun XC=>PG XC tg g) (ht:Y0 X scope N' fun XC=>PIf XC ifs tt) (he:Y0 X scope N' fun XC=>PE XC elt te) {pins:List (Addr×Obj)} {σ:Sg} {H:Hp} {s:Shared} {Q:Value->Shared->Prop} {F:Addr->Hp->Prop} (I:L2.Inv X pins σ H s)
  (h:wi σ H fun J H1=>∀ D,H1 D=none->∃ W,(∃ m,W 0 m [] (YE k js σ) (upd H1 D (.lst [])))/\qU J D g tt te (fun _ H' =>F D H') W)
  (hQ:∀ D C H' s',L2.Inv X pins σ H' s' ->F D H' ->H' C=none->(X.s₀.heap.objs.size<=C)->C ≠ X.env.locals->(∀ x c,X.env.cells.lookup x=some c->c ≠ C)->(∀ p∈X.pn++pins,p.1 ≠ C)->(∃ m,s'.heap.Ns C m)->compPost (model X.prog X.w) X.A X.xe use Q (.ref D) C (.ok .next) s')
  (hs:∀ x,foldedSetIterable iter X.env x=pure x:=by intro _; rfl):
  wpAny (model X.prog X.w) X.A (comprehension (.ListComp elt [⟨tg,iter,ifs,0⟩] scope pos) scope X.env pos' (newList []) false (eval iter X.env) use) Q X.xe s:=by
 obtain ⟨cl,ecl,hcl,hcf⟩:=qS (scope:=scope) (env:=X.env) fun x hx hf=>I.ok.has x.1 (S.fre x hx hf)
 refine wpAny_comprehension_free rfl hs ecl S.kind S.loc ?_
 refine thn (hi pins s σ H _ I h) fun v s1 h1=>thn h1 fun itv s2 h2=> ?_
 obtain ⟨it,fp,tn,J,H2,e,I2,TJ,st2,f2,q2⟩:=h2
 subst e
 refine wpAny_newObj_type ?_
 have hD:H2 s2.heap.objs.size=none:=I2.hok.fresh (Nat.le_refl _)
 have I3:L2.Inv X pins σ (upd H2 s2.heap.objs.size (.lst [])) { s2 with heap:=s2.heap.push { cls:= .type "list",data:= .seq ([]:List Value).toArray } }:=
  I2.laid (t' :=s2.toks) (fun b u e=>Heap.get?_push_of_some _ e) (Nat.le_refl _) ⟨Nat.zero_le _,[],_, .nil,Heap.get?_push_size _ rfl⟩
 obtain ⟨W,⟨m0,w0⟩,turn⟩:=q2 s2.heap.objs.size hD
 have f3:∀ b∈fp,Wx X pins (upd H2 s2.heap.objs.size (.lst [])) b:=fun b hb=>by
  obtain ⟨o,eo,_⟩:=TJ.obj _ _ st2 b hb
  exact ⟨by rw [zo (Nat.ne_of_lt (Heap.lt_size eo))]; exact (f2 b hb).1,(f2 b hb).2⟩
 have o3:∀ b∈fp,∃ o,(s2.heap.push { cls:= .type "list",data:= .seq ([]:List Value).toArray }).get? b=some o:=fun b hb=>by
  obtain ⟨o,eo,_⟩:=TJ.obj _ _ st2 b hb
  exact ⟨o,Heap.get?_push_of_some _ eo⟩
 refine wpAny_newFunctionEnv S.nocell (by intro y hy; simp at hy) (fun h4 hns4 hsb4=> ?_) S.kind
 generalize hG:s2.heap.push { cls:= .type "list",data:= .seq ([]:List Value).toArray }=G3 at I3 o3 hns4 hsb4 ⊢
 dsimp only at hns4 hsb4 ⊢
 have s3e:∃ s3:Shared,s3={ s2 with heap:=G3 }:=⟨_,rfl⟩
 obtain ⟨s3,es3⟩:=s3e
 have hh3:s3.heap=s2.heap.push { cls:= .type "list",data:= .seq ([]:List Value).toArray }:=by rw [es3,hG]
 have hg3:G3=s3.heap:=by rw [es3]
 rw [← es3] at I3
 have ht3:s2.toks=s3.toks:=by rw [es3]
 rw [hg3] at hns4 hsb4 o3
 have k4:∀ b o,s3.heap.get? b=some o->h4.get? b=some o:=fun b o e=>hsb4.extBut b o (Nat.ne_of_lt (Heap.lt_size e)) (Heap.get?_push_of_some _ e)
 have IC:=Uf (N' :=N') (cl:=cl) (fp:=fp) (σ' :=YE k js σ) (tk:=s3.toks+([]:List (Str×Value)).length) I3 S hc hcl hcf f3 o3 hns4 k4 (by unfold YE; simp [CP.len]) (fun i x v h1 h2=>by
  unfold YE at h2
  by_cases hik:i < k
  ·rw [List.getElem?_append_left (by simpa using hik),List.getElem?_replicate,if_pos hik] at h2
   cases h2
  ·have hk' :k<=i:=by omega
   rw [List.getElem?_append_right (by simpa using hk'),List.length_replicate,List.getElem?_map] at h2
   cases ej:js[i - k]? with
   | none=>rw [ej] at h2; cases h2
   | some j=>
    rw [ej] at h2
    obtain ⟨y,e1,e2,e3,e4,e5⟩:=CP.cap (i - k) j ej
    have:k+(i - k)=i:=by omega
    rw [this,h1] at e1
    cases e1
    refine ⟨j,e2, ?_,e3,e4,e5⟩
    have h2' :some ((σ[j]?).getD none)=some (some v):=h2
    cases ez:σ[j]? with
    | none=>rw [ez] at h2'; cases h2'
    | some z=>rw [ez] at h2'; exact congrArg some (Option.some.inj h2'))
 have TC:Yv (cxC X scope N' cl s3.heap.objs.size s3 (upd H2 s2.heap.objs.size (.lst [])) fp pins).prog (cxC X scope N' cl s3.heap.objs.size s3 (upd H2 s2.heap.objs.size (.lst [])) fp pins).w (cxC X scope N' cl s3.heap.objs.size s3 (upd H2 s2.heap.objs.size (.lst [])) fp pins).K tg J fp it tn:=TJ
 have t4:tn 0 h4:=TJ.keep _ _ _ st2 fun b hb o e=>k4 b o (by rw [hh3]; exact Heap.get?_push_of_some _ e)
 have fC:∀ b∈fp,Wx (cxC X scope N' cl s3.heap.objs.size s3 (upd H2 s2.heap.objs.size (.lst [])) fp pins) [] (upd H2 s2.heap.objs.size (.lst [])) b:=fun b hb=>by
  obtain ⟨q0,q1,q2,q3,q4,q5⟩:=f3 b hb
  obtain ⟨o,eo⟩:=o3 b hb
  refine ⟨q0,Nat.ne_of_lt (Heap.lt_size eo),fun hb' => ?_, .inl hb,fun x c e=>q4 x c (hcl _ _ e),fun p hp=> ?_⟩
  ·rcases List.mem_cons.mp (I3.stkSub b hb') with z | z
   ·exact q1 z
   ·exact q2 z
  ·exact q5 p (by
    have:p∈(X.pn++pins)++[]:=hp
    rwa [List.append_nil] at this)
 have fin:∀ (s5:Shared) (σ5:Sg) (H5:Hp),L2.Inv (cxC X scope N' cl s3.heap.objs.size s3 (upd H2 s2.heap.objs.size (.lst [])) fp pins) [] σ5 H5 s5->F s2.heap.objs.size H5->compPost (model X.prog X.w) X.A X.xe use Q (.ref s2.heap.objs.size) s3.heap.objs.size (.ok .next) s5:=fun s5 σ5 H5 I5 q5=>by
  have J5:L2.Inv X pins σ H5 s5:=I3.call' (ch:=fp) I5.os I5.base I5.hok I5.bare fun b hb=>by
   obtain ⟨q0,q1,q2,q3,q4,q5⟩:=f3 b hb
   exact ⟨q3,q1,q4,q5⟩
  refine hQ _ _ H5 s5 J5 q5 I5.free I3.sz (Nat.ne_of_gt I3.lt) (fun x c e z=> ?_) (fun p hp z=> ?_) (let ⟨m,hm,_⟩:=I5.loc; ⟨m,hm⟩)
  ·obtain ⟨v',o,eo,_⟩:=I3.cell x c e
   exact absurd (Heap.lt_size eo) (by rw [z]; exact Nat.lt_irrefl _)
  ·exact absurd (Heap.lt_size (I3.pin p hp).1) (by rw [z]; exact Nat.lt_irrefl _)
 have loop:=Ug (X:=cxC X scope N' cl s3.heap.objs.size s3 (upd H2 s2.heap.objs.size (.lst [])) fp pins) (iter:=iter) (scope:=scope) (pos:=pos) (R:=compPost (model X.prog X.w) X.A X.xe use Q (.ref s2.heap.objs.size) s3.heap.objs.size) rfl hc TC (hg _ _ _ _ _ _) (ht _ _ _ _ _ _) (he _ _ _ _ _ _) W turn fin w0 IC t4 fC
 rw [es3] at loop
 exact codeAny_compStart_list loop (TJ.self _ _ _ _ _ t4 loop)
end
def zv (g:T->En->R En) (ft:En->R Bool) (fe:En->R T):List T->En->R (List T)
 | [],_=> .ok []
 | t :: ts,ρ=>(g t ρ).bind fun ρ1=>(ft ρ1).bind fun k=>if k=true then (fe ρ1).bind fun v=>(zv g ft fe ts ρ1).bind fun vs=> .ok (v :: vs) else zv g ft fe ts ρ1
def Y1:Option Sl->Sl
 | some (.vl t)=> .vl t
 | _=> .un
def Wa (k:Nat) (js:List Nat) (ρ:En):En:=List.replicate k .un++js.map fun j=>Y1 ρ[j]?
def quiet {α:Type}:R α->R α
 | .ok a=> .ok a
 | _=> .bad
def zD (g:T->En->R En) (ft:En->R Bool) (fe:En->R T) (k:Nat) (js:List Nat) (ρ:En) (ts:List T):R (List T):=if ts.length<=bnd then quiet (zv g ft fe ts (Wa k js ρ)) else .bad
def zY (fi:En->R (List T)) (g:T->En->R En) (ft:En->R Bool) (fe:En->R T) (k:Nat) (js:List Nat):En->R T:=fun ρ=>(fi ρ).bind fun ts=>(zD g ft fe k js ρ ts).bind fun vs=> .ok (.lst vs)
def GOk (tG:TG) (g:T->En->R En):Prop:=∀ Y B ρ σ H v x Q,SI Y B ρ σ H->Rep B v x->(match g x ρ with | .ok ρ' =>∀ σ',SI Y B ρ' σ' H->Q σ' H | _=>False)->tG v σ H Q
theorem zJ (i:Nat):GOk (wd i) (zr i):=fun Y B ρ σ H v x Q I r q=>q _ (I.setV i r)
theorem j1 (K:PySem.W.Frag) (i j:Nat):GOk (Vu K 2 (uD (wd i) (uD (wd j) Vt))) (zQ i j):=fun Y B ρ σ H v t Q I r q=>by
 cases r with
 | @tup l xs ts h r=>
  cases r with
  | nil=>exact q.elim
  | cons r1 rr=>
   cases rr with
   | nil=>exact q.elim
   | cons r2 rr=>
    cases rr with
    | cons _ _=>exact q.elim
    | nil=>exact ⟨l,_,rfl,SqT.of (I.sB _ _ h),rfl,_,_,rfl,_,_,rfl,rfl,q _ ((I.setV i r1).setV j r2)⟩
 | _=>exact q.elim
theorem SI.block {Y:Fx} {B:Hp} {ρ:En} {σ:Sg} {H H3:Hp} {D:Addr} (I:SI Y B ρ σ H) (k:Nat) (js:List Nat) (E:XK) (hD:H D=none) (o:HO):SI ⟨B,H,E,Y.cl⟩ B (Wa k js ρ) (YE k js σ) (upd H D o) where
 s0:=I.sB
 sH:=zp.new hD _
 sB:=I.sB.trans (zp.new hD _)
 old:=fun _ _ _=>rfl
 len:=by unfold Wa YE; simp
 vl:=fun i t h=>by
  unfold Wa at h
  unfold YE
  by_cases hik:i < k
  ·rw [List.getElem?_append_left (by simpa using hik),List.getElem?_replicate,if_pos hik] at h; cases h
  ·have hk' :k<=i:=by omega
   rw [List.getElem?_append_right (by simpa using hk'),List.length_replicate,List.getElem?_map] at h ⊢
   cases ej:js[i - k]? with
   | none=>rw [ej] at h; cases h
   | some j=>
    rw [ej] at h
    have h' :Y1 ρ[j]? = .vl t:=Option.some.inj h
    unfold Y1 at h'
    split at h'
    ·rename_i u e
     cases h'
     obtain ⟨v,e1,r⟩:=I.vl j _ e
     exact ⟨v,by show some ((σ[j]?).getD none)=_; rw [e1]; rfl,r⟩
    ·cases h'
 ow:=fun i ts h=>by
  exfalso
  unfold Wa at h
  by_cases hik:i < k
  ·rw [List.getElem?_append_left (by simpa using hik),List.getElem?_replicate,if_pos hik] at h; cases h
  ·have hk' :k<=i:=by omega
   rw [List.getElem?_append_right (by simpa using hk'),List.length_replicate,List.getElem?_map] at h
   cases ej:js[i - k]? with
   | none=>rw [ej] at h; cases h
   | some j=>
    rw [ej] at h
    have h' :Y1 ρ[j]? = .ow ts:=Option.some.inj h
    unfold Y1 at h'
    split at h' <;> cases h'
 xc:=fun i c h=>by
  exfalso
  unfold Wa at h
  by_cases hik:i < k
  ·rw [List.getElem?_append_left (by simpa using hik),List.getElem?_replicate,if_pos hik] at h; cases h
  ·have hk' :k<=i:=by omega
   rw [List.getElem?_append_right (by simpa using hk'),List.length_replicate,List.getElem?_map] at h
   cases ej:js[i - k]? with
   | none=>rw [ej] at h; cases h
   | some j=>
    rw [ej] at h
    have h' :Y1 ρ[j]? = .xc c:=Option.some.inj h
    unfold Y1 at h'
    split at h' <;> cases h'
theorem SI.acc {Y:Fx} {B:Hp} {ρ:En} {σ:Sg} {H:Hp} {D:Addr} (I:SI Y B ρ σ H) (hb:B D=none) (h0:Y.H0 D=none) (ho:∀ (i:Nat) (ts:List T),ρ[i]? =some (Sl.ow ts)->σ[i]? ≠ some (some (V.ref D))) (o:HO):SI Y B ρ σ (upd H D o) where
 s0:=I.s0
 sH:=fun b u h=>by
  rw [zo (fun z=>by subst z; rw [h0] at h; cases h)]; exact I.sH b u h
 sB:=fun b u h=>by
  rw [zo (fun z=>by subst z; rw [hb] at h; cases h)]; exact I.sB b u h
 old:=I.old
 len:=I.len
 vl:=I.vl
 ow:=fun i ts h=>by
  obtain ⟨a,xs,e,b0,h0',hh,r,d⟩:=I.ow i ts h
  refine ⟨a,xs,e,b0,h0', ?_,r,d⟩
  rw [zo (fun z=>ho i ts h (by rw [e,z]))]; exact hh
 xc:=I.xc
def qV (ρ:En):Prop:=∀ (i:Nat) (ts:List T),ρ[i]? ≠ some (Sl.ow ts)
theorem Y2 (k:Nat) (js:List Nat) (ρ:En):qV (Wa k js ρ):=fun i ts h=>by
 unfold Wa at h
 by_cases hik:i < k
 ·rw [List.getElem?_append_left (by simpa using hik),List.getElem?_replicate,if_pos hik] at h; cases h
 ·have hk' :k<=i:=by omega
  rw [List.getElem?_append_right (by simpa using hk'),List.length_replicate,List.getElem?_map] at h
  cases ej:js[i - k]? with
  | none=>rw [ej] at h; cases h
  | some j=>
   rw [ej] at h
   have h' :Y1 ρ[j]? = .ow ts:=Option.some.inj h
   unfold Y1 at h'
   split at h' <;> cases h'
theorem JH {ρ:En} {i:Nat} {t:T} (h:qV ρ):qV (ρ.set i (.vl t)):=fun j ts e=>by
 rcases zI e with ⟨_,z⟩ | ⟨_,z⟩
 ·cases z
 ·exact h j ts z
def GNo (g:T->En->R En):Prop:=∀ t ρ ρ',qV ρ->g t ρ= .ok ρ' ->qV ρ'
theorem zK (i:Nat):GNo (zr i):=fun t ρ ρ' h e=>by
 cases e; exact JH h
theorem j2 (i j:Nat):GNo (zQ i j):=fun t ρ ρ' h e=>by
 unfold zQ at e
 split at e
 ·cases e; exact JH (JH h)
 ·cases e
section
variable {X:Cx} {Y:Fx} {tg iter elt:Expr} {ifs:List Expr} {scope:Scope} {pos pos' :Pos} {N' :List Str} {k:Nat} {js:List Nat} {fi:En->R (List T)} {tG:TG} {g:T->En->R En} {ft:En->R Bool} {fe:En->R T}
structure Uh (X:Cx) (Y:Fx) (ifs:List Expr) (f:En->R Bool):Prop where
 mk ::
 go:∀ ρ,PIf X ifs (tS Y rE f ρ)
instance {X:Cx} {Y:Fx} {ifs:List Expr} {f:En->R Bool}:CoeFun (Uh X Y ifs f) fun _=>∀ ρ,PIf X ifs (tS Y rE f ρ):=⟨Uh.go⟩
theorem PIf.imp {X:Cx} {e:List Expr} {t t' :TT} (h:PIf X e t) (i:∀ σ H Q,t' σ H Q->t σ H Q):PIf X e t' :=fun pins s σ H Q I q=>h pins s σ H Q I (i σ H Q q)
def zO:En->R Bool:=fun _=> .ok true
theorem Z5 {X:Cx}:Uh X Y [] zO:= .mk fun ρ=>PIf.imp qT fun σ H Q ⟨B,I,q⟩=>ZU I q rfl
theorem wB {B1 H1:Hp} {σ:Sg} {ρ:En} {J:It} {ts vs:List T} {D:Addr} (hG:GOk tG g) (hN:GNo g) (I:SI Y B1 ρ σ H1) (rI' :rI B1 H1 J ts) (hl:ts.length<=bnd) (ev:zv g ft fe ts (Wa k js ρ)= .ok vs) (hD:H1 D=none) {F:Hp->Prop}
  (hF:∀ H' xs B',zp H1 H' ->H' D=some (.lst xs)->zB B' xs vs->zp B' (zL B1 H1 H')->B' D=none->zp B1 B' ->F H'):
  ∃ W,(∃ m,W 0 m [] (YE k js σ) (upd H1 D (.lst [])))/\qU J D tG (fun σ H Q=>∃ Y' ρ',Y'.cl=Y.cl/\tS Y' rE ft ρ' σ H Q) (fun σ H Q=>∃ Y' ρ',Y'.cl=Y.cl/\tS Y' rC fe ρ' σ H Q) (fun _ H' =>F H') W:=by
 refine ⟨fun i m ys σ' H' =>m=ts.length - i/\i<=ts.length/\ys.length<=i/\H' D=some (.lst ys)/\∃ ρ' B' us ws,SI ⟨B1,H1,fun _ _ _=>False,Y.cl⟩ B' ρ' σ' H' /\qV ρ' /\zp B1 B' /\B' D=none/\zB B' ys us/\zv g ft fe (ts.drop i) ρ' = .ok ws/\us++ws=vs,
  ⟨ts.length,by simp,Nat.zero_le _,Nat.zero_le _,zA,_,B1,[],vs,I.block (H3:=H1) k js _ hD _,Y2 k js ρ,zp.refl _,I.sB.free hD, .nil,ev,rfl⟩, ?_⟩
 rintro i m ys σ' H' ⟨rfl,hi,hyl,hDl,ρ',B',us,ws,I',no',s1',bD,r',ew,eall⟩
 refine ⟨hDl, ?_⟩
 obtain ⟨hgo,hyld,hstop⟩:=rI' B' H' s1' I'.sB
 have tD:∀ H2,zp H' H2->zL B' H' H2 D=none:=fun H2 s=>by rw [Zg hDl]; exact bD
 by_cases hlt:i < ts.length
 ·refine .inr ⟨hgo i hlt,fun x H2 y=> ?_⟩
  obtain ⟨s2,r2⟩:=hyld i _ x H2 (List.getElem?_eq_getElem hlt) y
  rw [List.drop_eq_getElem_cons hlt] at ew
  unfold zv at ew
  have I2:=I'.grow s2
  refine hG _ _ ρ' σ' H2 x _ _ I2 r2 ?_
  cases eg:g ts[i] ρ' with
  | bad=>rw [eg] at ew; cases ew
  | ex c=>rw [eg] at ew; cases ew
  | ok ρ1=>
   rw [eg] at ew
   have no1:qV ρ1:=hN _ _ _ no' eg
   intro σ1 J1
   refine ⟨⟨B1,H1,fun _ _ _=>False,Y.cl⟩,ρ1,rfl,_,J1, ?_⟩
   have ew1:(ft ρ1).bind (fun k=>if k=true then (fe ρ1).bind fun v=>(zv g ft fe (ts.drop (i+1)) ρ1).bind fun vs=> .ok (v :: vs) else zv g ft fe (ts.drop (i+1)) ρ1)= .ok ws:=ew
   cases ef:ft ρ1 with
   | bad=>rw [ef] at ew1; cases ew1
   | ex c=>rw [ef] at ew1; cases ew1
   | ok kk=>
    rw [ef] at ew1
    intro b H3 s3 eb
    have eb' :b=kk:=eb
    subst eb'
    have ew2:(if b=true then (fe ρ1).bind fun v=>(zv g ft fe (ts.drop (i+1)) ρ1).bind fun vs=> .ok (v :: vs) else zv g ft fe (ts.drop (i+1)) ρ1)= .ok ws:=ew1
    have J2:=J1.grow s3
    have hD3:H3 D=some (.lst ys):=s3 _ _ (s2 _ _ hDl)
    have bD3:zL (zL B' H' H2) H2 H3 D=none:=by rw [Zg (s2 _ _ hDl)]; exact tD H2 s2
    have sB3:zp B' (zL (zL B' H' H2) H2 H3):=(zL.ge I'.sB s2).trans (zL.ge I2.sB s3)
    cases b with
    | false=>
     have ew3:zv g ft fe (ts.drop (i+1)) ρ1= .ok ws:=ew2
     exact ⟨ts.length - (i+1),by omega,rfl,hlt,by omega,hD3,ρ1,_,us,ws,J2,no1,s1'.trans sB3,bD3,r'.mono sB3,ew3,eall⟩
    | true=>
     refine ⟨⟨B1,H1,fun _ _ _=>False,Y.cl⟩,ρ1,rfl,_,J2, ?_⟩
     have ew3:(fe ρ1).bind (fun v=>(zv g ft fe (ts.drop (i+1)) ρ1).bind fun vs=> .ok (v :: vs))= .ok ws:=ew2
     cases ee:fe ρ1 with
     | bad=>rw [ee] at ew3; cases ew3
     | ex c=>rw [ee] at ew3; cases ew3
     | ok v=>
      rw [ee] at ew3
      have ew4:(zv g ft fe (ts.drop (i+1)) ρ1).bind (fun vs=> .ok (v :: vs))= .ok ws:=ew3
      cases el:zv g ft fe (ts.drop (i+1)) ρ1 with
      | bad=>rw [el] at ew4; cases ew4
      | ex c=>rw [el] at ew4; cases ew4
      | ok ws' =>
       rw [el] at ew4
       cases ew4
       intro w H4 s4 rw4
       have hD4:H4 D=some (.lst ys):=s4 _ _ hD3
       have J3:=J2.grow s4
       have bD4:zL (zL (zL B' H' H2) H2 H3) H3 H4 D=none:=by rw [Zg hD3]; exact bD3
       have sB4:=sB3.trans (zL.ge J2.sB s4)
       refine ⟨hD4,Nat.lt_of_lt_of_le (Nat.lt_of_le_of_lt hyl hlt) (ZJ hl),ts.length - (i+1),by omega,rfl,hlt,by rw [List.length_append,List.length_singleton]; omega,zA,ρ1,_,us++[v],ws', ?_,no1,s1'.trans sB4,bD4,(r'.mono sB4).append (.cons rw4 .nil),el,by rw [List.append_assoc]; exact eall⟩
       exact J3.acc bD4 hD (fun j ts' e=>(no1 j ts' e).elim) _
 ·have e:i=ts.length:=by omega
  subst e
  refine .inl ⟨hstop _ (Nat.le_refl _), ?_⟩
  rw [List.drop_length] at ew
  cases ew
  rw [List.append_nil] at eall
  subst eall
  refine hF H' ys B' I'.sH hDl r' (fun b o h=> ?_) bD s1'
  cases q:H1 b with
  | none=>rw [Zd q]; exact I'.sB b o h
  | some u=>
   rw [Zg q]
   have z:B' b=B1 b:=I'.old b u q
   rw [← z]; exact h
structure Ui (X:Cx) (Y:Fx) (tg iter elt:Expr) (ifs:List Expr) (scope:Scope) (N' :List Str) (k:Nat) (js:List Nat) (fi:En->R (List T)) (tG:TG) (g:T->En->R En) (ft:En->R Bool) (fe:En->R T):Prop where
 sc:CSc X scope
 cp:VR X scope N' k js
 cm:X.calm=true
 it:yZ X Y tg iter fi
 gt:Y0 X scope N' fun XC=>PG XC tg tG
 gk:GOk tG g
 gn:GNo g
 tt:∀ Y',Y'.cl=Y.cl->Y0 X scope N' fun XC=>Uh XC Y' ifs ft
 el:∀ Y',Y'.cl=Y.cl->Y0 X scope N' fun XC=>Snd XC Y' elt fe
 hs:∀ x,foldedSetIterable iter X.env x=pure x
theorem Zt (C:Ui X Y tg iter elt ifs scope N' k js fi tG g ft fe):Snd X Y (.ListComp elt [⟨tg,iter,ifs,0⟩] scope pos) (zY fi g ft fe k js):= .mk fun ρ=>by
 intro pins s σ H Q I ⟨B,J,q⟩
 rw [eval_ListComp]
 refine WH (use:=none) (Q:=EP X pins σ Q) (F:=fun D H' =>Q (.ref D) H') (te:=fun σ H Q=>∃ Y' ρ',Y'.cl=Y.cl/\tS Y' rC fe ρ' σ H Q) (tt:=fun σ H Q=>∃ Y' ρ',Y'.cl=Y.cl/\tS Y' rE ft ρ' σ H Q) C.sc C.cp C.cm (C.it ρ) C.gt
  (fun cl Cx' s3 H3 fp pins pins' s σ H Q I ⟨Y',ρ',ey,q⟩=>C.tt Y' ey cl Cx' s3 H3 fp pins ρ' pins' s σ H Q I q) (fun cl Cx' s3 H3 fp pins pins' s σ H Q I ⟨Y',ρ',ey,q⟩=>C.el Y' ey cl Cx' s3 H3 fp pins ρ' pins' s σ H Q I q) I ?_ ?_ C.hs
 ·refine step J q fun ts it' H1 _ s1 r1 J1 q1=> ?_
  intro D hD
  unfold zD at q1
  split at q1
  ·rename_i hl
   cases ev:zv g ft fe ts (Wa k js ρ) with
   | bad=>rw [ev] at q1; exact q1.elim
   | ex c=>rw [ev] at q1; exact q1.elim
   | ok vs=>
    rw [ev] at q1
    refine wB C.gk C.gn J1 r1 hl ev hD fun H' xs B' s' e' r' l' b' sb' => ?_
    refine (show Po Y rC _ H1 (.ok (.lst vs)) Q from q1) (.ref D) H' s' ?_
    exact .lst (by rw [Zd hD]; exact e') (r'.mono l')
  ·exact q1.elim
 ·intro D Cc H' s' I' q' hC h0 hL hcell hpin hns
  obtain ⟨m,hm⟩:=hns
  refine ⟨m,hm,fun h' hsb=>⟨.ref D,H', ?_,rfl,q'⟩⟩
  exact I'.turned (t' :=s'.toks) (fun b o hb e=>hsb.extBut b o hb e) hC (Ne.symm hL).symm (.inr h0) hcell hpin
end
section
variable {X:Cx} {Y:Fx} {tg iter elt:Expr} {ifs:List Expr} {scope:Scope} {pos pos' :Pos} {N' :List Str} {k:Nat} {js:List Nat} {fi:En->R (List T)} {tG:TG} {g:T->En->R En} {ft:En->R Bool} {fe:En->R T}
theorem wC {i:Nat} {x:Str} {pc p' :Pos} (C:Ui X Y tg iter elt ifs scope N' k js fi tG g ft fe) (hN:X.N.Nodup) (hi:X.N[i]? =some x) (hx:L2.Loc X.env.scope x)
  (hsw:swapsWith (.ListComp elt [⟨tg,iter,ifs,0⟩] scope pc) (some (.Name x p')) pos.line X.env=pure true) (hf:X.fn x=true\/X.env.scope.names.lookup x=some .local:=by first | exact .inl rfl | exact .inr rfl | assumption):
  wZ X Y (.Assign [.Name x p'] (.ListComp elt [⟨tg,iter,ifs,0⟩] scope pc) pos) (Zy i (zY fi g ft fe k js)):= .mk fun ρ=>by
 intro pins s σ H D I ⟨B,J,q⟩
 rw [exec_Assign_Name_used _ _ _ _ hsw]
 refine wpAny_bind (wpAny_standAt (wpAny_bind ?_))
 show wpAny _ X.A (do let _ ← comprehension (.ListComp elt [⟨tg,iter,ifs,0⟩] scope pc) scope X.env _ (newList []) false (eval iter X.env) (some (assign (.Name x p') X.env))) _ _ s
 refine wpAny_bind (thn (WH (use:=some (assign (.Name x p') X.env)) (Q:=fun _ s' =>SP X pins D .next s') (F:=fun D' H' =>D.nx (σ.set i (some (.ref D'))) H') (te:=fun σ H Q=>∃ Y' ρ',Y'.cl=Y.cl/\tS Y' rC fe ρ' σ H Q) (tt:=fun σ H Q=>∃ Y' ρ',Y'.cl=Y.cl/\tS Y' rE ft ρ' σ H Q) C.sc C.cp C.cm (C.it ρ) C.gt
  (fun cl Cx' s3 H3 fp pins pins' s σ H Q I ⟨Y',ρ',ey,q⟩=>C.tt Y' ey cl Cx' s3 H3 fp pins ρ' pins' s σ H Q I q) (fun cl Cx' s3 H3 fp pins pins' s σ H Q I ⟨Y',ρ',ey,q⟩=>C.el Y' ey cl Cx' s3 H3 fp pins ρ' pins' s σ H Q I q) I ?_ ?_ C.hs) fun _ s' hq=>wpAny_pure (wpAny_pure hq))
 ·have q' :PoS Y B (((fi ρ).s fun ts=>(zD g ft fe k js ρ ts).s fun vs=> .nx (ρ.set i (.vl (.lst vs))))) D:=by
   unfold Zy zY at q
   revert q
   cases fi ρ with
   | bad=>exact fun q=>q
   | ex c=>exact fun q=>q
   | ok ts=>
    intro q
    have q2:PoS Y B (((zD g ft fe k js ρ ts).bind fun vs=>R.ok (T.lst vs)).s fun t=>RS.nx (List.set ρ i (Sl.vl t))) D:=q
    show PoS Y B ((zD g ft fe k js ρ ts).s fun vs=>RS.nx (List.set ρ i (Sl.vl (T.lst vs)))) D
    revert q2
    cases zD g ft fe k js ρ ts with
    | bad=>exact fun q=>q
    | ex c=>exact fun q=>q
    | ok vs=>exact fun q=>q
  refine JE J q' fun ts it' H1 _ s1 r1 J1 q1=> ?_
  intro D' hD
  unfold zD at q1
  split at q1
  ·rename_i hl
   cases ev:zv g ft fe ts (Wa k js ρ) with
   | bad=>rw [ev] at q1; exact q1.elim
   | ex c=>rw [ev] at q1; exact q1.elim
   | ok vs=>
    rw [ev] at q1
    refine wB C.gk C.gn J1 r1 hl ev hD fun H' xs B' s' e' r' l' b' sb' => ?_
    have rr:Rep (zL (zL B H H1) H1 H') (.ref D') (.lst vs):= .lst (by rw [Zd hD]; exact e') (r'.mono l')
    exact q1 _ _ _ (zL.ge J1.sB s') ((J1.grow s').setV i rr)
  ·exact q1.elim
 ·intro D' Cc H' s' I' q' hC h0 hL hcell hpin hns
  obtain ⟨m,hm⟩:=hns
  show wpAny _ X.A (assign (.Name x p') X.env (.ref D')) _ _ s'
  refine wpAny_assign_Name (wc (v:= .ref D') I' hN hi hx rfl (fun s'' I'' ⟨a,hsb,ha⟩=> ?_) hf)
  have hne:Cc ≠ a:=by
   rcases ha with rfl | ha
   ·exact hL
   ·exact (hcell x a ha).symm
  refine ⟨m,hm.sameBut hsb hne,fun h' hsb' =>⟨_,H', ?_,q'⟩⟩
  exact I''.turned (t' :=s''.toks) (fun b o hb e=>hsb'.extBut b o hb e) hC hL (.inr h0) hcell hpin
end
def Itc (x:Str):It:=⟨fun i _=>i < x.cps.size,fun i H v H' =>H' =H/\∃ c,x.cps[i]? =some c/\v= .str ⟨#[c]⟩,fun i _=>x.cps.size<=i⟩
theorem Jt {P:Program} {w:World} {K:PySem.W.Frag} {tg:Expr} {x:Str} {t:Tok} {ty:String} (it:Addr) (hty:ty="str_ascii_iterator"\/ty="str_iterator"):Yv P w K tg (Itc x) [it] it (fun i h=>h.IsStrIter it ty x t i):=by
 have W:∀ A:Around,A.handled=none->Walks P w A it [it] [it] x.cps.size (SignAt x) (fun i h=>h.IsStrIter it ty x t i):=fun A hA=>by
  rcases hty with rfl | rfl
  ·exact Walks.strAscii hA it x t
  ·exact Walks.strWide hA it x t
 have hn:["enumerate","zip","dict_itemiterator","dict_reverseitemiterator","odict_iterator","itertools.zip_longest","itertools.pairwise"].contains ty=false:=by rcases hty with rfl | rfl <;> decide
 refine ⟨by simp,fun i h st b hb=> ?_,fun i h h' st k=> ?_, ?_, ?_,fun A i s Q E st h=> ?_⟩
 ·have e:b=it:=by simpa using hb
  subst e
  obtain ⟨o,e,c,d⟩:=st
  exact ⟨o,e,fun v z=>by rw [d] at z; cases z⟩
 ·obtain ⟨o,e,r⟩:=st
  exact ⟨o,k it (by simp) o e,r⟩
 ·intro X hP hw hK hc i pins s σ H E I hf st hg
  subst hP hw hK
  obtain ⟨f0,f1,f2,f3,f4,f5⟩:=hf it (by simp)
  refine (W X.A (I.ok.hd hc)).item i s _ _ hg st fun v h' tk hv st' kk=> ?_
  obtain ⟨c,u,hc',rfl⟩:=hv
  have I1:L2.Inv X pins σ H { s with heap:=h',toks:=tk }:=I.turned (fun b o hb e=>kk b o (by simpa using hb) e) f0 f1 f3 f4 f5
  obtain ⟨o,e,cl,d⟩:=id st'
  exact ⟨_,rfl,yE (s:={ s with heap:=h',toks:=tk }) e cl d hn ⟨.str ⟨#[c]⟩,H,I1,⟨u,rfl⟩,⟨rfl,c,hc',rfl⟩,st',fun b hb=>(hf b hb).1⟩⟩
 ·intro X hP hw hK hc i pins s σ H E I hf st hg
  subst hP hw hK
  obtain ⟨f0,f1,f2,f3,f4,f5⟩:=hf it (by simp)
  have hx:x.cps[i]? =none:=Array.getElem?_eq_none hg
  rcases hty with rfl | rfl
  ·exact wpAny_pyNext_ascii_end (I.ok.hd hc) st hx fun h' eb=>⟨rfl,I.turned (t' :=s.toks) (fun b o hb e=>eb b o hb e) f0 f1 f3 f4 f5⟩
  ·exact wpAny_pyNext_wide_end (I.ok.hd hc) st hx fun h' eb=>⟨rfl,I.turned (t' :=s.toks) (fun b o hb e=>eb b o hb e) f0 f1 f3 f4 f5⟩
 ·rcases hty with rfl | rfl
  ·exact wpAny_pyIter_striter_ascii st h
  ·exact wpAny_pyIter_striter_wide st h
def j9 (x:Str):List T:=x.cps.toList.map fun c=>T.str ⟨#[c]⟩
theorem Y3 {B1 H1:Hp} {x:Str}:rI B1 H1 (Itc x) (j9 x):=fun B2 H2 s1 s2=>by
 have hl:(j9 x).length=x.cps.size:=by unfold j9; simp
 refine ⟨fun i hi=>by rw [hl] at hi; exact hi,fun i t v H3 e y=> ?_,fun i hi=>by rw [hl] at hi; exact hi⟩
 obtain ⟨rfl,c,hc,rfl⟩:=y
 refine ⟨zp.refl _, ?_⟩
 unfold j9 at e
 rw [List.getElem?_map] at e
 have hc' :x.cps.toList[i]? =some c:=by simpa using hc
 rw [hc'] at e
 cases e
 exact .str _
section
variable {X:Cx} {Y:Fx} {a b c d tg:Expr} {fa fb fc fd:En->R T} {pos p:Pos}
theorem vt {l:Expr} {tl:TE} (hl:PE X l tl):PI X tg l (fun σ H R=>tl σ H fun x H1=>(∃ a,x= .ref a/\(((∃ xs,SqL X.K H1 a xs)/\R (Itl X.K a) H1)\/((∃ xs,SqT X.K H1 a xs)/\R (Itt X.K a) H1)))\/(∃ z,x= .str z/\R (Itc z) H1)):=by
 intro pins s σ H R I h
 refine thn (hl pins s σ H _ I h) fun v s1 ⟨x,H1,I1,r1,q1⟩=> ?_
 have ok:∀ b∈[s1.heap.objs.size],Wx X pins H1 b:=fun b hb=>by
  have e:b=s1.heap.objs.size:=by simpa using hb
  subst e
  exact I1.fpOk (Nat.le_refl _) (I1.hok.fresh (Nat.le_refl _))
 rcases q1 with ⟨a,e,q⟩ | ⟨z,e,q⟩
 ·subst e
  obtain rfl:v=Value.ref a:=r1
  rcases q with ⟨⟨xs,hq⟩,q⟩ | ⟨⟨xs,hq⟩,q⟩
  ·obtain ⟨its,rv,p,hz⟩:=I1.list hq
   exact wpAny_pyIter_list p.isList ⟨s1.heap.objs.size,[s1.heap.objs.size],_,_,H1,rfl,I1.kept (t' :=s1.toks) fun b o e=>Heap.get?_push_of_some _ e,uF a _,⟨_,Heap.get?_push_size _ rfl,rfl,rfl⟩,ok,q⟩
  ·obtain ⟨its,rv,p,hz⟩:=I1.tuple hq
   exact wpAny_pyIter_tuple (show s1.heap.IsTuple a its.toArray from p) ⟨s1.heap.objs.size,[s1.heap.objs.size],_,_,H1,rfl,I1.kept (t' :=s1.toks) fun b o e=>Heap.get?_push_of_some _ e,u4 a _,⟨_,Heap.get?_push_size _ rfl,rfl,rfl⟩,ok,q⟩
 ·subst e
  obtain ⟨t,rfl⟩:=r1
  cases ha:z.cps.all (· < 128)
  ·exact wpAny_pyIter_wide ha ⟨s1.heap.objs.size,[s1.heap.objs.size],_,_,H1,rfl,I1.kept (t' :=s1.toks) fun b o e=>Heap.get?_push_of_some _ e,Jt _ (.inr rfl),⟨_,Heap.get?_push_size _ rfl,rfl,rfl⟩,ok,q⟩
  ·exact wpAny_pyIter_ascii ha ⟨s1.heap.objs.size,[s1.heap.objs.size],_,_,H1,rfl,I1.kept (t' :=s1.toks) fun b o e=>Heap.get?_push_of_some _ e,Jt _ (.inl rfl),⟨_,Heap.get?_push_size _ rfl,rfl,rfl⟩,ok,q⟩
def wD:T->R (List T)
 | .lst xs=> .ok xs
 | .tup xs=> .ok xs
 | .str x=> .ok (j9 x)
 | _=> .bad
def ZD (fa:En->R T):En->R (List T):=fun ρ=>(fa ρ).bind wD
theorem Zz (ha:Snd X Y a fa):yZ X Y tg a (ZD fa):= .mk fun ρ=>PI.imp (vt (ha ρ)) fun σ H R ⟨B,I,q⟩=>step I q fun t v H1 _ s1 r1 I1 q1=>by
 cases r1 with
 | @tup l xs ts h r=>
  exact .inl ⟨l,rfl, .inr ⟨⟨xs,SqT.of (I1.sB _ _ h)⟩,ZU I1 (show Po Y rI _ H1 (.ok ts) R from q1) (vo h r)⟩⟩
 | @lst l xs ts h r=>
  exact .inl ⟨l,rfl, .inl ⟨⟨xs,SqL.of (I1.sB _ _ h)⟩,ZU I1 (show Po Y rI _ H1 (.ok ts) R from q1) (vp h r)⟩⟩
 | str z=>exact .inr ⟨z,rfl,ZU I1 (show Po Y rI _ H1 (.ok (j9 z)) R from q1) Y3⟩
 | _=>exact q1.elim
end
theorem Inv.laidT {X:Cx} {pins:List (Addr×Obj)} {σ:Sg} {H:Hp} {s:Shared} {h' :Heap} {tk:Nat} {ch:List Addr} {a:Addr} {xs:List V} (I:L2.Inv X pins σ H s) (hf:∀ b∈ch,Wx X pins H b) (k:∀ b o,b ∉ ch->s.heap.get? b=some o->h'.get? b=some o)
  (th:∀ b o,b∈ch->s.heap.get? b=some o->∃ o',h'.get? b=some o') (ha:s.heap.objs.size<=a) (new:Zm X.prog X.w (upd H a (.tup xs)) h' a (.tup xs)):L2.Inv X pins σ (upd H a (.tup xs)) { s with heap:=h',toks:=tk }:=by
 have hn:H a=none:=I.hok.fresh ha
 have nch:∀ b u,H b=some u->b ∉ ch:=fun b u e hb=>by rw [(hf b hb).1] at e; cases e
 refine I.call' (s' :={ s with heap:=h',toks:=tk }) (ch:=ch) rfl ⟨fun b o e n _ hc=>k b o hc e,fun b o e n _ hc=>⟨o.slots,k b o hc e⟩,fun b o e n _=>by rw [zo (Nat.ne_of_lt (Nat.lt_of_lt_of_le (Heap.lt_size e) ha))]; exact n,fun b o e hc=>⟨o,k b o hc e⟩,
  fun b ys e=>by rw [zo (zy e hn)]; exact e,fun b o u e=>by rw [zo (zy e hn)]; exact e,fun b ps e=>⟨#[],by rw [zo (zy e hn),e]; simp⟩⟩ (fun b u e=> ?_) I.bare fun b hb=> ?_
 ·by_cases hb:b=a
  ·subst hb; rw [zA] at e; cases e; exact new
  ·rw [zo hb] at e
   refine (I.hok b u e).stay (fun c v hc q=> ?_) (fun c q=>by rw [zo (zy q hn)]; exact q) fun c ys q=>by rw [zo (zy q hn)]; exact q
   rcases hc with rfl | hc
   ·exact k c v (nch c u e) q
   ·exact k c v (nch c _ hc) q
 ·obtain ⟨f0,f1,f2,f3,f4,f5⟩:=hf b hb
  exact ⟨f3,f1,f4,f5⟩
def Ite (K:PySem.W.Frag) (l:Addr):It:=
 ⟨fun i H=>∃ xs x,SqL K H l xs/\xs[i]? =some x,fun i H v H' =>∃ p x,H p=none/\v= .ref p/\(∀ xs,SqL K H l xs->xs[i]? =some x)/\H' =upd H p (.tup [.int i,x]),fun i H=>∃ xs,SqL K H l xs/\xs.length<=i⟩
theorem Uj {P:Program} {w:World} {K:PySem.W.Frag} {elts:List Expr} {kk:Nat} {pt:Pos} (e it l:Addr) (hei:e ≠ it) (hle:l ≠ e) (hli:l ≠ it):
  Yv P w K (.Tuple elts kk pt) (Ite K l) [e,it] e (fun i h=>(∃ old,IsEnum h e it i old)/\h.IsListIter it l i) where
 mem:=by simp
 obj:=fun i h st b hb=>by
  obtain ⟨⟨old,he⟩,o,e1,c,d⟩:=st
  rcases List.mem_cons.mp hb with rfl | hb
  ·exact ⟨_,he,fun v z=>nomatch z⟩
  ·have z:b=it:=by simpa using hb
   subst z
   exact ⟨o,e1,fun v z=>by rw [d] at z; cases z⟩
 keep:=fun i h h' st k=>by
  obtain ⟨⟨old,he⟩,hit⟩:=st
  exact ⟨⟨old,k e (by simp) _ he⟩,hit.at fun o x=>k it (by simp) o x⟩
 item:=by
  intro X hP hw hK hc i pins s σ H E I hf st hg
  subst hP hw hK
  obtain ⟨xs,x,hq,hx⟩:=hg
  obtain ⟨its,rv,p,hz⟩:=I.list hq
  obtain ⟨u,hu,ru⟩:=rv.get hx
  obtain ⟨⟨old,he⟩,hit⟩:=st
  have hi:i < its.toArray.size:=by
   have:=(List.getElem?_eq_some_iff.mp hu).1
   simpa using this
  refine (WalksT.enumerate (prog:=X.prog) (w:=X.w) (I.ok.hd hc) e it l hei hle hli its.toArray).item i s _ _ hi ⟨⟨old,he⟩,hit,p.isList⟩ fun T vals h' tk hP hT hTup hM hk=> ?_
  obtain ⟨t,y,hy,rfl⟩:=hP
  have hyu:y=u:=by
   have:its[i]? =some y:=by simpa using hy
   rw [hu] at this; exact (Option.some.inj this).symm
  subst hyu
  refine ⟨.ref T,rfl, ?_⟩
  refine (WalksT.enumerate (prog:=X.prog) (w:=X.w) (I.ok.hd hc) e it l hei hle hli its.toArray).go elts kk pt i T _ _ _ hM fun h2 hst2 hk2=> ?_
  have hTn:H T=none:=I.hok.fresh hT
  have hTne:∀ b∈[e,it],b ≠ T:=fun b hb z=>by
   obtain ⟨_,_,_,h3,h4⟩:=hM
   rcases List.mem_cons.mp hb with rfl | hb
   ·exact h3 z.symm
   ·have:b=it:=by simpa using hb
    subst this; exact h4 z.symm
  have Wg:IsTup h2 T #[.int i t,y]:=by
   obtain ⟨o,eo,r⟩:=hTup
   exact ⟨o,hk2 T o (fun hb=>hTne T hb rfl) eo,r⟩
  refine ⟨.ref T,upd H T (.tup [.int i,x]),Inv.laidT (s:=s) (h' :=h2) (ch:=[e,it]) (tk:=tk) I hf (fun b o hb e=>hk2 b o hb (hk b o hb e)) (fun b o hb _=> ?_) hT ⟨by rw [sizeLine_eq]; show 2<=16777216; decide,[.int i t,y], .cons ⟨t,rfl⟩ (.cons ru .nil),Wg⟩,rfl,⟨T,x,hTn,rfl,fun ys hy=>by rw [I.list_inj hy hq]; exact hx,rfl⟩,⟨hst2.1,hst2.2.1⟩,fun b hb=> ?_⟩
  ·obtain ⟨⟨old2,he2⟩,⟨o2,eo2,_⟩,_⟩:=hst2
   rcases List.mem_cons.mp hb with rfl | hb
   ·exact ⟨_,he2⟩
   ·have:b=it:=by simpa using hb
    subst this; exact ⟨o2,eo2⟩
  ·rw [zo (hTne b hb)]; exact (hf b hb).1
 done:=by
  intro X hP hw hK hc i pins s σ H E I hf st hg
  subst hP hw hK
  obtain ⟨xs,hq,hx⟩:=hg
  obtain ⟨its,rv,p,hz⟩:=I.list hq
  obtain ⟨⟨old,he⟩,hit⟩:=st
  have hl:=rv.length
  refine wpAny_pyNext_enum_end (I.ok.hd hc) he hit p.isList (Array.getElem?_eq_none (by simp; omega)) fun h' hk=>⟨rfl, ?_⟩
  obtain ⟨f0,f1,f2,f3,f4,f5⟩:=hf it (by simp)
  exact I.turned (t' :=s.toks) (fun b o hb e=>hk b o hb e) f0 f1 f3 f4 f5
 self:=fun _ _ _ _ _ st h=>let ⟨⟨_,he⟩,_⟩:=st; wpAny_pyIter_enum he h
def Jm (xs:List T):List T:=(xs.zipIdx).map fun p=>T.tup [.int (p.2:Nat),p.1]
theorem Uk {xs:List T} {i:Nat} {t:T} (h:(Jm xs)[i]? =some t):∃ x,xs[i]? =some x/\t= .tup [.int (i:Nat),x]:=by
 unfold Jm at h
 rw [List.getElem?_map,List.getElem?_zipIdx] at h
 cases e:xs[i]? with
 | none=>rw [e] at h; cases h
 | some x=>rw [e] at h; cases h; exact ⟨x,rfl,by simp⟩
theorem wE (xs:List T):(Jm xs).length=xs.length:=by unfold Jm; simp
theorem qW {K:PySem.W.Frag} {B1 H1:Hp} {a:Addr} {xs:List V} {ts:List T} (h:B1 a=some (.lst xs)) (r:zB B1 xs ts):rI B1 H1 (Ite K a) (Jm ts):=fun B2 H2 s1 s2=>by
 have h2:=s2 _ _ (s1 _ _ h)
 rw [wE]
 refine ⟨fun i hi=> ?_,fun i t x H3 e y=> ?_,fun i hi=>⟨xs,SqL.of h2,by rw [r.length]; exact hi⟩⟩
 ·obtain ⟨v,e,_⟩:=r.get (List.getElem?_eq_getElem hi)
  exact ⟨xs,v,SqL.of h2,e⟩
 ·obtain ⟨p,v,hp,rfl,y,rfl⟩:=y
  obtain ⟨t',et,rfl⟩:=Uk e
  obtain ⟨v',e1,r1⟩:=r.get et
  have:=y xs (SqL.of h2)
  rw [e1] at this; cases this
  refine ⟨zp.new hp _, .tup (jJ hp _) (.cons (.int _) (.cons ?_ .nil))⟩
  exact (r1.mono s1).mono (zL.ge s2 (zp.new hp _))
section
variable {X:Cx} {Y:Fx} {a:Expr} {fa:En->R T} {pos p pt:Pos} {elts:List Expr} {kk:Nat}
theorem qX {ta:TA} (hg:Gl X "enumerate") (hm:X.mg "enumerate"=none) (ha:PA X [a] ta) (hs:St1 X a:=by exact st1 rfl):
  PI X (.Tuple elts kk pt) (.Call (.Name "enumerate" p) [a] [] pos) (fun σ H R=>ta σ H fun vs H1=>∃ l xs,vs=[.ref l]/\H1 l=some (.lst xs)/\R (Ite X.K l) H1):=by
 intro pins s σ H R I h
 refine Call_ (jF I hg hm PyProof.Rows.Boot.«enumerate» (PyProof.Rows.callWith_type1 (thn (ha pos pins s σ H _ I h) fun us s1 ⟨vs,H1,I1,r1,q1⟩=> ?_) hs rfl))
 obtain ⟨l,xs,e,hl,q⟩:=q1
 subst e
 obtain ⟨u,rfl,ru⟩:=ZQ r1
 obtain rfl:u=Value.ref l:=ru
 obtain ⟨_,its,n,rv,eo⟩:=(show Zm X.prog X.w H1 s1.heap l (.lst xs) from I1.hok l _ hl)
 have hlt:l < s1.heap.objs.size:=Heap.lt_size eo
 refine call_enumerate_1 eo fun h' he hit hsz hk=>wpAny_pyIter_enum he ?_
 have f:∀ b∈[s1.heap.objs.size+1,s1.heap.objs.size],Wx X pins H1 b:=fun b hb=>by
  rcases List.mem_cons.mp hb with rfl | hb
  ·exact I1.fpOk (Nat.le_succ _) (I1.hok.fresh (Nat.le_succ _))
  ·have z:b=s1.heap.objs.size:=by simpa using hb
   subst z
   exact I1.fpOk (Nat.le_refl _) (I1.hok.fresh (Nat.le_refl _))
 exact ⟨s1.heap.objs.size+1,[s1.heap.objs.size+1,s1.heap.objs.size],_,_,H1,rfl,I1.kept (t' :=s1.toks) hk,Uj _ _ l (Nat.succ_ne_self _) (Nat.ne_of_lt (Nat.lt_succ_of_lt hlt)) (Nat.ne_of_lt hlt),⟨⟨_,he⟩,hit⟩,f,q⟩
def qY (fa:En->R T):En->R (List T):=fun ρ=>(fa ρ).bind fun t=>match t with
 | .lst xs=> .ok (Jm xs)
 | _=> .bad
theorem vv (hg:Gl X "enumerate") (hm:X.mg "enumerate"=none) (ha:Snd X Y a fa) (hs:St1 X a:=by exact st1 rfl):yZ X Y (.Tuple elts kk pt) (.Call (.Name "enumerate" p) [a] [] pos) (qY fa):= .mk fun ρ=>
 PI.imp (qX hg hm (zt (ha ρ) Zf hs) hs) fun σ H R ⟨B,I,q⟩=>step I q fun t v H1 _ s1 r1 I1 q1=>by
  cases r1 with
  | @lst l xs ts h r=>exact ⟨l,xs,rfl,I1.sB _ _ h,ZU I1 (show Po Y rI _ H1 (.ok (Jm ts)) R from q1) (qW h r)⟩
  | _=>exact q1.elim
def JI:List T->Option (List Str)
 | []=>some []
 | .str x :: r=>match JI r with | some ys=>some (x :: ys) | none=>none
 | _ :: _=>none
def vw (sep:Str):T->R T
 | .lst ts=>match JI ts with
  | some ys=>if (ys.map (·.length)).sum+ys.length*sep.length<=16777216 then .ok (.str (Txt.join sep ys)) else .bad
  | none=> .bad
 | _=> .bad
theorem jw {H:Hp}:∀ {xs:List V} {ts:List T} {its:List Value} {ys:List Str},zB H xs ts->Z3 xs its->JI ts=some ys->StrsAre its ys
 | _,_,_,ys, .nil, .nil,h=>by
  have h' :some []=some ys:=h
  cases h'; exact .nil
 | _,_,_,ys, .cons (t:=t) r rs, .cons (b:=u) rv vs,h=>by
  cases r with
  | str x=>
   unfold JI at h
   split at h
   ·rename_i zs e
    cases h
    obtain ⟨tk,rfl⟩:=rv
    exact .cons x tk (jw rs vs e)
   ·cases h
  | _=>cases h
theorem qZ:MtR X "str.join" (fun x xs H Q=>∃ z l zs ts ys,x= .str z/\xs=[.ref l]/\H l=some (.lst zs)/\zB H zs ts/\JI ts=some ys/\(ys.map (·.length)).sum+ys.length*z.length<=16777216/\Q (.str (Txt.join z ys)) H):=by
 intro pins s σ H x xs v us Q I rx rv h
 obtain ⟨z,l,zs,ts,ys,rfl,rfl,hl,r,e,hb,q⟩:=h
 obtain ⟨t,rfl⟩:=rx
 obtain ⟨u,rfl,ru⟩:=ZQ rv
 obtain rfl:u=Value.ref l:=ru
 obtain ⟨its,rv,p,_⟩:=zw I (.inl hl) r
 exact join_list p (by simpa using jw r rv e) hb fun t' k=>⟨.str _,H,I.tok k,⟨t',rfl⟩,q⟩
theorem vx {z:Str} {kc:Nat} {pz pa:Pos} (ha:jc X Y a fa) (hb:attributeBase (.Constant (.str z) kc pz) "join" X.env (eval (.Constant (.str z) kc pz) X.env)=eval (.Constant (.str z) kc pz) X.env:=by rfl) (hs:St1 X a:=by exact st1 rfl)
  (hz:(pa.endLine == p.line)=true:=by rfl):Snd X Y (.Call (.Attribute (.Constant (.str z) kc pz) "join" pa) [a] [] p) (ap1 (vw z) fa):= .mk fun ρ=>by
 have e1:(((((backTo p (starEach [a] X.env)).all fun x=> !x.fst) && (backToKw p (keywordEach [] X.env)).all fun x=>x.fst.isSome) && decide (([a].length+([]:List Keyword).length+if ([]:List Keyword).isEmpty=true then 0 else 1) < 30))=true):=by rw [hs]; rfl
 refine PE.imp (qv PySem.F.plainAttrs_str PySem.F.slot_str_join PySem.F.type_str_join qZ Yu (zt (ha ρ) Zf hs) hb e1 hz hs rfl) fun σ H Q ⟨B,I,q⟩=> ?_
 refine ⟨rfl,step I q fun t v H1 _ s1 r1 I1 q1=> ?_⟩
 cases r1 with
 | @lst l xs ts h r=>
  have q1:Po Y rC _ H1 (match JI ts with | some ys=>if (ys.map (·.length)).sum+ys.length*z.length<=16777216 then .ok (.str (Txt.join z ys)) else .bad | none=> .bad) Q:=q1
  split at q1
  ·rename_i ys e
   split at q1
   ·rename_i hl
    exact ⟨z,l,xs,ts,ys,rfl,rfl,h,r,e,hl,po0 I1.sB q1 rfl (.str _)⟩
   ·exact q1.elim
  ·exact q1.elim
 | _=>exact q1.elim
end
def dd:List Str->List Str->List Str
 | acc,[]=>acc
 | acc,x :: r=>dd (if x∈acc then acc else acc++[x]) r
section
variable {prog:Program} {w:World} {A:Around} {R:Result->Shared->Prop} {I:Addr} {fp wr:List Addr} {n:Nat} {P:Nat->Value->Prop} {St:Nat->Heap->Prop}
theorem j3 {h h' :Heap} {S:Addr} {f g:Str->Bool} {m k:Nat} (x:h.SetOf (strKind prog w) S f m) (e:∀ o,h.get? S=some o->h'.get? S=some o) (ef:f=g) (em:m=k):h'.SetOf (strKind prog w) S g k:=by
 subst ef em
 obtain ⟨o,es,ep,t,ho,r⟩:=x
 exact ⟨o,es,ep,t,e o ho,r⟩
theorem Y4 (W:Walks prog w A.in1 I fp wr n P St) (S:Addr) (hSf:S ∉ fp) (val:Nat->Str) (hval:∀ i v,P i v->∃ t,v=Value.str (val i) t) (hb:n+1 < scanBound):
  ∀ (k i:Nat) (acc:List Str) (s:Shared),n - i=k->i<=n->acc.length<=i->St i s.heap->s.heap.SetOf (strKind prog w) S (fun x=>decide (x∈acc)) acc.length->
   (∀ h' tk,(∀ b o,b ∉ S :: wr->s.heap.get? b=some o->h'.get? b=some o)->h'.SetOf (strKind prog w) S (fun x=>decide (x∈dd acc ((List.range' i k).map val))) (dd acc ((List.range' i k).map val)).length->
    R (.ok (.ret .none)) { s with heap:=h',toks:=tk })->codeAny (model prog w) A (.builtin "set.update.loop" ⟨[.ref S, .ref I],[]⟩) R s:=by
 intro k
 induction k with
 | zero=>
  intro i acc s hk hi hal hst hS hR
  obtain rfl:i=n:=by omega
  refine codeAny_builtin F.entry_set_update_loop ?_
  rw [Around.under_plainId F.plain_set_update_loop _]
  refine wpAny_bind (m:=pyNext (.ref I)) (W.done s _ _ hst fun h' tk hk' =>wpAny_pure ?_)
  exact hR h' tk (fun b o hb e=>hk' b o (fun z=>hb (List.mem_cons_of_mem _ z)) e) (j3 hS (fun o e=>hk' S o (fun z=>hSf (W.sub _ z)) e) rfl rfl)
 | succ k ih=>
  intro i acc s hk hi hal hst hS hR
  refine codeAny_builtin F.entry_set_update_loop ?_
  rw [Around.under_plainId F.plain_set_update_loop _]
  refine wpAny_bind (m:=pyNext (.ref I)) (W.item i s _ _ (by omega) hst fun v h1 tk1 hP hst1 hk1=> ?_)
  obtain ⟨t,rfl⟩:=hval i v hP
  have hS1:=j3 hS (fun o e=>hk1 S o (fun z=>hSf (W.sub _ z)) e) rfl rfl
  refine wpAny_bind (m:=holding [Value.str (val i) t] (setAdd S (.str (val i) t))) (wpAny_holding ?_)
  unfold setAdd
  have isk:(strKind prog w).is (val i) (.str (val i) t)=true:=strKind_is _ _ _ _
  refine wpAny_holding (wpAny_bind ((strKind prog w).pyHash isk ?_))
  refine wpAny_setAddHashed_of (knd:=strKind prog w) (s:={ s with heap:=h1,toks:=tk1+1 }) isk rfl hS1 (by omega) fun h2 hsb hS2=> ?_
  have e2:(if decide (val i∈acc)=true then acc.length else acc.length+1)=(if val i∈acc then acc else acc++[val i]).length:=by
   by_cases hm:val i∈acc
   ·simp [hm]
   ·simp [hm]
  have e1:(fun x=>decide (x∈acc) || decide (x=val i))=(fun x=>decide (x∈(if val i∈acc then acc else acc++[val i]))):=by
   funext x
   by_cases hm:val i∈acc
   ·simp only [if_pos hm]
    by_cases hx:x=val i
    ·subst hx; simp [hm]
    ·simp [hx]
   ·simp [hm,Bool.decide_or]
  have hS3:=j3 (h' :=h2) hS2 (fun o e=>e) e1 e2
  refine wpAny_pure ⟨plainId_quiet F.plain_set_update_loop _,ih (i+1) _ _ (by omega) (by omega) ?_ (W.frame _ h1 _ hst1 fun b hb o e=> ?_) hS3 fun h3 tk3 hk3 hS4=> ?_⟩
  ·split
   ·omega
   ·rw [List.length_append,List.length_singleton]; omega
  ·exact (hsb.2 b (fun z:b=S=>hSf (z ▸ hb))).trans e
  ·rw [List.range'_succ,List.map_cons] at hR
   refine hR h3 tk3 (fun b o hb e=>hk3 b o hb ?_) hS4
   exact (hsb.2 b (fun z:b=S=>hb (z ▸ List.mem_cons_self))).trans (hk1 b o (fun z=>hb (List.mem_cons_of_mem _ z)) e)
end
section
variable {prog:Program} {w:World} {A:Around} {E:Value->Shared->Prop} {s:Shared}
set_option maxRecDepth 100000 in
set_option maxHeartbeats 3200000 in
theorem Ul {l:Addr} {its:List Value} {ys:List Str} {Q:Value->Shared->Prop} (hh:A.handled=none) (hl:s.heap.IsList l its.toArray) (hi:StrsAre its ys) (hb:its.length+1 < scanBound)
  (h:∀ (h' :Heap) (tk:Nat),h'.SetOf (strKind prog w) s.heap.objs.size (fun x=>decide (x∈dd [] ys)) (dd [] ys).length->(∀ b o,b < s.heap.objs.size->s.heap.get? b=some o->h'.get? b=some o)->
   Q (.ref s.heap.objs.size) { s with heap:=h',toks:=tk }):wpAny (model prog w) A (call (.type "set") [.ref l]) Q E s:=by
 have getv:∀ {its:List Value} {ys:List Str},StrsAre its ys->its.length=ys.length/\∀ (i:Nat) (v:Value),its[i]? =some v->∃ t,v=Value.str (ys.getD i ⟨#[]⟩) t:=fun {its ys} hi=>by
  induction hi with
  | nil=>exact ⟨rfl,fun i v e=>by simp at e⟩
  | cons y t _ ih=>
   refine ⟨by simp [ih.1],fun i v e=> ?_⟩
   cases i with
   | zero=>exact ⟨t,by simpa using e.symm⟩
   | succ i=>exact ih.2 i v (by simpa using e)
 obtain ⟨hlen,hget⟩:=getv hi
 have hys:(List.range' 0 its.length).map (fun i=>ys.getD i ⟨#[]⟩)=ys:=by
  rw [hlen]
  refine List.ext_getElem? fun i=> ?_
  rw [List.getElem?_map]
  by_cases hi' :i < ys.length
  ·rw [List.getElem?_range' hi',List.getElem?_eq_getElem hi']
   simp [List.getElem?_eq_getElem hi']
  ·rw [List.getElem?_eq_none (by simp; omega),List.getElem?_eq_none (by omega)]
   rfl
 obtain ⟨c,tl,hmro⟩:=F.called_set.mro
 have hmade:=F.called_set.made
 have hsub:=F.called_set.sub
 have h1:=F.called_set.notType
 have h2:=F.called_set.canCreate
 have hct:=F.typeCall_set_1 (.ref l)
 refine wpAny_call (codeAny_of_tree (show wpAny _ _ (callAny (.type "set") _) _ _ _ from ?_))
 refine wpAny_pure ⟨Code.quiet_builtin _ (by decide+kernel),codeAny_builtin F.entry_type_call ?_⟩
 rw [Around.under_plain (weight_type_call_type "set" [.ref l] []) rfl]
 repeat any_goals (first | assumption | wp_step)
 refine codeAny_mono (code_set_new_1 (.ref l) (E:=E) (Q₁:=fun obj s₁=>∃ led:Bool,obj= .ref s.heap.objs.size/\s₁={ s with heap:=s.heap.push { cls:= .type "set",dict:=none,data:= .set #[] 0 (.fresh 0 0 led) } }) fun led=>⟨led,rfl,rfl⟩) fun r s₁ hr=> ?_
 cases r with
 | error e=>exact hr
 | ok fl=>
  cases fl with
  | ret obj=>
   obtain ⟨led,rfl,rfl⟩:=hr
   generalize hG:s.heap.push { cls:= .type "set",dict:=none,data:= .set #[] 0 (.fresh 0 0 led) }=G
   have hS:G.get? s.heap.objs.size=some { cls:= .type "set",dict:=none,data:= .set #[] 0 (.fresh 0 0 led) }:=by rw [← hG]; exact Heap.get?_push_size _ rfl
   have hGs:G.objs.size=s.heap.objs.size+1:=by rw [← hG,Heap.size_push]
   have hGk:∀ b o,s.heap.get? b=some o->G.get? b=some o:=fun b o e=>by rw [← hG]; exact Heap.get?_push_of_some _ e
   have hT:Shared.TypeIs { s with heap:=G } (.ref s.heap.objs.size) "set":=⟨_,hS,rfl⟩
   have hli:=F.called_set.init.lookup
   have hbi:=F.called_set.init.bind (.ref s.heap.objs.size)
   repeat any_goals (first | assumption | wp_step)
   refine codeAny_mono (codeAny_call_builtin (R:=wants (fun r s₂=>r= .none/\∃ h' tk,s₂={ s with heap:=h',toks:=tk }/\h'.SetOf (strKind prog w) s.heap.objs.size (fun x=>decide (x∈dd [] ys)) (dd [] ys).length/\
     (∀ b o,b < s.heap.objs.size->s.heap.get? b=some o->h'.get? b=some o)) E) F.called_set.init.plain F.entry_set_init (check_set_init_1 hT ?_)) fun r₂ s₂ hr₂=> ?_
   ·obtain ⟨⟨ocls,odict,odata,oslots⟩,hol,hcl,nl,hdl⟩:=hl
    simp only at hcl hdl
    subst hcl; subst hdl
    have hol' :=hGk _ _ hol
    have hsls:=F.sub_list_set
    have hslf:=F.sub_list_frozenset
    have hne:(Value.type "list" == Value.type "dict")=false:=by decide
    have hl1:G.IsList l its.toArray:=⟨_,hol',rfl,nl,rfl⟩
    have hlS:l < s.heap.objs.size:=Heap.lt_size hol
    unfold Builtin.«set.__init__» noKeywords Builtin.Frozenset.updateFrom
    generalize hPI:pyIter=PI
    wp_walk
    subst hPI
    refine wpAny_pyIter_list hl1 (wpAny_bind (wpAny_runValue ?_))
    have hSf:s.heap.objs.size ∉ [G.objs.size,l]:=by
     rw [hGs]
     intro z
     rcases List.mem_cons.mp z with z | z
     ·exact absurd z (Nat.ne_of_lt (Nat.lt_succ_self _))
     ·exact absurd (List.mem_singleton.mp z) (Nat.ne_of_gt hlS)
    refine Y4 (Walks.list (A:=A.in1.in1.in1) (by simp [hh]) G.objs.size l (by rw [hGs]; exact Nat.ne_of_lt (Nat.lt_succ_of_lt hlS)) its.toArray) s.heap.objs.size hSf (fun i=>ys.getD i ⟨#[]⟩) (fun i v e=>hget i v (by simpa using e)) (by simpa using hb) its.length 0 [] _ (by simp) (Nat.zero_le _) (Nat.le_refl _)
     ⟨⟨_,Heap.get?_push_size _ rfl,rfl,rfl⟩,hl1.push _⟩ ?_ ?_
    ·have hget' :(G.push { cls:= .type "list_iterator",data:= .fields #[.ref l, .int 0 0] }).get? s.heap.objs.size=some { cls:= .type "set",dict:=none,data:= .set #[] 0 (.fresh 0 0 led) }:=Heap.get?_push_of_some _ hS
     exact j3 ((PyProof.Rows.setObjOf_fresh (knd:=strKind prog w) led).setOf hget' (by unfold scanBound; omega)) (fun o e=>e) (by funext x; simp) rfl
    ·intro h' tk' hm hS'
     rw [hys] at hS'
     refine wpAny_pure (show wpAny _ _ (ret Value.none) _ _ _ from wpAny_pure ⟨rfl,h',tk',rfl,hS',fun b o hb e=> ?_⟩)
     refine hm b o (fun z=> ?_) (Heap.get?_push_of_some _ (hGk b o e))
     rcases List.mem_cons.mp z with z | z
     ·exact absurd z (Nat.ne_of_lt hb)
     ·have z' :b=G.objs.size:=List.mem_singleton.mp z
      rw [hGs] at z'
      exact absurd z' (Nat.ne_of_lt (Nat.lt_succ_of_lt hb))
   ·cases r₂ with
    | error e=>exact hr₂
    | ok fl₂=>
     cases fl₂ with
     | ret r=>
      obtain ⟨rfl,h',tk,rfl,hS',hk'⟩:=hr₂
      repeat any_goals (first | assumption | wp_step)
      exact h _ _ hS' hk'
     | _=>exact hr₂.elim
  | _=>exact hr.elim
end
section
variable {X:Cx} {Y:Fx} {a b:Expr} {fa fb:En->R T} {pos pos' p p' :Pos}
theorem Um (hh:X.A.handled=none):Zr X (.type "set") (fun vs H Q=>∃ l xs ts ys,vs=[.ref l]/\H l=some (.lst xs)/\zB H xs ts/\JI ts=some ys/\ts.length+1 < 4096/\
  ∀ q,H q=none->Q (.ref q) (upd H q (.ext fun h=>h.SetOf (strKind X.prog X.w) q (fun x=>decide (x∈dd [] ys)) (dd [] ys).length))):=by
 intro pins s σ H vs us Q I rv h
 obtain ⟨l,xs,ts,ys,rfl,hl,r,ey,hb,q⟩:=h
 obtain ⟨u,rfl,ru⟩:=ZQ rv
 obtain rfl:u=Value.ref l:=ru
 obtain ⟨its,rv,pl,hln,_⟩:=zw I (.inl hl) r
 refine Ul hh pl (jw r rv ey) (by unfold scanBound; omega) fun h' tk hS hk=> ?_
 refine ⟨.ref s.heap.objs.size,_,I.laid (t' :=tk) (fun b u e=>hk b u (Heap.lt_size e) e) (Nat.le_refl _) ?_,rfl,q _ (I.hok.fresh (Nat.le_refl _))⟩
 obtain ⟨o,es,ep,t,ho,rr⟩:=id hS
 exact ⟨hS,⟨o,ho⟩,fun h1 h2 ⟨o1,es1,ep1,t1,ho1,rr1⟩ e=>⟨o1,es1,ep1,t1,e _ ho1,rr1⟩⟩
theorem Uo:Zr X (.builtin "len") (fun vs H Q=>∃ q φ f n,vs=[.ref q]/\H q=some (.ext φ)/\(∀ h:Heap,φ h->h.SetOf (strKind X.prog X.w) q f n)/\Q (.int n) H):=by
 intro pins s σ H vs us Q I rv h
 obtain ⟨l,φ,f,n,rfl,hl,hφ,q⟩:=h
 obtain ⟨u,rfl,ru⟩:=ZQ rv
 obtain rfl:u=Value.ref l:=ru
 obtain ⟨h1,_,_⟩:=(show Zm X.prog X.w H s.heap l (.ext φ) from I.hok l _ hl)
 obtain ⟨o,es,ep,t,ho,hex,hd,_,_,hb,hf,hn⟩:=hφ _ h1
 refine call_len_set ho hex hd hf ?_ ⟨.int es.size,H,I.tok _,⟨_,rfl⟩,by rw [hn]; exact q⟩
 have:es.size < 4096:=hb
 omega
def Y5:T->R T
 | .lst ts=>match JI ts with
  | some ys=>if ts.length+1 < 4096 then .ok (.int (dd [] ys).length) else .bad
  | none=> .bad
 | _=> .bad
theorem vy (hh:X.A.handled=none) (gl:Gl X "len") (mg:X.mg "len"=none) (gl' :Gl X "set") (mg' :X.mg "set"=none) (ha:jc X Y a fa) (hs:St1 X a:=by exact st1 rfl) (hs' :St1 X (.Call (.Name "set" p') [a] [] pos'):=by exact st1 rfl):
  Snd X Y (.Call (.Name "len" p) [.Call (.Name "set" p') [a] [] pos'] [] pos) (ap1 Y5 fa):= .mk fun ρ=>
 PE.imp (j0 Uo gl mg PySem.boot_len (zt (ZS (Um hh) gl' mg' PyProof.Rows.Boot.«set» (zt (ha ρ) Zf hs) (by decide) (by decide) hs rfl) Zf hs') (by decide) (by decide) hs' rfl) fun σ H Q ⟨B,I,q⟩=>
  step I q fun t v H1 _ s1 r1 I1 q1=>by
   cases r1 with
   | @lst l xs ts h r=>
    have q1:Po Y rC _ H1 (match JI ts with | some ys=>if ts.length+1 < 4096 then .ok (.int (dd [] ys).length) else .bad | none=> .bad) Q:=q1
    split at q1
    ·rename_i ys e
     split at q1
     ·rename_i hl
      refine ⟨l,xs,ts,ys,rfl,h,r,e,hl,fun z hz=>⟨z,_,_,_,rfl,zA,fun h hh=>hh, ?_⟩⟩
      exact q1 _ _ (zp.new hz _) (.int _)
     ·exact q1.elim
    ·exact q1.elim
   | _=>exact q1.elim
end
theorem VS {X:Cx} {E:XK}:jH CX0 X E:=fun _ _ _ _ _ _ _ h=>h.elim
section
variable {X:Cx} {Y:Fx} {a b:Expr} {fa fb:En->R T} {pos pos' p p' :Pos}
theorem Q0 {cl:Nat->Value} {k j n:Nat} {f:Addr} {fd:FuncData} {ps:List Str} {g:List T->R T} {x:Str} {es:List Expr} {ga:En->R (List T)} (hy:Y.cl=cl) (F:ZA X.prog X.w X.K X.mg X.base CX0 j f fd ps (spP cl n g)) (hr:ju k X.A) (hj:j<=k) (gl:Gl X x)
  (mg:X.mg x=some (.ref f)) (kp:PySem.W.keepIn X.K (.ref f)=true) (bd:L2.Binds X.K fd ps []) (ha:WD X Y (a :: es) ga) (hd:(x == ("__debug__":Str))=false:=by decide)
  (hs:starEach (a :: es) X.env=(false,eval a X.env) :: starEach es X.env:=by exact zV rfl) (hz:((backTo pos (starEach es X.env)).any fun x=>x.fst)=false:=by exact ZM rfl):Snd X Y (.Call (.Name x p) (a :: es) [] pos) (za n g ga):=by
 subst hy
 exact YA F (hr.mono hj) gl mg kp bd VS ha hd hs hz
theorem Q1 {x:Str} {i:Int} {u:Value} (gl:Gl X x) (mg:X.mg x=some u) (hu:∃ t,u=Value.int i t) (hd:(x == ("__debug__":Str))=false:=by decide):Snd X Y (.Name x pos) (cE (.int i)):= .mk fun ρ=>
 PE.imp (qf (v:= .int i) gl mg hu hd) fun σ H Q ⟨B,I,q⟩=>ZU I q (.int i)
end
def VT (scope sc0:Scope):Bool:=(scope.kind == .function) && scope.names.all (fun x=>x.2 != .cell) && scope.names.all (fun x=>x.2 != .local || scope.names.lookup x.1 == some .local) &&
 scope.names.all (fun x=>x.2 != .free || sc0.names.lookup x.1 == some .cell || sc0.names.lookup x.1 == some .free)
theorem vz {X:Cx} {scope:Scope} (sc0:Scope) (h0:X.env.scope=sc0) (h:VT scope sc0=true):CSc X scope:=by
 unfold VT at h
 simp only [Bool.and_eq_true,List.all_eq_true] at h
 obtain ⟨⟨⟨h1,h2⟩,h3⟩,h4⟩:=h
 refine ⟨eq_of_beq h1,fun x hx=>by simpa using h2 x hx,fun x hx hl=> ?_,fun x hx hf=> ?_⟩
 ·have:=h3 x hx
  rw [hl] at this
  simpa using this
 ·have:=h4 x hx
  rw [hf] at this
  show X.env.scope.names.lookup x.1=_\/X.env.scope.names.lookup x.1=_
  rw [h0]
  simpa using this
def VU (N N' :List Str) (scope sc0:Scope) (k:Nat) (js:List Nat):Bool:=(N'.length == k+js.length) && (List.range js.length).all fun i=>match js[i]? with
 | none=>true
 | some j=>match N'[k+i]?,N[j]? with
  | some x,some y=>(x == y) && (sc0.names.lookup x == some .cell || sc0.names.lookup x == some .free) && (scope.names.lookup x == some .free)
  | _,_=>false
theorem Q2 {X:Cx} {scope:Scope} {N' :List Str} {k:Nat} {js:List Nat} (N:List Str) (sc0:Scope) (hN:X.N=N) (h0:X.env.scope=sc0) (h:VU N N' scope sc0 k js=true):VR X scope N' k js:=by
 unfold VU at h
 simp only [Bool.and_eq_true,List.all_eq_true] at h
 obtain ⟨h1,h2⟩:=h
 refine ⟨eq_of_beq h1,fun i j e=> ?_⟩
 have hi:i < js.length:=(List.getElem?_eq_some_iff.mp e).1
 have q:=h2 i (List.mem_range.mpr hi)
 rw [e] at q
 dsimp only at q
 split at q
 ·rename_i x y e1 e2
  simp only [Bool.and_eq_true,Bool.or_eq_true,beq_iff_eq] at q
  obtain ⟨⟨rfl,q2⟩,q3⟩:=q
  refine ⟨x,e1,by rw [hN]; exact e2, ?_,q3, ?_⟩
  ·unfold Vis
   rw [h0]
   exact .inr q2
  ·show X.env.scope.names.lookup x=_\/X.env.scope.names.lookup x=_
   rw [h0]
   exact q2
 ·cases q
theorem Z6 {X:Cx} {Y:Fx} {tg iter elt:Expr} {ifs:List Expr} {scope:Scope} {k:Nat} {js:List Nat} {fi:En->R (List T)} {tG:TG} {g:T->En->R En} {ft:En->R Bool} {fe:En->R T} (N' :List Str) (N:List Str) (sc0:Scope) (hN:X.N=N) (h0:X.env.scope=sc0)
  (h:(VT scope sc0 && VU N N' scope sc0 k js)=true) (cm:X.calm=true) (it:yZ X Y tg iter fi) (gt:Y0 X scope N' fun XC=>PG XC tg tG) (gk:GOk tG g) (gn:GNo g) (tt:∀ Y',Y'.cl=Y.cl->Y0 X scope N' fun XC=>Uh XC Y' ifs ft)
  (el:∀ Y',Y'.cl=Y.cl->Y0 X scope N' fun XC=>Snd XC Y' elt fe) (hs:∀ x,foldedSetIterable iter X.env x=pure x:=by intro _; rfl):Ui X Y tg iter elt ifs scope N' k js fi tG g ft fe:=by
 rw [Bool.and_eq_true] at h
 exact ⟨vz sc0 h0 h.1,Q2 N sc0 hN h0 h.2,cm,it,gt,gk,gn,tt,el,hs⟩
end PV
namespace PV
open PySem PySem.Spec PyProof.Rows L2 PySem.W
section
variable {X:Cx} {Y:Fx} {a b:Expr} {fa fb:En->R T} {pos pos' p p' :Pos}
theorem Q3 {cl:Nat->Value} {k j n:Nat} {f:Addr} {fd:FuncData} {ps:List Str} {g:List T->R T} {x:Str} {es:List Expr} {ga:En->R (List T)} (hy:Y.cl=cl) (hp:jH (CX1 X.prog X.w) X Y.E) (F:ZA X.prog X.w X.K X.mg X.base (CX1 X.prog X.w) j f fd ps (spP cl n g)) (hr:ju k X.A) (hj:j<=k) (gl:Gl X x)
  (mg:X.mg x=some (.ref f)) (kp:PySem.W.keepIn X.K (.ref f)=true) (bd:L2.Binds X.K fd ps []) (ha:WD X Y (a :: es) ga) (hd:(x == ("__debug__":Str))=false:=by decide)
  (hs:starEach (a :: es) X.env=(false,eval a X.env) :: starEach es X.env:=by exact zV rfl) (hz:((backTo pos (starEach es X.env)).any fun x=>x.fst)=false:=by exact ZM rfl):Snd X Y (.Call (.Name x p) (a :: es) [] pos) (za n g ga):=by
 subst hy
 exact YA F (hr.mono hj) gl mg kp bd hp ha hd hs hz
end
def YF (c:Nat):En->RS:=fun _=> .ex c
section
variable {P:Program} {w:World} {K:PySem.W.Frag} {mg:Str->Option Value} {base:Heap} {N:List Str} {qual:Str} {scope:Scope} {f:Addr} {cd:Value} {A:Around} {outer:List Env} {s:Shared} {H:Hp} {E:XK} {Y:Fx}
theorem Q4 {x m:Str} {C:Addr} {bm bmN:List Value} {Bn Bb newId nid initId inN:String} {np cpos pos ap:Pos} {j c:Nat} (O:OwnCls x C bm newId mg base) (Fn:ExcBaseFacts Bn newId inN bmN) (hBn:bm.contains (.type Bn)=true) (FB:ExcBaseFacts Bb nid initId bm)
  (hY:Y.E=E) (hc:Y.cl c= .ref C) (hg:Gl (Jf (CX1 P w) P w K mg base N qual scope f cd A outer s H E) x) (hd:(x == ("__debug__":Str))=false:=by decide):
  wZ (Jf (CX1 P w) P w K mg base N qual scope f cd A outer s H E) Y (.Raise (some (.Call (.Name x np) [.Constant (.str m) j ap] [] cpos)) none pos) (YF c):= .mk fun ρ=>by
 subst hY
 refine PS.imp (uU O Fn hBn FB hg ((z4 zH zd:WD (Jf (CX1 P w) P w K mg base N qual scope f cd A outer s H Y.E) Y [.Constant (.str m) j ap] _) ρ) (zV rfl) hd) fun D σ H1 ⟨B,I,q⟩=>⟨B,I,fun vs H2 s2 r2=> ?_⟩
 have q:XP Y B c:=q
 refine ⟨?_, ?_⟩
 ·rw [r2.length]; exact (by decide:1<=sizeLine)
 ·have:=q none H2 (I.sH.trans s2) (I.sB.trans s2)
  rw [hc] at this
  exact this
theorem Fun.okX {x qual:Str} {st:Stmt} {f:Addr} {fd:FuncData} {N ps:List Str} {k:Nat} {sp:Sp} (F:Fun K x qual st f fd) (S:zf N ps (z9 st)) (len:∀ vs H Q E,sp vs H Q E->vs.length=ps.length)
  (hbody:∀ (cdv:Value) (A:Around) (outer:List Env) (s:Shared) (H:Hp) (vs:List V) (Q:VK) (E:XK),ju k (A.deeper (envOfC qual (z9 st) s.heap.objs.size f cdv))->sp vs H Q E->
   ∃ t,PSs (Jf (CX1 P w) P w K mg base N qual (z9 st) f cdv A outer s H E) (Zs st) t/\t { nx:=fun _ H' =>Q .non H',rt:=Q } (start N vs) H):ZA P w K mg base (CX1 P w) (k+1) f fd ps sp:=by
 obtain ⟨oc,od,kV,doc,pm,an,cdv,ct,osl,rfl,lk,hcd⟩:=F.ex
 exact v9 lk hcd S len fun A outer s H vs Q E hr hsp=>hbody cdv A outer s H vs Q E hr hsp
theorem wF {cl:Nat->Value} {x qual:Str} {st:Stmt} {f:Addr} {fd:FuncData} {N ps:List Str} {k n:Nat} {fb:En->RS} {g:List T->R T} (F:Fun K x qual st f fd) (S:zf N ps (z9 st)) (hn:n=ps.length)
  (hb:∀ (cdv:Value) (A:Around) (outer:List Env) (s:Shared) (H:Hp) (E:XK) (Y:Fx),Y.cl=cl->Y.E=E->ju k (A.deeper (envOfC qual (z9 st) s.heap.objs.size f cdv))->
   Ub (Jf (CX1 P w) P w K mg base N qual (z9 st) f cdv A outer s H E) Y (Zs st) fb)
  (hg:∀ ts,ts.length=n->g ts=zh (fb (en0 N.length ts))):ZA P w K mg base (CX1 P w) (k+1) f fd ps (spP cl n g):=by
 subst hn
 refine Fun.okX F S spP.len fun cdv A outer s H vs Q E hr ⟨B,ts,hl,sB,r,q⟩=> ?_
 refine ⟨_,hb cdv A outer s H E ⟨B,H,E,cl⟩ rfl rfl hr (en0 N.length ts),B,SI.start (Y:=⟨B,H,E,cl⟩) sB r, ?_⟩
 rw [hg ts hl] at q
 revert q
 cases fb (en0 N.length ts) with
 | rt t=>exact fun q v H' s r=>q v H' s r
 | rf t=>exact fun q a xs H' B' s0 n e r _ l=>q (.ref a) H' s0 (.lst (by rw [Zd n]; exact e) (r.mono l))
 | nx ρ=>exact fun q σ' H' B' s' I' =>q _ H' I'.sH .non
 | bk ρ=>exact fun q=>q.elim
 | ct ρ=>exact fun q=>q.elim
 | ex c=>exact fun q=>q
 | bad=>exact fun q=>q
end
end PV
namespace PySem.W
open PySem PySem.Calls PyProof.Rows PySem.Spec Builtin Builtin.ObjectAttr Builtin.Getset_descriptor
section
variable {prog:Program} {w:World} {A:Around} {E:Value->Shared->Prop} {s:Shared} {K:Frag} {x C:Addr}
end
end PySem.W
namespace PySem.W
open PySem PySem.Calls PyProof.Rows PySem.Spec Builtin Builtin.ObjectAttr Builtin.Getset_descriptor
section
variable {prog:Program} {w:World} {A:Around} {E:Value->Shared->Prop} {s:Shared} {K:Frag} {x C:Addr}
end
end PySem.W
namespace PySem.W
open PySem PySem.Calls PyProof.Rows PySem.Spec Builtin Builtin.ObjectAttr Builtin.Getset_descriptor
section
variable {prog:Program} {w:World} {A:Around} {E:Value->Shared->Prop} {s:Shared} {K:Frag} {x C:Addr}
end
end PySem.W
namespace PV
open PySem PySem.Spec PyProof.Rows L2 PySem.W
section
variable {X:Cx} {Y:Fx} {a b:Expr} {fa fb:En->R T} {pos pos' p p' :Pos}
end
section
variable {P:Program} {w:World} {K:PySem.W.Frag} {mg:Str->Option Value} {base:Heap}
end
end PV
namespace PySem.ZG
open PySem PySem.Spec PySem.Builtin.SmallTypes
end PySem.ZG
namespace PySem.ZG
open PySem PySem.Spec PySem.Builtin.SmallTypes
section
variable {prog:Program} {w:World} {A:Around} {E:Value->Shared->Prop} {s:Shared} {it l:Addr} {k:Nat} {xs:Array Value} {Q:Value->Shared->Prop}
end
end PySem.ZG
namespace PySem.ZG
open PySem PySem.Spec PySem.Builtin.SmallTypes
section
variable {prog:Program} {w:World} {A:Around} {E:Value->Shared->Prop} {s:Shared} {z TI TO i1 i2:Addr} {fp1 fp2:List Addr} {v1 v2:Nat->Option Value} {S1 S2:Nat->Heap->Prop} {k:Nat} {x y a b:Value}
end
end PySem.ZG
namespace PySem.ZG
open PySem PySem.Spec PySem.Builtin.SmallTypes
end PySem.ZG
namespace PySem.ZG
open PySem PySem.Spec PySem.Builtin.SmallTypes
end PySem.ZG
namespace PV
open PySem PySem.Spec PyProof.Rows L2 PySem.ZG
section
variable {X:Cx} {Y:Fx} {a b:Expr} {fa fb:En->R T} {pos p pt:Pos} {elts:List Expr} {kk:Nat}
end
end PV
namespace PV
open PySem PySem.Spec PyProof.Rows L2
section
variable {X:Cx} {Y:Fx} {a b:Expr} {fa fb:En->R T} {pos p p' pos' :Pos}
def wb:T->R T
 | .bl b=> .ok (.int (b2 b))
 | .int i=> .ok (.int i)
 | _=> .bad
theorem VV (v:V) (t:T) (B H:Hp) (Q:VK) (r:Rep B v t) (sB:zp B H) (q:Po Y rC B H (wb t) Q):
  (∃ i,[v]=[V.int i]/\Q (.int i) H)\/∃ k,[v]=[V.bl k]/\Q (.int (if k then 1 else 0)) H:=by
 cases r with
 | int i=>exact .inl ⟨i,rfl,po0 sB q rfl (.int i)⟩
 | bl k=>exact .inr ⟨k,rfl,po0 sB q rfl (by cases k <;> exact .int _)⟩
 | _=>exact q.elim
theorem WI (gl:Gl X "int") (mg:X.mg "int"=none) (ha:Snd X Y a fa) (hs:St1 X a:=by exact st1 rfl):Snd X Y (.Call (.Name "int" p) [a] [] pos) (ap1 wb fa):=
 Yz uM VV gl mg (PyProof.Rows.Boot.«int») ha hs
theorem Up:Zr X (.type "range") (fun xs H Q=>∃ i j,xs=[.int i, .int j]/\∀ r,H r=none->Q (.ref r) (upd H r (.rng i j))):=by
 intro pins s σ H xs us Q I r h
 obtain ⟨i,j,rfl,q⟩:=h
 obtain ⟨u,v,rfl,ru,rv⟩:=yI r
 obtain ⟨t,rfl⟩:=ru
 obtain ⟨t',rfl⟩:=rv
 exact call_range_2 ⟨.ref s.heap.objs.size,_,I.laid (t' :=s.toks+1) (fun b o e=>Heap.get?_push_of_some _ e) (Nat.le_refl _) (show Zm X.prog X.w _ _ _ (.rng i j) from ⟨_,_,_,Heap.get?_push_size _ rfl⟩),rfl,q _ (I.hok.fresh (Nat.le_refl _))⟩
def yx (lo:Int) (n:Nat):List V:=(List.range n).map fun (i:Nat)=>V.int (lo+(i:Int))
theorem JJ (hh:X.A.handled=none):Zr X (.type "list") (fun xs H Q=>∃ r lo hi,xs=[.ref r]/\H r=some (.rng lo hi)/\(-1000000 < lo/\lo < 1000000/\ -1000000 < hi/\hi < 1000000)/\∀ l,H l=none->Q (.ref l) (upd H l (.lst (yx lo (hi - lo).toNat)))):=by
 intro pins s σ H xs us Q I rv h
 obtain ⟨r,lo,hi,rfl,e,⟨c1,c2,c3,c4⟩,q⟩:=h
 obtain ⟨u,rfl,ru⟩:=ZQ rv
 obtain rfl:u=Value.ref r:=ru
 obtain ⟨t,v,v',eo⟩:=(show Zm X.prog X.w H s.heap r (.rng lo hi) from I.hok r _ e)
 have hn:Builtin.Range.rangeSize lo hi 1=((hi - lo).toNat:Int):=by rw [rangeSize_one]; split <;> omega
 refine call_list_range (n:=(hi - lo).toNat) hh eo (small_one (by omega) (by omega) (by omega) (by omega)) hn (by omega) fun h' tk acc c kp eo' hacc=> ?_
 have hv:Z3 (yx lo (hi - lo).toNat) acc.toList:=by
  have key:∀ (n:Nat) (lo:Int) (vs:List Value),vs.length=n->(∀ (j:Nat) (v:Value),vs[j]? =some v->∃ t,v=Value.int (lo+(j:Int)) t)->Z3 (yx lo n) vs:=by
   intro n
   induction n with
   | zero=>
    intro lo vs hl _
    rw [List.eq_nil_of_length_eq_zero hl]
    exact .nil
   | succ n ih=>
    intro lo vs hl hv
    cases vs with
    | nil=>cases hl
    | cons v vs=>
     have e:yx lo (n+1)=V.int (lo+0) :: yx (lo+1) n:=by
      unfold yx
      rw [List.range_succ_eq_map,List.map_cons,List.map_map]
      refine congrArg _ (List.map_congr_left fun j _=> ?_)
      show V.int (lo+((j+1:Nat):Int))=V.int (lo+1+(j:Int))
      congr 1; omega
     rw [e]
     refine .cons (hv 0 v rfl) (ih (lo+1) vs (by simpa using hl) fun j x hx=> ?_)
     obtain ⟨t,z⟩:=hv (j+1) x (by simpa using hx)
     exact ⟨t,by rw [z]; congr 1; omega⟩
  refine key _ lo acc.toList (by simpa using hacc.1) fun j v hj=> ?_
  obtain ⟨t,z⟩:=hacc.2 j v (by simpa using hj)
  exact ⟨t,by rw [z]; congr 1; omega⟩
 have hz:(yx lo (hi - lo).toNat).length<=sizeLine:=by
  rw [sizeLine_eq]; unfold yx; rw [List.length_map,List.length_range]; omega
 exact ⟨.ref s.heap.objs.size,_,I.laid (t' :=tk) kp (Nat.le_refl _) (show Zm X.prog X.w _ h' _ (.lst _) from ⟨hz,acc.toList,c,hv,by simpa using eo'⟩),rfl,q _ (I.hok.fresh (Nat.le_refl _))⟩
def Ve (fi:En->R (List T)):En->R T:=fun ρ=>(fi ρ).bind fun ts=> .ok (.lst ts)
theorem Uq {B:Hp} (lo:Int) (n:Nat):zB B (yx lo n) (rng lo n):=by
 unfold yx rng
 induction List.range n with
 | nil=>exact .nil
 | cons i is ih=>exact .cons (.int _) ih
theorem Q5 (hh:X.A.handled=none) (gl:Gl X "list") (mg:X.mg "list"=none) (gl' :Gl X "range") (mg' :X.mg "range"=none) (ha:Snd X Y a fa) (hb:Snd X Y b fb)
  (hs:starEach [a,b] X.env=[(false,eval a X.env),(false,eval b X.env)]:=by exact st2 rfl rfl) (hs2:St1 X b:=by exact st1 rfl):Snd X Y (.Call (.Name "list" p) [.Call (.Name "range" p') [a,b] [] pos'] [] pos) (Ve (Jl fa fb)):= .mk fun ρ=>
 PE.imp (ZS (JJ hh) gl mg PyProof.Rows.Boot.«list» (zt (ZS Up gl' mg' boot_range (zt (ha ρ) (zt (hb ρ) Zf hs2) (by rw [hs,hs2])) (by decide) (by decide) (by rw [hs,hs2]) (by rw [hs2]; rfl)) Zf (st1 rfl)) (by decide) (by decide) (st1 rfl) rfl) fun σ H Q ⟨B,I,q⟩=>by
  have q:Po Y rC B H ((fa ρ).bind fun t=>(fb ρ).bind fun t' =>(match t,t' with | .int i, .int j=>if -1000000 < i/\i < 1000000/\ -1000000 < j/\j < 1000000 then R.ok (rng i (j - i).toNat) else .bad | _,_=> .bad).bind fun ts=> .ok (.lst ts)) Q:=by
   revert q
   unfold Ve Jl
   cases fa ρ with
   | ok t=>cases fb ρ <;> exact fun q=>q
   | ex c=>exact fun q=>q
   | bad=>exact fun q=>q
  refine step I q fun t v H1 _ s1 r1 I1 q1=>step I1 q1 fun t' v' H2 _ s2 r2 I2 q2=> ?_
  cases r1 with
  | int i=>
   cases r2 with
   | int j=>
    by_cases c: -1000000 < i/\i < 1000000/\ -1000000 < j/\j < 1000000
    ·dsimp only at q2
     rw [if_pos c] at q2
     refine ⟨i,j,rfl,fun r hr=>⟨r,i,j,rfl,zA,c,fun l hl=> ?_⟩⟩
     have hlr:l ≠ r:=fun z=>by rw [z,zA] at hl; cases hl
     have hl2:H2 l=none:=by rw [zo hlr] at hl; exact hl
     refine q2 _ _ (zp.new hr _ |>.trans (zp.new hl _)) (.lst ?_ (Uq _ _))
     rw [Zd hl2,zA]
    ·dsimp only at q2
     rw [if_neg c] at q2
     exact q2.elim
   | _=>exact q2.elim
  | _=>cases r2 <;> exact q2.elim
def mvS (i j:Nat):En->RS:=fun ρ=>match ρ[j]? with
 | some (.ow ts)=> .nx ((ρ.set j (.vl (.lst ts))).set i (.vl (.lst ts)))
 | _=> .bad
theorem SI.give {Y:Fx} {B:Hp} {ρ:En} {σ:Sg} {H:Hp} (I:SI Y B ρ σ H) {j:Nat} {ts:List T} (hj:ρ[j]? =some (.ow ts)):∃ (a:Addr) (B' :Hp),σ[j]? =some (some (V.ref a))/\zp B B' /\Rep B' (.ref a) (.lst ts)/\SI Y B' (ρ.set j (.vl (.lst ts))) σ H:=by
 obtain ⟨a,xs,e,b0,h0,hh,rr,d⟩:=I.ow j ts hj
 have s1:zp B (upd B a (.lst xs)):=zp.new b0 _
 have rp:Rep (upd B a (.lst xs)) (.ref a) (.lst ts):= .lst zA (rr.mono s1)
 refine ⟨a,_,e,s1,rp,⟨I.s0,I.sH,fun b o q=> ?_,fun b o q=> ?_,by rw [List.length_set]; exact I.len,fun k t q=> ?_,fun k us q=> ?_,fun k c q=> ?_⟩⟩
 ·by_cases hb:b=a
  ·subst hb; rw [zA] at q; cases q; exact hh
  ·rw [zo hb] at q; exact I.sB b o q
 ·rw [zo fun z=>by rw [z,h0] at q; cases q]; exact I.old b o q
 ·rcases zI q with ⟨rfl,z⟩ | ⟨_,z⟩
  ·cases z; exact ⟨_,e,rp⟩
  ·obtain ⟨v,e1,r⟩:=I.vl k t z; exact ⟨v,e1,r.mono s1⟩
 ·rcases zI q with ⟨rfl,z⟩ | ⟨hk,z⟩
  ·cases z
  ·obtain ⟨a',xs',e',b0',h0',hh',rr',d'⟩:=I.ow k us z
   have hne:a' ≠ a:=fun w=>by subst w; exact d k us hk z e'
   refine ⟨a',xs',e',by rw [zo hne]; exact b0',h0',hh',rr'.mono s1,fun m ws hm hw=> ?_⟩
   rcases zI hw with ⟨rfl,w⟩ | ⟨_,w⟩
   ·cases w
   ·exact d' m ws hm w
 ·rcases zI q with ⟨rfl,z⟩ | ⟨_,z⟩
  ·cases z
  ·obtain ⟨a',e',r⟩:=I.xc k c z; exact ⟨a',e',s1 _ _ r⟩
theorem xW {i j:Nat} {x y:Str} {yp:Pos} (hv:PE X (.Name y yp) (qe j)) (hN:X.N.Nodup) (hi:X.N[i]? =some x) (hx:L2.Loc X.env.scope x) (hs:swapsWith (.Name y yp) (some (.Name x p')) pos.line X.env=pure false:=by rfl)
  (hf:X.fn x=true\/X.env.scope.names.lookup x=some .local:=by first | exact .inl rfl | exact .inr rfl | assumption):wZ X Y (.Assign [.Name x p'] (.Name y yp) pos) (mvS i j):= .mk fun ρ=>
 PS.imp (uE hN hi hx hv hs hf) fun D σ H ⟨B,I,q⟩=>by
  unfold mvS at q
  split at q
  ·rename_i ts e
   obtain ⟨a,B',e1,s1,r,J⟩:=I.give e
   exact ⟨_,e1,q _ _ B' s1 (J.setV i r)⟩
  ·exact q.elim
end
section
variable {X:Cx} {Y:Fx} {a b:Expr} {fa fb:En->R T} {pos p p' pos' :Pos}
end
def zZ:List T->Option (List Int)
 | []=>some []
 | .int i :: r=>match zZ r with | some l=>some (i :: l) | none=>none
 | _ :: _=>none
def vA:T->R T
 | .lst ts=>match zZ ts with | some l=> .ok (.int l.sum) | none=> .bad
 | _=> .bad
theorem jO:∀ {H:Hp} {xs:List V} {ts:List T} {its:List Value} {is:List Int},zB H xs ts->Z3 xs its->zZ ts=some is->∃ ps:List (Int×Tok),its=ps.map (fun p=>Value.int p.1 p.2)/\ps.map (·.1)=is
 | _,_,_,_,is, .nil, .nil,h=>by
  have h' :some []=some is:=h
  cases h'
  exact ⟨[],rfl,rfl⟩
 | H,_,_,_,is, .cons (v:=x) (t:=t) r rs, .cons (b:=u) rv vs,h=>by
  cases r with
  | int i=>
   unfold zZ at h
   split at h
   ·rename_i l e
    cases h
    obtain ⟨ps,h1,h2⟩:=jO rs vs e
    obtain ⟨tk,rfl⟩:=rv
    exact ⟨(i,tk) :: ps,by rw [h1]; rfl,by rw [List.map_cons,h2]⟩
   ·cases h
  | _=>cases h
section
variable {X:Cx} {Y:Fx} {a b:Expr} {fa fb:En->R T} {pos p p' pos' :Pos}
theorem Ur (hh:X.A.handled=none):Zr X (.builtin "sum") (fun vs H Q=>∃ l xs ts is,vs=[.ref l]/\H l=some (.lst xs)/\zB H xs ts/\zZ ts=some is/\Q (.int is.sum) H):=by
 intro pins s σ H vs us Q I rv h
 obtain ⟨l,xs,ts,is,rfl,hl,r,hk,q⟩:=h
 obtain ⟨u,rfl,ru⟩:=ZQ rv
 obtain rfl:u=Value.ref l:=ru
 obtain ⟨its,rv,p,_⟩:=zw I (.inl hl) r
 obtain ⟨ps,h1,h2⟩:=jO r rv hk
 have e:its.toArray=intItems ps.toArray:=by rw [h1]; simp [intItems]
 rw [e] at p
 refine sum_intListG hh p fun h' tk t' kp=> ?_
 have e2:preSum (numAt ps.toArray) ps.toArray.size=is.sum:=by
  rw [preSum_eq,List.take_of_length_le (by simp),← h2]
 rw [e2]
 exact ⟨.int is.sum,H,I.kept (t' :=tk) kp,⟨t',rfl⟩,q⟩
theorem Q6 (hh:X.A.handled=none) (gl:Gl X "sum") (mg:X.mg "sum"=none) (ha:jc X Y a fa) (hs:St1 X a:=by exact st1 rfl):Snd X Y (.Call (.Name "sum" p) [a] [] pos) (ap1 vA fa):=
 wz (Ur hh) (fun v t B H Q r sB q=>by
  cases r with
  | @lst l xs ts h r=>
   have q:Po Y rC B H (match zZ ts with | some k=> .ok (.int k.sum) | none=> .bad) Q:=q
   split at q
   ·rename_i k e
    exact ⟨l,xs,ts,k,rfl,h,r,e,po0 sB q rfl (.int _)⟩
   ·exact q.elim
  | _=>exact q.elim) gl mg boot_sum ha hs
end
section
variable {X:Cx} {Y:Fx} {a b:Expr} {fa fb:En->R T} {pos p p' pos' :Pos}
end
section
variable {X:Cx} {Y:Fx} {tg iter elt:Expr} {ifs:List Expr} {scope:Scope} {pos pos' :Pos} {N' :List Str} {k:Nat} {js:List Nat} {fi:En->R (List T)} {tG:TG} {g:T->En->R En} {ft:En->R Bool} {fe:En->R T}
end
section
variable {P:Program} {w:World} {K:PySem.W.Frag} {mg:Str->Option Value} {base:Heap}
end
end PV
namespace PySem.RV
open PySem PySem.Spec PyProof.Rows PySem.Builtin.SmallTypes
section
variable {prog:Program} {w:World} {A:Around} {E:Value->Shared->Prop} {s:Shared} {it l:Addr} {xs:Array Value}
end
end PySem.RV
namespace PySem.RV
open PySem PySem.Spec PyProof.Rows
section
variable {prog:Program} {w:World} {A:Around} {E:Value->Shared->Prop} {s:Shared} {I:Addr} {fp wr:List Addr} {G:Array GenState->Array GenState->Prop} {n:Nat} {P:Nat->Value->Prop} {St:Nat->Shared->Prop}
end
end PySem.RV
namespace PV
open PySem PySem.Spec PyProof.Rows L2
section
variable {X:Cx} {Y:Fx} {a b tg:Expr} {fa fb:En->R T} {pos p p' pos' :Pos}
end
section
variable {X:Cx} {Y:Fx} {a b:Expr} {fa fb:En->R T} {pos p p' pos' pt:Pos} {elts:List Expr} {kk:Nat}
end
section
variable {X:Cx} {Y:Fx} {a b:Expr} {fa fb:En->R T} {pos p p' pos' pt:Pos} {elts:List Expr} {kk:Nat}
end
end PV
namespace PySem.RV
open PySem PySem.Spec PyProof.Rows PySem.Builtin.SmallTypes
end PySem.RV
namespace PV
open PySem PySem.Spec PyProof.Rows L2
section
variable {X:Cx} {Y:Fx} {a:Expr} {fa:En->R T} {pos p pt:Pos} {elts:List Expr} {kk:Nat}
end
end PV
namespace PySem.RW37
open PySem PySem.Spec PyProof.Rows L2
section
variable {X:Cx} {pos:Pos}
end
end PySem.RW37
namespace PV
open PySem PySem.Spec PyProof.Rows L2 PySem.RW37
section
variable {X:Cx} {Y:Fx} {pos:Pos} {a b c:Expr}
def YG (fa:En->R T) (g:T->En->R En):En->RS:=fun ρ=>(fa ρ).s fun t=>match g t ρ with
 | .ok ρ' => .nx ρ'
 | _=> .bad
theorem YH {tg:Expr} {fa:En->R T} {g:T->En->R En} (ha:Snd X Y a fa) (hg:Vd X Y tg g) (hs:swapsWithSole [tg] a pos.line X.env=pure false:=by rfl) (hw:swappedStores [tg] a X.env=pure none:=by rfl)
  (h1:(assignEach [tg] X.env).map (·.2)=[assign tg X.env]:=by rfl):wZ X Y (.Assign [tg] a pos) (YG fa g):= .mk fun ρ=>by
 obtain ⟨tt,hp,hr⟩:=hg
 refine PS.imp (QQ (ha ρ) hp hs hw h1) fun D σ H ⟨B,I,q⟩=>JE I q fun t v H1 _ s1 r1 I1 q1=>hr _ _ _ _ _ _ _ I1 r1 ?_
 cases h:g t ρ with
 | ok ρ' =>
  rw [h] at q1
  exact fun σ' I' =>q1 _ _ _ (zp.refl _) I'
 | ex c=>rw [h] at q1; exact q1.elim
 | bad=>rw [h] at q1; exact q1.elim
end
end PV
namespace PV
open PySem PySem.Spec PyProof.Rows L2
def Q7 (t t' :T):R T:=match t,t' with
 | .int i, .int j=> .ok (.int (if j > i then j else i))
 | _,_=> .bad
def Za (f:Int->Int->Bool):Int->List Int->Int
 | i,[]=>i
 | i,j :: r=>Za f (if f j i then j else i) r
def uf:T->R T
 | .lst ts=>match zZ ts with | some (i :: l)=> .ok (.int (Za (fun a b=>decide (b < a)) i l)) | _=> .bad
 | _=> .bad
def Us:T->R T
 | .lst ts=>match zZ ts with | some (i :: l)=> .ok (.int (Za (fun a b=>decide (a < b)) i l)) | _=> .bad
 | _=> .bad
theorem jx:∀ (l:List Int) (i:Int),Za (fun a b=>decide (b < a)) i l∈i :: l/\∀ x∈i :: l,x<=Za (fun a b=>decide (b < a)) i l
 | [],i=>⟨List.mem_cons_self,fun x h=>by simp at h; subst h; exact Int.le_refl _⟩
 | j :: r,i=>by
  unfold Za
  by_cases hj:i < j
  ·simp only [hj,decide_true,if_true]
   obtain ⟨h1,h2⟩:=jx r j
   refine ⟨List.mem_cons_of_mem _ h1,fun x hx=> ?_⟩
   rcases List.mem_cons.mp hx with rfl | hx
   ·exact Int.le_trans (Int.le_of_lt hj) (h2 j List.mem_cons_self)
   ·exact h2 x hx
  ·simp only [hj,decide_false,Bool.false_eq_true,if_false]
   obtain ⟨h1,h2⟩:=jx r i
   refine ⟨?_,fun x hx=> ?_⟩
   ·rcases List.mem_cons.mp h1 with h | h
    ·rw [h]; exact List.mem_cons_self
    ·exact List.mem_cons_of_mem _ (List.mem_cons_of_mem _ h)
   ·rcases List.mem_cons.mp hx with rfl | hx
    ·exact h2 x List.mem_cons_self
    ·rcases List.mem_cons.mp hx with rfl | hx
     ·exact Int.le_trans (Int.not_lt.mp hj) (h2 i List.mem_cons_self)
     ·exact h2 x (List.mem_cons_of_mem _ hx)
theorem JK:∀ (l:List Int) (i:Int),Za (fun a b=>decide (a < b)) i l∈i :: l/\∀ x∈i :: l,Za (fun a b=>decide (a < b)) i l<=x
 | [],i=>⟨List.mem_cons_self,fun x h=>by simp at h; subst h; exact Int.le_refl _⟩
 | j :: r,i=>by
  unfold Za
  by_cases hj:j < i
  ·simp only [hj,decide_true,if_true]
   obtain ⟨h1,h2⟩:=JK r j
   refine ⟨List.mem_cons_of_mem _ h1,fun x hx=> ?_⟩
   rcases List.mem_cons.mp hx with rfl | hx
   ·exact Int.le_trans (h2 j List.mem_cons_self) (Int.le_of_lt hj)
   ·exact h2 x hx
  ·simp only [hj,decide_false,Bool.false_eq_true,if_false]
   obtain ⟨h1,h2⟩:=JK r i
   refine ⟨?_,fun x hx=> ?_⟩
   ·rcases List.mem_cons.mp h1 with h | h
    ·rw [h]; exact List.mem_cons_self
    ·exact List.mem_cons_of_mem _ (List.mem_cons_of_mem _ h)
   ·rcases List.mem_cons.mp hx with rfl | hx
    ·exact h2 x List.mem_cons_self
    ·rcases List.mem_cons.mp hx with rfl | hx
     ·exact Int.le_trans (h2 i List.mem_cons_self) (Int.not_lt.mp hj)
     ·exact h2 x (List.mem_cons_of_mem _ hx)
theorem ZL (ps:List (Int×Tok)) (i:Nat) (h:i < ps.length):numAt ps.toArray i=(ps.map (·.1))[i]'(by simpa using h):=by
 unfold numAt
 simp [h]
section
variable {X:Cx} {Y:Fx} {a b:Expr} {fa fb:En->R T} {pos p p' pos' pt:Pos} {elts:List Expr} {kk:Nat}
theorem vC (hc:X.calm=true) (gl:Gl X "max") (mg:X.mg "max"=none) (ha:Snd X Y a fa) (hb:Snd X Y b fb)
  (hs:starEach [a,b] X.env=[(false,eval a X.env),(false,eval b X.env)]:=by exact st2 rfl rfl) (hs2:starEach [b] X.env=[(false,eval b X.env)]:=by exact st1 rfl):
  Snd X Y (.Call (.Name "max" p) [a,b] [] pos) (zb Q7 fa fb):= .mk fun ρ=>
 PE.imp (j0 (uK hc) gl mg PyProof.Rows.Boot.«max» (zt (ha ρ) (zt (hb ρ) Zf hs2) (by rw [hs,hs2])) (by decide) (by decide) (by rw [hs,hs2]) (by rw [hs2]; rfl)) fun σ H Q ⟨B,I,q⟩=>
  step I q fun t v H1 _ s1 r1 I1 q1=>step I1 q1 fun t' v' H2 _ s2 r2 I2 q2=>by
   cases r1 with
   | int i=>
    cases r2 with
    | int j=>exact ⟨i,j,rfl,po0 I2.sB q2 rfl (.int _)⟩
    | _=>exact q2.elim
   | _=>cases r2 <;> exact q2.elim
theorem Ut (hh:X.A.handled=none):Zr X (.builtin "max") (fun vs H Q=>∃ l xs ts i is,vs=[.ref l]/\H l=some (.lst xs)/\zB H xs ts/\zZ ts=some (i :: is)/\Q (.int (Za (fun a b=>decide (b < a)) i is)) H):=by
 intro pins s σ H vs us Q I rv h
 obtain ⟨l,xs,ts,i,is,rfl,hl,r,hk,q⟩:=h
 obtain ⟨u,rfl,ru⟩:=ZQ rv
 obtain rfl:u=Value.ref l:=ru
 obtain ⟨its,rv,p,_⟩:=zw I (.inl hl) r
 obtain ⟨ps,h1,h2⟩:=jO r rv hk
 have e:its.toArray=intItems ps.toArray:=by rw [h1]; simp [intItems]
 rw [e] at p
 have hlen:ps.length=is.length+1:=by have:=congrArg List.length h2; simpa using this
 refine max_intList hh p (by simp [hlen]) fun v h' tk hv kp=> ?_
 obtain ⟨t,rfl⟩:=intItems_at hv
 obtain ⟨b1,b2⟩:=argBest_gt (numAt ps.toArray) (ps.toArray.size - 1)
 have hsz:ps.toArray.size=ps.length:=by simp
 rw [hsz] at b1 b2 ⊢
 obtain ⟨m1,m2⟩:=jx is i
 have e2:numAt ps.toArray (argBest (fun i j=>decide (numAt ps.toArray i > numAt ps.toArray j)) (ps.length - 1))=Za (fun a b=>decide (b < a)) i is:=by
  refine Int.le_antisymm (m2 _ ?_) ?_
  ·rw [ZL ps _ (by omega),← h2]
   exact List.getElem_mem _
  ·rw [← h2] at m1
   obtain ⟨j,hj,ej⟩:=List.mem_iff_getElem.mp m1
   rw [← ej]
   have hj' :j < ps.length:=by simpa using hj
   rw [← ZL ps j hj']
   exact b2 j (by omega)
 rw [e2]
 exact ⟨.int _,H,I.kept (t' :=tk) kp,⟨t,rfl⟩,q⟩
theorem Uu (hh:X.A.handled=none):Zr X (.builtin "min") (fun vs H Q=>∃ l xs ts i is,vs=[.ref l]/\H l=some (.lst xs)/\zB H xs ts/\zZ ts=some (i :: is)/\Q (.int (Za (fun a b=>decide (a < b)) i is)) H):=by
 intro pins s σ H vs us Q I rv h
 obtain ⟨l,xs,ts,i,is,rfl,hl,r,hk,q⟩:=h
 obtain ⟨u,rfl,ru⟩:=ZQ rv
 obtain rfl:u=Value.ref l:=ru
 obtain ⟨its,rv,p,_⟩:=zw I (.inl hl) r
 obtain ⟨ps,h1,h2⟩:=jO r rv hk
 have e:its.toArray=intItems ps.toArray:=by rw [h1]; simp [intItems]
 rw [e] at p
 have hlen:ps.length=is.length+1:=by have:=congrArg List.length h2; simpa using this
 refine min_intList hh p (by simp [hlen]) fun v h' tk hv kp=> ?_
 obtain ⟨t,rfl⟩:=intItems_at hv
 obtain ⟨b1,b2⟩:=argBest_lt (numAt ps.toArray) (ps.toArray.size - 1)
 have hsz:ps.toArray.size=ps.length:=by simp
 rw [hsz] at b1 b2 ⊢
 obtain ⟨m1,m2⟩:=JK is i
 have e2:numAt ps.toArray (argBest (fun i j=>decide (numAt ps.toArray i < numAt ps.toArray j)) (ps.length - 1))=Za (fun a b=>decide (a < b)) i is:=by
  refine Int.le_antisymm ?_ (m2 _ ?_)
  ·rw [← h2] at m1
   obtain ⟨j,hj,ej⟩:=List.mem_iff_getElem.mp m1
   rw [← ej]
   have hj' :j < ps.length:=by simpa using hj
   rw [← ZL ps j hj']
   exact b2 j (by omega)
  ·rw [ZL ps _ (by omega),← h2]
   exact List.getElem_mem _
 rw [e2]
 exact ⟨.int _,H,I.kept (t' :=tk) kp,⟨t,rfl⟩,q⟩
theorem YI (hh:X.A.handled=none) (gl:Gl X "max") (mg:X.mg "max"=none) (ha:jc X Y a fa) (hs:St1 X a:=by exact st1 rfl):Snd X Y (.Call (.Name "max" p) [a] [] pos) (ap1 uf fa):=
 wz (Ut hh) (fun v t B H Q r sB q=>by
  cases r with
  | @lst l xs ts h r=>
   have q:Po Y rC B H (match zZ ts with | some (i :: l)=> .ok (.int (Za (fun a b=>decide (b < a)) i l)) | _=> .bad) Q:=q
   split at q
   ·rename_i i k e
    exact ⟨l,xs,ts,i,k,rfl,h,r,e,po0 sB q rfl (.int _)⟩
   ·exact q.elim
  | _=>exact q.elim) gl mg PyProof.Rows.Boot.«max» ha hs
theorem vD (hh:X.A.handled=none) (gl:Gl X "min") (mg:X.mg "min"=none) (ha:jc X Y a fa) (hs:St1 X a:=by exact st1 rfl):Snd X Y (.Call (.Name "min" p) [a] [] pos) (ap1 Us fa):=
 wz (Uu hh) (fun v t B H Q r sB q=>by
  cases r with
  | @lst l xs ts h r=>
   have q:Po Y rC B H (match zZ ts with | some (i :: l)=> .ok (.int (Za (fun a b=>decide (a < b)) i l)) | _=> .bad) Q:=q
   split at q
   ·rename_i i k e
    exact ⟨l,xs,ts,i,k,rfl,h,r,e,po0 sB q rfl (.int _)⟩
   ·exact q.elim
  | _=>exact q.elim) gl mg PyProof.Rows.Boot.«min» ha hs
end
section
variable {X:Cx} {Y:Fx} {tg iter elt:Expr} {ifs:List Expr} {scope:Scope} {pos pos' :Pos} {N' :List Str} {k:Nat} {js:List Nat} {fi:En->R (List T)} {tG:TG} {g:T->En->R En} {ft:En->R Bool} {fe:En->R T}
end
def ltS (a b:Str):Bool:=decide (a.cps.toList < b.cps.toList)
def Q8 (x:Str):List Str->List Str
 | []=>[x]
 | y :: r=>if ltS y x then y :: Q8 x r else x :: y :: r
def ug:List Str->List Str
 | []=>[]
 | x :: r=>Q8 x (ug r)
def uh:T->R T
 | .lst ts=>match JI ts with
  | some ys=>if ts.length < 64 then .ok (.lst ((ug (dd [] ys)).map T.str)) else .bad
  | none=> .bad
 | _=> .bad
def Y6 (fa fb:En->R T):En->R T:=fun ρ=>(fa ρ).bind fun t=>(fb ρ).bind fun u=>match t with
 | .lst []=> .ok u
 | .lst ts=>match zZ ts with | some (i :: l)=> .ok (.int (Za (fun a b=>decide (b < a)) i l)) | _=> .bad
 | _=> .bad
section
variable {prog:Program} {w:World} {A:Around} {R:Result->Shared->Prop} {I:Addr} {fp wr:List Addr} {n:Nat} {P:Nat->Value->Prop} {St:Nat->Heap->Prop}
theorem jy:(toString "max"++toString ".loop":String)="max.loop":=by decide
theorem Y7 (W:Walks prog w A.in1 I fp wr n P St) (bt:Nat->Nat->Bool) (hc:CmpOf prog w A.in1 .Gt P bt) (D:Addr) (hD:D ∉ fp) (kw:List (Str×Value)):
  ∀ (q j:Nat) (s:Shared) (b0:Value) (e0:Nat),n - (j+1)=q->j+1<=n->St (j+1) s.heap->P (argBest bt j) b0->
  s.heap.get? D=some { cls:= .type "list",dict:=none,data:= .seq #[b0,b0] e0,slots:= #[] }->
  (∀ v h' tk,P (argBest bt (n - 1)) v->(∀ b o,b ∉ wr->b ≠ D->s.heap.get? b=some o->h'.get? b=some o)->R (.ok (.ret v)) { s with heap:=h',toks:=tk })->
  codeAny (model prog w) A (.builtin "max.loop" ⟨[.ref I, .none, .ref D],kw⟩) R s:=by
 have hDw:D ∉ wr:=fun z=>hD (W.sub _ z)
 intro q
 induction q with
 | zero=>
  intro j s b0 e0 hq hj hst hb hg hR
  have hjn:j+1=n:=by omega
  refine codeAny_builtin F.entry_max_loop ?_
  rw [Around.under_plainId F.plain_max_loop _]
  show wpAny (model prog w) A.in1 (seqItems? (.ref D) >>= _) _ _ s
  refine wpAny_bind (wpAny_seqItems hg rfl ?_)
  show wpAny (model prog w) A.in1 (tryCatch (pyNext (.ref I)) _ >>= _) _ _ s
  refine wpAny_bind (wpAny_tryCatch (W.done s _ _ (hjn ▸ hst) fun h1 t1 k1=> ?_))
  have hg1:=k1 D _ hDw hg
  show wpAny (model prog w) A.in1 (updateSeq D (fun _=> #[]) >>= _) _ _ _
  refine wpAny_bind (wpAny_updateSeq hg1 rfl (wpAny_bind (wpAny_letGo (wpAny_pure ?_))))
  exact hR b0 _ t1 (by rw [← hjn]; exact hb) fun b o x y z=>(Heap.get?_update_other _ _ (Ne.symm y)).trans (k1 b o x z)
 | succ q ih=>
  intro j s b0 e0 hq hj hst hb hg hR
  have hlt:j+1 < n:=by omega
  refine codeAny_builtin F.entry_max_loop ?_
  rw [Around.under_plainId F.plain_max_loop _]
  show wpAny (model prog w) A.in1 (seqItems? (.ref D) >>= _) _ _ s
  refine wpAny_bind (wpAny_seqItems hg rfl ?_)
  show wpAny (model prog w) A.in1 (tryCatch (pyNext (.ref I)) _ >>= _) _ _ s
  refine wpAny_bind (wpAny_tryCatch (W.item (j+1) s _ _ hlt hst fun v h1 t1 hv hst1 k1=> ?_))
  have hg1:=k1 D _ hDw hg
  show wpAny (model prog w) A.in1 (tryCatch (holding [v,v] (richCompare .Gt v b0 >>= _)) _ >>= _) _ _ _
  refine wpAny_bind (wpAny_tryCatch (wpAny_holding (wpAny_bind (hc (j+1) (argBest bt j) v b0 _ _ _ hv hb ?_))))
  refine wpAny_bind (wpAny_holding (wpAny_truthy_bool (wpAny_bind (wpAny_letGo (wpAny_pure ?_)))))
  cases hbt:bt (j+1) (argBest bt j) with
  | true=>
   simp only [if_true]
   refine wpAny_bind (wpAny_updateSeq hg1 rfl (wpAny_bind (wpAny_letGo ?_)))
   rw [jy]
   refine wpAny_pure ⟨plainId_quiet F.plain_max_loop _,ih (j+1) _ v _ (by omega) hlt (W.frame _ _ _ hst1 fun b x o z=> ?_) (by simp only [argBest,hbt,if_true]; exact hv) (Heap.get?_update_self _ hg1 rfl) fun v2 h2 t2 hv2 k2=> ?_⟩
   ·exact (Heap.get?_update_other _ _ (fun y:D=b=>hD (by rw [y]; exact x))).trans z
   ·exact hR v2 h2 t2 hv2 fun b o x y z=>k2 b o x y ((Heap.get?_update_other _ _ (Ne.symm y)).trans (k1 b o x z))
  | false=>
   simp only [Bool.false_eq_true,if_false]
   refine wpAny_bind (wpAny_letGo ?_)
   rw [jy]
   refine wpAny_pure ⟨plainId_quiet F.plain_max_loop _,ih (j+1) _ b0 e0 (by omega) hlt hst1 (by simp only [argBest,hbt,Bool.false_eq_true,if_false]; exact hb) hg1 fun v2 h2 t2 hv2 k2=> ?_⟩
   exact hR v2 h2 t2 hv2 fun b o x y z=>k2 b o x y (k1 b o x z)
theorem Uv (W:Walks prog w A.in1 I fp wr n P St) (bt:Nat->Nat->Bool) (hc:CmpOf prog w A.in1 .Gt P bt) (D:Addr) (hD:D ∉ fp) (dn:Str) (dv:Value) {s:Shared} {e0:Nat} (hst:St 0 s.heap)
  (hg:s.heap.get? D=some { cls:= .type "list",dict:=none,data:= .seq #[] e0,slots:= #[] })
  (h0:n=0->∀ h' tk,(∀ b o,b ∉ wr->b ≠ D->s.heap.get? b=some o->h'.get? b=some o)->R (.ok (.ret dv)) { s with heap:=h',toks:=tk })
  (hR:0 < n->∀ v h' tk,P (argBest bt (n - 1)) v->(∀ b o,b ∉ wr->b ≠ D->s.heap.get? b=some o->h'.get? b=some o)->R (.ok (.ret v)) { s with heap:=h',toks:=tk }):
  codeAny (model prog w) A (.builtin "max.loop" ⟨[.ref I, .none, .ref D],[(dn,dv)]⟩) R s:=by
 have hDw:D ∉ wr:=fun z=>hD (W.sub _ z)
 refine codeAny_builtin F.entry_max_loop ?_
 rw [Around.under_plainId F.plain_max_loop _]
 show wpAny (model prog w) A.in1 (seqItems? (.ref D) >>= _) _ _ s
 refine wpAny_bind (wpAny_seqItems hg rfl ?_)
 show wpAny (model prog w) A.in1 (tryCatch (pyNext (.ref I)) _ >>= _) _ _ s
 rcases Nat.eq_zero_or_pos n with hz | hp
 ·refine wpAny_bind (wpAny_tryCatch (W.done s _ _ (hz ▸ hst) fun h1 t1 k1=> ?_))
  show wpAny (model prog w) A.in1 (rule _ >>= _) _ _ _
  exact wpAny_bind (wpAny_rule (wpAny_pure (h0 hz h1 t1 fun b o x y z=>k1 b o x z)))
 ·refine wpAny_bind (wpAny_tryCatch (W.item 0 s _ _ hp hst fun v h1 t1 hv hst1 k1=> ?_))
  have hg1:=k1 D _ hDw hg
  show wpAny (model prog w) A.in1 (updateSeq D (fun _=> #[v,v]) >>= _) _ _ _
  refine wpAny_bind (wpAny_updateSeq hg1 rfl ?_)
  rw [jy]
  refine wpAny_pure ⟨plainId_quiet F.plain_max_loop _,Y7 W bt hc D hD _ _ 0 _ v _ rfl hp (W.frame _ _ _ hst1 fun b x o z=> ?_) hv (Heap.get?_update_self _ hg1 rfl) fun v2 h2 t2 hv2 k2=> ?_⟩
  ·exact (Heap.get?_update_other _ _ (fun y:D=b=>hD (by rw [y]; exact x))).trans z
  ·exact hR hp v2 h2 t2 hv2 fun b o x y z=>k2 b o x y ((Heap.get?_update_other _ _ (Ne.symm y)).trans (k1 b o x z))
end
theorem Y8 (a v:Value):argsOk "max" ⟨[a],[(Str.ofString "default",v)]⟩:=by unfold argsOk; kernel_rfl
section
variable {prog:Program} {w:World} {A:Around} {E:Value->Shared->Prop} {s:Shared} {l:Addr} {xs:Array (Int×Tok)}
theorem WJ {Q:Value->Shared->Prop} {dv:Value} (hh:A.handled=none) (hl:s.heap.IsList l (intItems xs))
  (h0:xs.size=0->∀ h' tk,(∀ b o,s.heap.get? b=some o->h'.get? b=some o)->Q dv { s with heap:=h',toks:=tk })
  (h1:0 < xs.size->∀ v h' tk,(intItems xs)[argBest (fun i j=>decide (numAt xs i > numAt xs j)) (xs.size - 1)]? =some v->(∀ b o,s.heap.get? b=some o->h'.get? b=some o)->Q v { s with heap:=h',toks:=tk }):
  wpAny (model prog w) A (call (.builtin "max") [.ref l] [(Str.ofString "default",dv)]) Q E s:=by
 have hsz:(intItems xs).size=xs.size:=by simp [intItems]
 refine kmb_tree PySem.F.kind_max PySem.F.plain_max PySem.F.entry_max (Y8 _ _) ?_
 show wpAny (model prog w) A.in1 (Builtin.Builtins.bindParams "max" ["key","default"] 0 ⟨[],[(Str.ofString "default",dv)]⟩ >>= _) _ _ s
 refine wpAny_bind (wpAny_of_eq (show Builtin.Builtins.bindParams "max" ["key","default"] 0 ⟨[],[(Str.ofString "default",dv)]⟩=pure [none,some dv] from rfl) (wpAny_bind (wpAny_pure ?_)))
 refine wpAny_bind (iter_intList hl fun s2 e2 st hfp hlI=> ?_)
 subst e2
 refine wpAny_bind (wpAny_newObj_type ?_)
 have hlt:l < s.heap.objs.size:=by obtain ⟨_,z,_⟩:=hl; exact Heap.lt_size z
 have W:=Walks.list (prog:=prog) (w:=w) (A:=A.in1) hh s.heap.objs.size l hlI (intItems xs)
 generalize hG:s.heap.push { cls:= .type "list_iterator",data:= .fields #[.ref l, .int 0 0] }=G at st hfp ⊢
 have hDf:G.objs.size ∉ [s.heap.objs.size,l]:=fun z=>Nat.lt_irrefl _ (hfp _ z)
 have kp:∀ h' :Heap,(∀ b o,b ∉ [s.heap.objs.size]->b ≠ G.objs.size->(G.push { cls:= .type "list",data:= .seq ([]:List Value).toArray }).get? b=some o->h'.get? b=some o)->∀ b o,s.heap.get? b=some o->h'.get? b=some o:=fun h' k b o z=>by
  have hb:=Heap.lt_size z
  have hg:G.get? b=some o:=by rw [← hG]; exact Heap.get?_push_of_some _ z
  refine k b o (fun y=> ?_) (fun y=> ?_) (Heap.get?_push_of_some _ hg)
  ·rw [List.mem_singleton.mp y] at hb; exact Nat.lt_irrefl _ hb
  ·have:=Heap.lt_size hg; rw [y] at this; exact Nat.lt_irrefl _ this
 rw [jy]
 refine wpAny_pure ⟨plainId_quiet F.plain_max_loop _,Uv W _ (CmpOf.ints_gt (numAt xs) (fun _ _=>intItems_at)) G.objs.size hDf _ dv (W.frame _ _ _ st fun b _ o z=>Heap.get?_push_of_some _ z) (Heap.get?_push_size _ rfl) (fun hz h' tk k=> ?_) fun hp v h' tk hv k=> ?_⟩
 ·exact h0 (by omega) h' tk (kp h' k)
 ·exact h1 (by omega) v h' tk (by rw [hsz] at hv; exact hv) (kp h' k)
end
section
variable {X:Cx} {Y:Fx} {a b:Expr} {fa fb:En->R T} {pos p p' pos' pt kp:Pos} {elts:List Expr} {kk:Nat}
theorem Q9 {ta tb:TE} (hh:X.A.handled=none) (gl:Gl X "max") (mg:X.mg "max"=none) (ha:PE X a ta) (hb:PE X b tb) (hs:St1 X a):
  PE X (.Call (.Name "max" p) [a] [⟨some "default",b,kp⟩] pos) (fun σ H Q=>ta σ H fun v H1=>tb σ H1 fun u H2=>∃ l xs ts,([v].length=1/\[u].length=1)/\v= .ref l/\H2 l=some (.lst xs)/\zB H2 xs ts/\
   ((ts=[]/\Q u H2)\/∃ i is,zZ ts=some (i :: is)/\Q (.int (Za (fun a b=>decide (b < a)) i is)) H2)):=by
 intro pins s σ H Q I h
 refine wpAny_Call_Name_kw (jF I gl mg PyProof.Rows.Boot.«max» ?_ (by decide) (by decide))
 refine callWith_kw (thn (zt (t:=V6) ha Zf hs pos pins s σ H (fun vs H1=>tb σ H1 fun u H2=>∃ l xs ts,(vs.length=1/\[u].length=1)/\vs.headD .non= .ref l/\H2 l=some (.lst xs)/\zB H2 xs ts/\
   ((ts=[]/\Q u H2)\/∃ i is,zZ ts=some (i :: is)/\Q (.int (Za (fun a b=>decide (b < a)) i is)) H2)) I h) fun us s1 ⟨vs,H1,I1,r1,q1⟩=> ?_) (by rw [hs]; rfl) (by rw [hs]; rfl) rfl rfl
 refine thn (qq (nm:=some "default") (kpos:=kp) (t:=V6) hb v8 pos pins s1 σ H1 (fun zs H2=>∃ l xs ts,(vs.length=1/\zs.length=1)/\vs.headD .non= .ref l/\H2 l=some (.lst xs)/\zB H2 xs ts/\
   ((ts=[]/\Q (zs.headD .non) H2)\/∃ i is,zZ ts=some (i :: is)/\Q (.int (Za (fun a b=>decide (b < a)) i is)) H2)) I1 q1) fun ws s2 ⟨zs,H2,I2,rz,l,xs,ts,⟨l1,l2⟩,ev,hl,r,q2⟩=> ?_
 have hu:∃ u,us=[u]/\Zj (.ref l) u:=by
  match vs,r1,l1,ev with
  | [v],r1,_,ev=>obtain rfl:v= .ref l:=ev; exact ZQ r1
 have hw:∃ z u,zs=[z]/\ws=[u]/\Zj z u:=by
  match zs,rz,l2 with
  | [z],rz,_=>obtain ⟨u,e,r⟩:=ZQ rz; exact ⟨z,u,rfl,e,r⟩
 obtain ⟨u,rfl,ru⟩:=hu
 obtain ⟨z,d,rfl,rfl,rd⟩:=hw
 obtain rfl:u=Value.ref l:=ru
 obtain ⟨its,rv,pl,_⟩:=zw I2 (.inl hl) r
 show wpAny _ _ (call (.builtin "max") [.ref l] [(Str.ofString "default",d)]) _ _ _
 rcases q2 with ⟨rfl,q2⟩ | ⟨i,is,hk,q2⟩
 ·have hn:its=[]:=by
   cases r with
   | nil=>cases rv; rfl
  have e:its.toArray=intItems (#[]:Array (Int×Tok)):=by rw [hn]; simp [intItems]
  rw [e] at pl
  exact WJ hh pl (fun _ h' tk k=>⟨z,H2,I2.kept (t' :=tk) k,rd,q2⟩) (fun z=>absurd z (by simp))
 ·obtain ⟨ps,h1,h2⟩:=jO r rv hk
  have e:its.toArray=intItems ps.toArray:=by rw [h1]; simp [intItems]
  rw [e] at pl
  have hlen:ps.length=is.length+1:=by have:=congrArg List.length h2; simpa using this
  refine WJ hh pl (fun z=>absurd z (by simp [hlen])) fun _ v h' tk hv k=> ?_
  obtain ⟨t,rfl⟩:=intItems_at hv
  obtain ⟨b1,b2⟩:=argBest_gt (numAt ps.toArray) (ps.toArray.size - 1)
  have hsz:ps.toArray.size=ps.length:=by simp
  rw [hsz] at b1 b2 ⊢
  obtain ⟨m1,m2⟩:=jx is i
  have e2:numAt ps.toArray (argBest (fun i j=>decide (numAt ps.toArray i > numAt ps.toArray j)) (ps.length - 1))=Za (fun a b=>decide (b < a)) i is:=by
   refine Int.le_antisymm (m2 _ ?_) ?_
   ·rw [ZL ps _ (by omega),← h2]
    exact List.getElem_mem _
   ·rw [← h2] at m1
    obtain ⟨j,hj,ej⟩:=List.mem_iff_getElem.mp m1
    rw [← ej]
    have hj' :j < ps.length:=by simpa using hj
    rw [← ZL ps j hj']
    exact b2 j (by omega)
  rw [e2]
  exact ⟨.int _,H2,I2.kept (t' :=tk) k,⟨t,rfl⟩,q2⟩
theorem vF (hh:X.A.handled=none) (gl:Gl X "max") (mg:X.mg "max"=none) (ha:jc X Y a fa) (hb:Snd X Y b fb) (hs:St1 X a:=by exact st1 rfl):Snd X Y (.Call (.Name "max" p) [a] [⟨some "default",b,kp⟩] pos) (Y6 fa fb):= .mk fun ρ=>
 PE.imp (Q9 hh gl mg (ha ρ) (hb ρ) hs) fun σ H Q ⟨B,I,q⟩=>step I q fun t v H1 _ s1 r1 I1 q1=>step I1 q1 fun t' v' H2 _ s2 r2 I2 q2=>by
  have r1:=r1.mono s2
  cases r1 with
  | @lst l xs ts h r=>
   cases ts with
   | nil=>exact ⟨l,xs,[],⟨rfl,rfl⟩,rfl,h,r, .inl ⟨rfl,po0 I2.sB q2 rfl r2⟩⟩
   | cons t0 ts=>
    have q2:Po Y rC _ H2 (match zZ (t0 :: ts) with | some (i :: l)=> .ok (.int (Za (fun a b=>decide (b < a)) i l)) | _=> .bad) Q:=q2
    split at q2
    ·rename_i i k e
     exact ⟨l,xs,t0 :: ts,⟨rfl,rfl⟩,rfl,h,r, .inr ⟨i,k,e,po0 I2.sB q2 rfl (.int _)⟩⟩
    ·exact q2.elim
  | _=>exact q2.elim
end
theorem Qa (t:SetTable) (es:Array (Int×Value)) (h:Int) (x:Value):(layNew t es h x).2.1.led=t.led:=by
 unfold layNew
 split
 ·rename_i slot _ _
  have e:∀ (u:SetTable) (n:Nat),(u.orStandIn n).led=u.led:=fun u n=>by
   unfold SetTable.orStandIn
   by_cases hz:u.fits n=true
   ·rw [if_pos hz]
   ·rw [if_neg hz]; rfl
  exact e _ _
 ·rfl
theorem Uw (t:SetTable) (es:Array (Int×Value)) (n:Nat):(relayAll t es n).2.1.led=t.led/\(t.plain=false->(relayAll t es n).2.1.plain=false):=by
 unfold relayAll
 split
 ·rename_i t' order e
  have h2:t'.led=t.led/\t'.plain=t.plain:=by
   unfold SetTable.relaid SetTable.laid at e
   simp only [Option.bind_eq_bind,Option.bind_eq_some_iff,Option.pure_def,Option.some.injEq,Prod.mk.injEq] at e
   obtain ⟨_,_,e,_⟩:=e
   rw [← e]
   exact ⟨rfl,rfl⟩
  dsimp only
  split
  ·exact ⟨h2.1,fun z=>h2.2.trans z⟩
  ·exact ⟨rfl,fun _=>rfl⟩
 ·exact ⟨rfl,fun _=>rfl⟩
section
variable {prog:Program} {w:World} {K:Type} [DecidableEq K] {knd:KeyKind prog w K} {A:Around} {E:Value->Shared->Prop} {s:Shared}
theorem Ux {b:Bool} {u:Shared} {F:Unit->Shared->Prop} (h:F () u):wpAny (model prog w) A (match b with | true=>rule "set.scan.the-table-gave-way" | false=>pure ()) F E u:=by
 cases b
 ·exact wpAny_pure h
 ·exact wpAny_rule h
theorem Uy {h:Heap} {a:Addr} {o:Obj} {es es' :Array (Int×Value)} {ep:Nat} {t t' :SetTable} (ho:h.get? a=some o) (hd:o.data= .set es ep t):
  (h.update a (Obj.putSet es' t')).get? a=some { o with data:= .set es' (ep+1) t' }:=by
 rw [← putSet_of es' t' hd]
 exact Heap.get?_update_self (Obj.putSet es' t') ho (by rw [putSet_of es' t' hd]; rfl)
theorem Qb {a:Addr} {o:Obj} {es:Array (Int×Value)} {ep:Nat} {t:SetTable} {k:K} {x:Value} {Q:Bool->Shared->Prop} (isk:knd.is k x=true) (sc:x.scannable=true) (np:plainKind x=false)
  (ho:s.heap.get? a=some o) (hd:o.data= .set es ep t) (hf:t.fits es.size=true) (el:ElemsOf knd es.toList) (room:es.size+1 < scanBound)
  (h0:(∃ e∈es.toList,knd.is k e.2=true)->Q false s)
  (h1:(∀ e∈es.toList,knd.is k e.2=false)->∀ es' ep' t' h',es'.toList.Perm (es.toList++[(knd.hash k,x)])->t'.fits es'.size=true->t'.led=t.led->t'.plain=false->
   h'.get? a=some { o with data:= .set es' ep' t' }->Heap.SameBut a s.heap h' ->Q true { s with heap:=h' }):
  wpAny (model prog w) A (setAddHashed a x (knd.hash k)) Q E s:=by
 have hb:es.size < scanBound:=by omega
 unfold setAddHashed setAddHashedIn
 refine wpAny_holding (wpAny_bind (wpAny_setState_of ho hd hf ?_))
 dsimp only
 rw [byScan_of sc hb el]
 simp only [if_true]
 unfold setAddByScan
 refine wpAny_bind (wpAny_bind (wpAny_rule (wpAny_bind (wpAny_setScan_of isk ho hd hf el ?_))))
 cases hr:es.toList.findIdx? (fun e=>knd.is k e.2) with
 | some j=>
  obtain ⟨hj,hp,_⟩:=List.findIdx?_eq_some_iff_getElem.mp hr
  exact wpAny_pure (wpAny_pure (h0 ⟨_,List.getElem_mem hj,hp⟩))
 | none=>
  dsimp only
  have h1' :=h1 (fun e he=>List.findIdx?_eq_none_iff.mp hr e he)
  have p1:=layNew_perm t es (knd.hash k) x
  have f1:=layNew_fits t es (knd.hash k) x
  have l1:=Qa t es (knd.hash k) x
  generalize layNew t es (knd.hash k) x=L at p1 f1 l1 ⊢
  obtain ⟨es1,t1,dm,gv⟩:=L
  dsimp only at p1 f1 l1 ⊢
  rw [Array.toList_push] at p1
  have n1:es1.size=es.size+1:=by rw [← Array.length_toList,p1.length_eq]; simp
  refine wpAny_bind (Ux ?_)
  have main:∀ t2:SetTable,t2.fits es1.size=true->t2.led=t.led->t2.plain=false->wpAny (model prog w) A (do
    storeSet a es1 t2
    if (!dm && t2.tooFull)=true then do
      (match (relayAll t2 es1 (SetTable.grown es1.size)).2.2 with | true=>rule "set.scan.the-table-gave-way" | false=>pure ())
      storeSet a (relayAll t2 es1 (SetTable.grown es1.size)).1 (relayAll t2 es1 (SetTable.grown es1.size)).2.1
      pure (some true)
     else pure (some true)) (fun r s' =>wpAny (model prog w) A (match r with | some added=>pure added | none=>setAddHashedIn a x (knd.hash k) 99999) Q E s') E s:=by
   intro t2 f2 l2 pl2
   refine wpAny_bind (wpAny_storeSet_of ho hd ?_ (fits_of_scanBound (by omega)))
   have g1:=Uy (es' :=es1) (t' :=t2) ho hd
   have sb:=Heap.SameBut.update s.heap a (Obj.putSet es1 t2)
   split
   ·have p2:=relayAll_perm t2 es1 (SetTable.grown es1.size)
    have f3:=relayAll_fits t2 es1 (SetTable.grown es1.size)
    have l3:=Uw t2 es1 (SetTable.grown es1.size)
    generalize relayAll t2 es1 (SetTable.grown es1.size)=M at p2 f3 l3 ⊢
    obtain ⟨es2,t3,gw⟩:=M
    dsimp only at p2 f3 l3 ⊢
    have n2:es2.size=es1.size:=by rw [← Array.length_toList,p2.length_eq,Array.length_toList]
    refine wpAny_bind (Ux (wpAny_bind (wpAny_storeSet_of g1 rfl ?_ (fits_of_scanBound (by omega)))))
    have g2:=Uy (es' :=es2) (t' :=t3) g1 rfl
    exact wpAny_pure (wpAny_pure (h1' es2 _ t3 _ (p2.trans p1) f3 (l3.1.trans l2) (l3.2 pl2) g2 (sb.trans (Heap.SameBut.update _ a _))))
   ·exact wpAny_pure (wpAny_pure (h1' es1 _ t2 _ p1 f2 l2 pl2 g1 sb))
  split
  ·refine wpAny_bind ?_
   rw [hashByValue_scannable 8 sc,np]
   exact wpAny_pure (main _ (SetTable.fits_plain_off f1) l1 rfl)
  ·rename_i hp
   refine wpAny_bind (wpAny_pure ?_)
   exact main t1 f1 l1 (by simpa using hp)
end
theorem Zp:Slot "set_iterator" "__next__" "set_iterator.__next__":=
 .of (owner:="set_iterator") (n:="__next__") (by rw [typeLookup_type,builtinLookup_eq_fast]; kernel_rfl) (by decide+kernel) (by decide+kernel) (by decide+kernel) (.inl (by decide+kernel)) (by rw [isSubtype_type]; kernel_rfl)
theorem jo:Slot "set_iterator" "__iter__" "set_iterator.__iter__":=
 .of (owner:="set_iterator") (n:="__iter__") (by rw [typeLookup_type,builtinLookup_eq_fast]; kernel_rfl) (by decide+kernel) (by decide+kernel) (by decide+kernel) (.inl (by decide+kernel)) (by rw [isSubtype_type]; kernel_rfl)
theorem JL:entryFor table "set_iterator.__next__"=some Builtin.«set_iterator.__next__»:=entryFor_of_tree (by kernel_rfl)
theorem JM:entryFor table "set_iterator.__iter__"=some Builtin.«dict_keyiterator.__iter__»:=
 entryFor_alias (id' :="dict_keyiterator.__iter__") (by kernel_rfl) rfl (by decide+kernel) (by kernel_rfl)
theorem Jn:entryFor table "set.__iter__"=some Builtin.«frozenset.__iter__»:=
 entryFor_alias (id' :="frozenset.__iter__") (by kernel_rfl) rfl (by decide+kernel) (by kernel_rfl)
theorem wG (a:Value):argsOk "set_iterator.__next__" ⟨[a],[]⟩:=by unfold argsOk; kernel_rfl
theorem wH (a:Value):argsOk "set_iterator.__iter__" ⟨[a],[]⟩:=by unfold argsOk; kernel_rfl
theorem Uz {M:Model} {A:Around} {E:Value->Shared->Prop} {s:Shared} {src:Source} {n:Nat} {Q:Nat->Shared->Prop} (hn:n ≠ 0) (h:∀ i,i < n->Q i { s with drawn:=s.drawn.bump src }):wpAny M A (choose src n) Q E s:=fun Γ p hΓ=>by
 unfold choose
 rw [Sem.wp_choose]
 refine ⟨hn, ?_⟩
 have:=h _ (Nat.mod_lt (M.w.draws src (s.drawn.get src)) (Nat.pos_of_ne_zero hn))
 simpa using this
theorem jl {α:Type}:∀ (l:List α) (i:Nat) (x:α),l[i]? =some x->(x :: l.eraseIdx i).Perm l
 | [],i,x,h=>by simp at h
 | y :: l,0,x,h=>by simp at h; subst h; simp
 | y :: l,i+1,x,h=>by
  have:=jl l i x (by simpa using h)
  rw [List.eraseIdx_cons_succ]
  exact (List.Perm.swap y x _).trans (this.cons y)
theorem UA {M:Model} {A:Around} {E:Value->Shared->Prop} {α:Type}:∀ (n:Nat) (xs:List α) (s:Shared) (Q:List α->Shared->Prop),xs.length=n->
  (∀ ys d,ys.Perm xs->Q ys { s with drawn:=d })->wpAny M A (drawOrder n xs) Q E s
 | 0,xs,s,Q,hn,h=>by
  have:xs=[]:=List.length_eq_zero_iff.mp hn
  subst this
  unfold drawOrder
  exact wpAny_pure (h [] s.drawn (.refl _))
 | n+1,[],s,Q,hn,h=>by simp at hn
 | n+1,x :: xs,s,Q,hn,h=>by
  unfold drawOrder
  refine wpAny_bind (Uz (by simp) fun i hi=> ?_)
  have e:(x :: xs)[i]? =some (x :: xs)[i]:=List.getElem?_eq_getElem hi
  rw [e]
  dsimp only
  refine wpAny_bind (UA n _ _ _ (by rw [List.length_eraseIdx_of_lt hi]; simpa using hn) fun ys d hp=> ?_)
  exact wpAny_pure (h _ d ((hp.cons _).trans (jl _ _ _ e)))
theorem UB {α:Type} (f:Nat->Nat):∀ (n k:Nat) (l:List α) (out:Array α),l.length=n->(pickOrder.go f n k l out).toList.Perm (out.toList++l)
 | 0,k,l,out,h=>by
  have:l=[]:=List.length_eq_zero_iff.mp h
  subst this
  unfold pickOrder.go
  simp
 | n+1,k,l,out,h=>by
  unfold pickOrder.go
  have hi:f k % l.length < l.length:=Nat.mod_lt _ (by omega)
  have e:l[f k % l.length]? =some l[f k % l.length]:=List.getElem?_eq_getElem hi
  rw [e]
  dsimp only
  refine (UB f n (k+1) _ _ (by rw [List.length_eraseIdx_of_lt hi]; omega)).trans ?_
  rw [Array.toList_push,List.append_assoc]
  exact (List.perm_append_left_iff _).mpr (jl _ _ _ e)
theorem jP {α:Type} (f:Nat->Nat) (xs:Array α):(pickOrder f xs).toList.Perm xs.toList:=by
 unfold pickOrder
 simpa using UB f xs.size 0 xs.toList #[] (by simp)
abbrev siO (first:Value) (i:Nat) (S:Value) (n ep:Nat):Obj:={ cls:= .type "set_iterator",dict:=none,data:= .fields #[first, .int i 0,S, .int n 0, .int ep 0],slots:= #[] }
section
variable {prog:Program} {w:World} {A:Around} {E:Value->Shared->Prop} {s:Shared} {I S:Addr} {i ep j:Nat} {o:Obj} {es:Array (Int×Value)} {t:SetTable}
theorem Wb {first Sv:Value} {n:Nat} {Q:Value->Shared->Prop} (hi:s.heap.get? I=some (siO first i Sv n ep)) (h:Q (.ref I) s):wpAny (model prog w) A (pyIter (.ref I)) Q E s:=by
 have hT:s.TypeIs (.ref I) "set_iterator":=⟨_,hi,rfl⟩
 refine wpAny_pyIter_slot hT jo (wpAny_call_entry jo hT JM ?_ (wH _))
 show wpAny _ _ (ret (.ref I)) _ _ s
 exact wpAny_pure ⟨_,rfl,"set_iterator",_,hT,Zp.lookup,h⟩
theorem UC {Q:Option Value->Shared->Prop} {h:Heap} (hh:A.handled=none) (hQ:∀ h',(∀ b o,h.get? b=some o->h'.get? b=some o)->Q none { s with heap:=h' }):
  wpAny (model prog w) A.in1 (newExc (.type "StopIteration") [] >>= fun e=>(raiseNew e:Sem PySem.Fin)) (fun fin s' =>∃ v,fin= .done (.ret v)/\Q (some v) s')
   (fun e s' =>wpAny (model prog w) A (isInstance e (.type "StopIteration")) (fun b s'' =>b=true/\Q none s'') E s') { s with heap:=h }:=by
 refine wpAny_bind ?_
 simp only [newExc,newTuple]
 refine wpAny_bind (wpAny_newObj_type ?_ (by size_fits))
 refine wpAny_bind (m:=firstArgMember _ _) (wpAny_of_eq (a:=Value.none) (by first | rfl | (simp only [firstArgMember]; rfl)) ?_)
 refine wpAny_newObj_type ?_ (by size_fits)
 simp only [raiseNew]
 refine wpAny_bind (wpAny_handled ?_)
 rw [show A.in1.handled=none from hh]
 refine wpAny_bind (wpAny_pure (wpAny_throw ?_))
 refine wpAny_isInstance (T:="StopIteration") (b:=true) ⟨_,Heap.get?_push_size _ rfl,rfl⟩ isSubtype_stop ⟨rfl,hQ _ fun b o e=> ?_⟩
 exact Heap.get?_push_of_some _ (Heap.get?_push_of_some _ e)
theorem UD {Q:Option Value->Shared->Prop} {first Sv:Value} {n:Nat} (hi:s.heap.get? I=some (siO first i Sv n ep))
  (h:wpAny (model prog w) A.in1 (Builtin.«set_iterator.__next__» ⟨[.ref I],[]⟩) (fun fin s' =>∃ v,fin= .done (.ret v)/\Q (some v) s')
   (fun e s' =>wpAny (model prog w) A (isInstance e (.type "StopIteration")) (fun b s'' =>b=true/\Q none s'') E s') s):wpAny (model prog w) A (pyNext (.ref I)) Q E s:=by
 have hT:s.TypeIs (.ref I) "set_iterator":=⟨_,hi,rfl⟩
 unfold pyNext
 refine wpAny_bind (wpAny_attempt (wpAny_callSpecial?_slot (name:=Str.ofString "__next__") hT Zp (wpAny_call_entry Zp hT JL (wpAny_mono h (fun fin s' x=> ?_) fun e s' x=> ?_) (wG _))))
 ·obtain ⟨v,e,q⟩:=x
  exact ⟨v,e,wpAny_pure q⟩
 ·refine wpAny_bind (wpAny_mono x (fun b s'' y=> ?_) fun _ _ z=>z)
  obtain ⟨rfl,q⟩:=y
  exact wpAny_pure q
theorem WK {Q:Option Value->Shared->Prop} {sl:Nat} (hh:A.handled=none) (hi:s.heap.get? I=some (siO (.int sl 0) i (.ref S) es.size ep)) (ho:s.heap.get? S=some o) (hd:o.data= .set es ep t) (hf:t.fits es.size=true)
  (h:wpAny (model prog w) A.in1 (setNext S sl i ep) (fun r s' =>s' =s/\match r with
   | some (x,nx)=>∀ h',h'.get? I=some (siO (.int nx 0) (i+1) (.ref S) es.size ep)->Heap.SameBut I s.heap h' ->Q (some x) { s with heap:=h' }
   | none=>∀ h',(∀ b o,b ≠ I->s.heap.get? b=some o->h'.get? b=some o)->Q none { s with heap:=h' }) (fun _ _=>False) s):wpAny (model prog w) A (pyNext (.ref I)) Q E s:=by
 refine UD hi ?_
 unfold Builtin.«set_iterator.__next__»
 refine wpAny_bind (m:=slotArgs _ _ _) (wpAny_of_eq (a:=(Value.ref I,[])) rfl ?_)
 dsimp only
 refine wpAny_bind (wpAny_fieldsOf hi rfl ?_)
 dsimp only
 refine wpAny_bind (m:=setEntries S) (wpAny_bind (wpAny_setState_of ho hd hf (wpAny_pure ?_)))
 dsimp only
 rw [if_neg (by simp)]
 simp only [Int.toNat_natCast]
 refine wpAny_bind (wpAny_mono h (fun r s' x=> ?_) fun _ _ x=>False.elim x)
 obtain ⟨rfl,x⟩:=x
 cases r with
 | some p=>
  obtain ⟨x0,nx⟩:=p
  dsimp only at x ⊢
  refine wpAny_bind (wpAny_setField_rec hi (by simp) fun h1 g1 b1=>wpAny_bind (wpAny_setField_rec g1 (by simp) fun h2 g2 b2=>wpAny_pure ⟨_,rfl,x h2 ?_ (b1.trans b2)⟩))
  simpa [rawInt,siO] using g2
 | none=>
  dsimp only at x ⊢
  refine wpAny_bind (wpAny_setField_rec hi (by simp) fun h1 g1 b1=>UC hh fun h2 k2=>x h2 fun b o hb e=>k2 b o ((b1.2 b hb).trans e))
theorem YJ {Q:Option Value->Shared->Prop} {P:Addr} {pl:List Nat} {on:Nat} {od:Option Addr} {osl:Array (Option Value)} (hh:A.handled=none) (hi:s.heap.get? I=some (siO (.ref P) i (.ref S) es.size ep)) (ho:s.heap.get? S=some o) (hd:o.data= .set es ep t) (hf:t.fits es.size=true)
  (hp:s.heap.get? P=some { cls:= .type "tuple",dict:=od,data:= .seq (pl.map fun (k:Nat)=>rawInt k).toArray on,slots:=osl })
  (h:match pl[i]? with
   | some k=>∃ e,es[k]? =some e/\∀ h',h'.get? I=some (siO (.ref P) (i+1) (.ref S) es.size ep)->Heap.SameBut I s.heap h' ->Q (some e.2) { s with heap:=h' }
   | none=>∀ h',(∀ b o,b ≠ I->s.heap.get? b=some o->h'.get? b=some o)->Q none { s with heap:=h' }):wpAny (model prog w) A (pyNext (.ref I)) Q E s:=by
 refine UD hi ?_
 unfold Builtin.«set_iterator.__next__»
 refine wpAny_bind (m:=slotArgs _ _ _) (wpAny_of_eq (a:=(Value.ref I,[])) rfl ?_)
 dsimp only
 refine wpAny_bind (wpAny_fieldsOf hi rfl ?_)
 dsimp only
 refine wpAny_bind (m:=setEntries S) (wpAny_bind (wpAny_setState_of ho hd hf (wpAny_pure ?_)))
 dsimp only
 rw [if_neg (by simp)]
 refine wpAny_bind (wpAny_seqItems hp rfl ?_)
 dsimp only
 have e0:(pl.map fun (k:Nat)=>rawInt k).toArray[(i:Int).toNat]? =(pl[i]?).map fun (k:Nat)=>rawInt k:=by simp
 rw [e0]
 cases hk:pl[i]? with
 | some k=>
  rw [hk] at h
  obtain ⟨e,he,x⟩:=h
  simp only [Option.map_some,rawInt]
  refine wpAny_bind (m:=setNextDrawn S _ _) (wpAny_bind (wpAny_setState_of ho hd hf ?_))
  simp only [Int.toNat_natCast,bne_self_eq_false,Bool.false_eq_true,if_false,he]
  refine wpAny_pure (wpAny_bind (wpAny_setField_rec hi (by simp) fun h1 g1 b1=>wpAny_pure ⟨_,rfl,x h1 ?_ b1⟩))
  simpa [rawInt,siO] using g1
 | none=>
  rw [hk] at h
  simp only [Option.map_none]
  refine wpAny_bind (wpAny_setField_rec hi (by simp) fun h1 g1 b1=>wpAny_bind (wpAny_setField_rec g1 (by simp) fun h2 g2 b2=>UC hh fun h3 k3=>h h3 fun b o hb e=>k3 b o ((b2.2 b hb).trans ((b1.2 b hb).trans e))))
end
structure UE (w:World) (h:Heap) (S:Addr) (es:Array (Int×Value)) (ep:Nat) (t:SetTable):Prop where
 at_:h.get? S=some { cls:= .type "set",dict:=none,data:= .set es ep t,slots:= #[] }
 fits:t.fits es.size=true
 led:w.params.followText "set-order"=true\/t.led=true
 plain:t.plain=false\/es.size=0
theorem UE.keep {w:World} {h h' :Heap} {S:Addr} {es:Array (Int×Value)} {ep:Nat} {t:SetTable} (x:UE w h S es ep t) (e:∀ o,h.get? S=some o->h'.get? S=some o):UE w h' S es ep t:=⟨e _ x.at_,x.fits,x.led,x.plain⟩
theorem wI (j k:Nat):SetTable.below #[j] k=if j < k then 1 else 0:=by
 show SetTable.below.go #[j] k 1 0 1=_
 unfold SetTable.below.go
 simp only [Nat.lt_add_one,Nat.zero_lt_one,if_true]
 have e:(#[j]:Array Nat).getD ((0+1) / 2) k=j:=rfl
 rw [e]
 split <;> rfl
section
variable {prog:Program} {w:World} {A:Around} {E:Value->Shared->Prop} {s:Shared} {I S P:Addr} {i ep j:Nat} {es:Array (Int×Value)} {t:SetTable}
theorem ZB {M:Model} {Q:Bool->Shared->Prop} (h:Q (M.w.params.followText "set-order") s):wpAny M A setsByText Q E s:=by
 unfold setsByText
 exact wpAny_bind (wpAny_askSetting (wpAny_pure h))
theorem ui (hh:A.handled=none) (ht:w.params.followText "set-order"=true) (hne:S ≠ I):
  Walks prog w A I [I,S] [I] es.size (fun i v=>∃ e,(pickOrder (w.params.setOrder S ep) es)[i]? =some e/\v=e.2) (fun i h=>h.get? I=some (siO (.int 0 0) i (.ref S) es.size ep)/\UE w h S es ep t) where
 sub:=fun b hb=>by simp at hb; simp [hb]
 frame:=fun _ _ _ st hk=>⟨hk I (by simp) _ st.1,st.2.keep fun o e=>hk S (by simp) o e⟩
 item:=fun i s Q E hi st hQ=>by
  have hz:i < (pickOrder (w.params.setOrder S ep) es).size:=by rw [← Array.length_toList,(jP _ es).length_eq,Array.length_toList]; exact hi
  have he:(pickOrder (w.params.setOrder S ep) es)[i]? =some (pickOrder (w.params.setOrder S ep) es)[i]:=Array.getElem?_eq_getElem hz
  refine WK (sl:=0) hh st.1 st.2.at_ rfl st.2.fits ?_
  unfold setNext
  refine wpAny_bind (wpAny_setState_of st.2.at_ rfl st.2.fits (wpAny_bind (ZB ?_)))
  have e0:(model prog w).w.params.followText "set-order"=true:=ht
  simp only [e0,if_true,bne_self_eq_false,Bool.false_eq_true,if_false]
  refine wpAny_bind (m:=setWalk S) ?_
  unfold setWalk
  refine wpAny_bind (wpAny_setState_of st.2.at_ rfl st.2.fits (wpAny_bind (ZB ?_)))
  simp only [e0,if_true]
  refine wpAny_bind (wpAny_askSetting (wpAny_pure (wpAny_pure ⟨rfl, ?_⟩)))
  have e1:∀ f:Int×Value->Value×Nat,Option.map f (pickOrder ((model prog w).w.params.setOrder S ep) es)[i]? =some (f (pickOrder (w.params.setOrder S ep) es)[i]):=fun f=>congrArg (Option.map f) he
  rw [e1]
  intro h' g b
  exact hQ _ h' s.toks ⟨_,he,rfl⟩ ⟨g,st.2.keep fun o e=>(b.2 S hne).trans e⟩ fun b' o hb e=>(b.2 b' (fun z=>hb (by simp [z]))).trans e
 done:=fun s Q E st hQ=>by
  have he:(pickOrder (w.params.setOrder S ep) es)[es.size]? =none:=Array.getElem?_eq_none (by rw [← Array.length_toList,(jP _ es).length_eq,Array.length_toList]; exact Nat.le_refl _)
  refine WK (sl:=0) hh st.1 st.2.at_ rfl st.2.fits ?_
  unfold setNext
  refine wpAny_bind (wpAny_setState_of st.2.at_ rfl st.2.fits (wpAny_bind (ZB ?_)))
  have e0:(model prog w).w.params.followText "set-order"=true:=ht
  simp only [e0,if_true,bne_self_eq_false,Bool.false_eq_true,if_false]
  refine wpAny_bind (m:=setWalk S) ?_
  unfold setWalk
  refine wpAny_bind (wpAny_setState_of st.2.at_ rfl st.2.fits (wpAny_bind (ZB ?_)))
  simp only [e0,if_true]
  refine wpAny_bind (wpAny_askSetting (wpAny_pure (wpAny_pure ⟨rfl, ?_⟩)))
  have e1:∀ f:Int×Value->Value×Nat,Option.map f (pickOrder ((model prog w).w.params.setOrder S ep) es)[es.size]? =none:=fun f=>congrArg (Option.map f) he
  rw [e1]
  intro h' k
  exact hQ h' s.toks fun b o hb e=>k b o (fun z=>hb (by simp [z])) e
 self:=fun _ _ _ _ st hQ=>Wb st.1 hQ
theorem UF (hh:A.handled=none) (ht:w.params.followText "set-order"=false) (hz:es.size<=1) (hne:S ≠ I):
  Walks prog w A I [I,S] [I] es.size (fun i v=>∃ e,es[i]? =some e/\v=e.2) (fun i h=>h.get? I=some (siO (.int (if i=0 then 0 else t.place.getD 0 0+1:Nat) 0) i (.ref S) es.size ep)/\UE w h S es ep t) where
 sub:=fun b hb=>by simp at hb; simp [hb]
 frame:=fun _ _ _ st hk=>⟨hk I (by simp) _ st.1,st.2.keep fun o e=>hk S (by simp) o e⟩
 item:=fun i s Q E hi st hQ=>by
  obtain rfl:i=0:=by omega
  have h1:es.size=1:=by omega
  have he:es[0]? =some es[0]:=Array.getElem?_eq_getElem hi
  have hp:t.place.size=1:=by have:=st.2.fits; simp only [SetTable.fits,Bool.and_eq_true,beq_iff_eq] at this; omega
  obtain ⟨j,hj⟩:∃ j,t.place= #[j]:=⟨t.place[0],by
   apply Array.ext
   ·simp [hp]
   ·intro i h1 h2; simp at h2; subst h2; rfl⟩
  have hl:t.led=true:=st.2.led.resolve_left (by rw [ht]; simp)
  refine WK (sl:=0) hh st.1 st.2.at_ rfl st.2.fits ?_
  unfold setNext
  refine wpAny_bind (wpAny_setState_of st.2.at_ rfl st.2.fits (wpAny_bind (ZB ?_)))
  have e0:(model prog w).w.params.followText "set-order"=false:=ht
  simp only [e0,Bool.false_eq_true,if_false]
  refine wpAny_ite_split (fun h=>absurd h ?_) (fun _=> ?_)
  ·show ¬ ((!t.plain && decide (es.size > 1))=true)
   simp [show ¬ (es.size > 1) by omega]
  refine wpAny_bind (wpAny_of_eq (a:=()) ?_ (wpAny_pure ⟨rfl, ?_⟩))
  ·show (if (!t.led && !es.isEmpty)=true then unsupported "set:maker-not-led" else pure ())=pure ()
   rw [hl]; rfl
  have e1:SetTable.below t.place 0=0:=by rw [hj,wI]; rfl
  have e2:t.place[0]? =some j:=by rw [hj]; rfl
  rw [e1,he,e2]
  intro h' g b
  have e3:t.place.getD 0 0=j:=by rw [hj]; rfl
  refine hQ _ h' s.toks ⟨_,he,rfl⟩ ⟨?_,st.2.keep fun o e=>(b.2 S hne).trans e⟩ fun b' o hb e=>(b.2 b' (fun z=>hb (by simp [z]))).trans e
  rw [e3]; exact g
 done:=fun s Q E st hQ=>by
  refine WK hh st.1 st.2.at_ rfl st.2.fits ?_
  unfold setNext
  refine wpAny_bind (wpAny_setState_of st.2.at_ rfl st.2.fits (wpAny_bind (ZB ?_)))
  have e0:(model prog w).w.params.followText "set-order"=false:=ht
  have hl:t.led=true:=st.2.led.resolve_left (by rw [ht]; simp)
  simp only [e0,Bool.false_eq_true,if_false]
  refine wpAny_ite_split (fun h=>absurd h ?_) (fun _=> ?_)
  ·show ¬ ((!t.plain && decide (es.size > 1))=true)
   simp [show ¬ (es.size > 1) by omega]
  refine wpAny_bind (wpAny_of_eq (a:=()) ?_ (wpAny_pure ⟨rfl, ?_⟩))
  ·show (if (!t.led && !es.isEmpty)=true then unsupported "set:maker-not-led" else pure ())=pure ()
   rw [hl]; rfl
  have hp:t.place.size=es.size:=by have:=st.2.fits; simp only [SetTable.fits,Bool.and_eq_true,beq_iff_eq] at this; exact this.1
  have e1:es[SetTable.below t.place (if es.size=0 then 0 else t.place.getD 0 0+1)]? =none:=by
   rcases Nat.eq_zero_or_pos es.size with h0 | h0
   ·exact Array.getElem?_eq_none (by omega)
   ·have h1:t.place.size=1:=by omega
    obtain ⟨j,hj⟩:∃ j,t.place= #[j]:=⟨t.place[0],by
     apply Array.ext
     ·simp [h1]
     ·intro i h1 h2; simp at h2; subst h2; rfl⟩
    have e3:t.place.getD 0 0=j:=by rw [hj]; rfl
    rw [if_neg (by omega),e3,hj,wI,if_pos (by omega)]
    exact Array.getElem?_eq_none (by omega)
  rw [e1]
  intro h' k
  exact hQ h' s.toks fun b o hb e=>k b o (fun z=>hb (by simp [z])) e
 self:=fun _ _ _ _ st hQ=>Wb st.1 hQ
theorem Wc (hh:A.handled=none) (pl:List Nat) (hpl:pl.Perm (List.range es.size)) (hne:S ≠ I) (hP:P ≠ I):
  Walks prog w A I [I,S,P] [I] es.size (fun i v=>∃ k e,pl[i]? =some k/\es[k]? =some e/\v=e.2) (fun i h=>h.get? I=some (siO (.ref P) i (.ref S) es.size ep)/\UE w h S es ep t/\h.get? P=some { cls:= .type "tuple",dict:=none,data:= .seq (pl.map fun (k:Nat)=>rawInt k).toArray 0,slots:= #[] }) where
 sub:=fun b hb=>by simp at hb; simp [hb]
 frame:=fun _ _ _ st hk=>⟨hk I (by simp) _ st.1,st.2.1.keep fun o e=>hk S (by simp) o e,hk P (by simp) _ st.2.2⟩
 item:=fun i s Q E hi st hQ=>by
  have hl:pl.length=es.size:=by rw [hpl.length_eq,List.length_range]
  have hi' :i < pl.length:=by omega
  have e1:pl[i]? =some pl[i]:=List.getElem?_eq_getElem hi'
  have hk:pl[i] < es.size:=List.mem_range.mp (hpl.mem_iff.mp (List.getElem_mem hi'))
  have e2:es[pl[i]]? =some es[pl[i]]:=Array.getElem?_eq_getElem hk
  refine YJ hh st.1 st.2.1.at_ rfl st.2.1.fits st.2.2 ?_
  rw [e1]
  refine ⟨_,e2,fun h' g b=> ?_⟩
  exact hQ _ h' s.toks ⟨_,_,e1,e2,rfl⟩ ⟨g,st.2.1.keep fun o e=>(b.2 S hne).trans e,(b.2 P hP).trans st.2.2⟩ fun b' o hb e=>(b.2 b' (fun z=>hb (by simp [z]))).trans e
 done:=fun s Q E st hQ=>by
  have hl:pl.length=es.size:=by rw [hpl.length_eq,List.length_range]
  refine YJ hh st.1 st.2.1.at_ rfl st.2.1.fits st.2.2 ?_
  rw [show pl[es.size]? =none from List.getElem?_eq_none (by omega)]
  intro h' k
  exact hQ h' s.toks fun b o hb e=>k b o (fun z=>hb (by simp [z])) e
 self:=fun _ _ _ _ st hQ=>Wb st.1 hQ
end
section
variable {prog:Program} {w:World} {A:Around} {E:Value->Shared->Prop} {s:Shared} {S:Addr} {ep:Nat} {es:Array (Int×Value)} {t:SetTable}
def vG (es:Array (Int×Value)) (P:Nat->Value->Prop):Prop:=∃ ord:List (Int×Value),ord.Perm es.toList/\∀ i v,P i v->∃ e,ord[i]? =some e/\v=e.2
theorem Qc {Q:Value->Shared->Prop} (hh:A.handled=none) (hS:UE w s.heap S es ep t) (hb:es.size<=100)
  (h:∀ (I:Addr) (fp:List Addr) (P:Nat->Value->Prop) (St:Nat->Heap->Prop) (h' :Heap) (d:Drawn),Walks prog w A I fp [I] es.size P St->St 0 h' ->vG es P->s.heap.objs.size<=I->(∀ b∈fp,b=S\/s.heap.objs.size<=b)->
   (∀ b o,s.heap.get? b=some o->h'.get? b=some o)->Q (.ref I) { s with heap:=h',drawn:=d }):wpAny (model prog w) A (pyIter (.ref S)) Q E s:=by
 have hT:s.TypeIs (.ref S) "set":=⟨_,hS.at_,rfl⟩
 have hlt:S < s.heap.objs.size:=Heap.lt_size hS.at_
 refine wpAny_pyIter_slot hT F.slot_set_iter (wpAny_call_entry F.slot_set_iter hT Jn ?_ (F.args_set_iter_1 _))
 unfold Builtin.«frozenset.__iter__»
 refine wpAny_bind (m:=Builtin.Frozenset.slot0 _ _) (wpAny_of_eq (a:=S) rfl ?_)
 refine wpAny_bind (m:=Builtin.Frozenset.sizeOf S) (wpAny_bind (m:=setEntries S) (wpAny_bind (wpAny_setState_of hS.at_ rfl hS.fits (wpAny_pure (wpAny_pure ?_)))))
 refine wpAny_bind (m:=setDrawn S) ?_
 unfold setDrawn
 refine wpAny_bind (wpAny_setState_of hS.at_ rfl hS.fits (wpAny_bind (ZB (wpAny_pure ?_))))
 refine wpAny_ite_split (fun hd=> ?_) (fun hd=> ?_)
 ·have hd:(!w.params.followText "set-order" && (!t.plain && decide (es.size > 1)))=true:=hd
  refine wpAny_bind (UA es.size _ _ _ (by simp) fun pl d hp=>wpAny_bind (wpAny_newTuple ?_ (by rw [List.length_map,hp.length_eq,List.length_range,sizeLine_eq]; show es.size<=16777216; omega)))
  have g1:UE w (s.heap.push { cls:= .type "tuple",data:= .seq (pl.map fun (i:Nat)=>rawInt i).toArray }) S es ep t:=hS.keep fun o e=>Heap.get?_push_of_some _ e
  refine wpAny_bind (wpAny_setEpoch_of g1.at_ rfl g1.fits ?_)
  refine wpAny_bind (wpAny_newObj_type (wpAny_pure ⟨_,rfl,"set_iterator",_,⟨_,Heap.get?_push_size _ rfl,rfl⟩,Zp.lookup, ?_⟩))
  refine h _ _ _ _ _ _ (Wc (ep:=ep) (t:=t) hh pl hp (P:=s.heap.objs.size) ?_ ?_) ⟨Heap.get?_push_size _ rfl,g1.keep fun o e=>Heap.get?_push_of_some _ e, ?_⟩ ?_ ?_ ?_ ?_
  ·have e:(s.heap.push { cls:= .type "tuple",data:= .seq (pl.map fun (i:Nat)=>rawInt i).toArray }).objs.size=s.heap.objs.size+1:=Heap.size_push ..
   exact Nat.ne_of_lt (by rw [e]; exact Nat.lt_succ_of_lt hlt)
  ·have e:(s.heap.push { cls:= .type "tuple",data:= .seq (pl.map fun (i:Nat)=>rawInt i).toArray }).objs.size=s.heap.objs.size+1:=Heap.size_push ..
   exact Nat.ne_of_lt (by rw [e]; exact Nat.lt_succ_self _)
  ·exact Heap.get?_push_of_some _ (Heap.get?_push_size _ rfl)
  ·refine ⟨pl.map fun k=>es.getD k (0, .none), ?_,fun i v ⟨k,e,a1,a2,a3⟩=>⟨e, ?_,a3⟩⟩
   ·have e1:=hp.map fun k=>es.getD k (0,Value.none)
    refine e1.trans (.of_eq ?_)
    refine List.ext_getElem? fun i=> ?_
    rw [List.getElem?_map]
    by_cases hi:i < es.size
    ·rw [List.getElem?_range hi]
     simp [Array.getD,hi]
    ·rw [List.getElem?_eq_none (by simp; omega)]
     simp; omega
   ·rw [List.getElem?_map,a1,Option.map_some,Array.getD_eq_getD_getElem?,a2]; rfl
  ·have e:(s.heap.push { cls:= .type "tuple",data:= .seq (pl.map fun (i:Nat)=>rawInt i).toArray }).objs.size=s.heap.objs.size+1:=Heap.size_push ..
   show s.heap.objs.size<=(s.heap.push { cls:= .type "tuple",data:= .seq (pl.map fun (i:Nat)=>rawInt i).toArray }).objs.size
   rw [e]; exact Nat.le_succ _
  ·intro b hb
   have e:(s.heap.push { cls:= .type "tuple",data:= .seq (pl.map fun (i:Nat)=>rawInt i).toArray }).objs.size=s.heap.objs.size+1:=Heap.size_push ..
   rcases List.mem_cons.mp hb with z | hb
   ·right; rw [z]
    show s.heap.objs.size<=(s.heap.push { cls:= .type "tuple",data:= .seq (pl.map fun (i:Nat)=>rawInt i).toArray }).objs.size
    rw [e]; exact Nat.le_succ _
   ·rcases List.mem_cons.mp hb with z | hb
    ·exact .inl z
    ·right; rw [List.mem_singleton.mp hb]; exact Nat.le_refl _
  ·intro b o e
   exact Heap.get?_push_of_some _ (Heap.get?_push_of_some _ e)
 ·have hd:¬ ((!w.params.followText "set-order" && (!t.plain && decide (es.size > 1)))=true):=hd
  refine wpAny_bind (wpAny_pure (wpAny_bind (wpAny_setEpoch_of hS.at_ rfl hS.fits ?_)))
  refine wpAny_bind (wpAny_newObj_type (wpAny_pure ⟨_,rfl,"set_iterator",_,⟨_,Heap.get?_push_size _ rfl,rfl⟩,Zp.lookup, ?_⟩))
  have hSp:UE w (s.heap.push (siO (.int 0 0) 0 (.ref S) es.size ep)) S es ep t:=hS.keep fun o e=>Heap.get?_push_of_some _ e
  have fin:∀ (P:Nat->Value->Prop) (St:Nat->Heap->Prop),Walks prog w A s.heap.objs.size [s.heap.objs.size,S] [s.heap.objs.size] es.size P St->St 0 (s.heap.push (siO (.int 0 0) 0 (.ref S) es.size ep))->vG es P->
    Q (.ref s.heap.objs.size) { s with heap:=s.heap.push (siO (.int 0 0) 0 (.ref S) es.size ep) }:=fun P St W st od=>
   h _ _ _ _ _ s.drawn W st od (Nat.le_refl _) (fun b hb=>by
    rcases List.mem_cons.mp hb with z | hb
    ·right; rw [z]; exact Nat.le_refl _
    ·exact .inl (List.mem_singleton.mp hb)) fun b o e=>Heap.get?_push_of_some _ e
  cases ht:w.params.followText "set-order" with
  | true=>
   refine fin _ _ (ui (t:=t) hh ht (Nat.ne_of_lt hlt)) ⟨Heap.get?_push_size _ rfl,hSp⟩ ⟨(pickOrder (w.params.setOrder S ep) es).toList,jP _ es,fun i v ⟨e,a1,a2⟩=>⟨e,by simpa using a1,a2⟩⟩
  | false=>
   have hz:es.size<=1:=by
    rcases hS.plain with p | p
    ·rw [ht,p] at hd
     simp at hd
     exact hd
    ·omega
   exact fin _ _ (UF (t:=t) hh ht hz (Nat.ne_of_lt hlt)) ⟨Heap.get?_push_size _ rfl,hSp⟩ ⟨es.toList, .refl _,fun i v ⟨e,a1,a2⟩=>⟨e,by simpa using a1,a2⟩⟩
theorem Qd {Q:Bool->Shared->Prop} (hT:s.TypeIs (.ref S) "set") (h:Q false s):wpAny (model prog w) A (Builtin.List.listLengthHint (.ref S)) Q E s:=by
 unfold Builtin.List.listLengthHint
 refine wpAny_bind (wpAny_specialOf hT F.slot_set_len.lookup ?_)
 generalize hq:("set.__len__":String)=q
 wp_delta
 rw [show splitId q=some ("set","__len__") by subst hq; decide+kernel]
 subst hq
 refine wpAny_bind (wpAny_isInstance (T:="set") (b:=true) hT (by rw [isSubtype_type]; kernel_rfl) (wpAny_ite_split (fun z=>absurd z (by decide)) fun _=> ?_))
 refine wpAny_ite_split (fun _=>wpAny_bind (wpAny_typeOf hT (wpAny_pure h))) (fun z=>absurd (by decide+kernel) z)
theorem uj {R:List Value->Shared->Prop} (hh:A.handled=none) (hS:UE w s.heap S es ep t) (hb:es.size<=100)
  (h:∀ (h' :Heap) (tk:Nat) (d:Drawn) (vs:List Value),(∀ b o,s.heap.get? b=some o->h'.get? b=some o)->s.heap.objs.size<=h'.objs.size->vs.Perm (es.toList.map (·.2))->R vs { s with heap:=h',drawn:=d,toks:=tk }):
  wpAny (model prog w) A (collect (.ref S)) R E s:=by
 have hlt:S < s.heap.objs.size:=Heap.lt_size hS.at_
 have hnl:es.size<=sizeLine:=by rw [sizeLine_eq]; omega
 unfold collect
 refine wpAny_bind (wpAny_runValue (codeAny_builtin entry_proto_collect' ?_))
 rw [Around.under_plainId PySem.F.plain_proto_collect _]
 refine wpAny_bind (m:=newList []) (wpAny_newObj_type (wpAny_pure ⟨plainId_quiet PySem.F.plain_list_iadd _,codeAny_builtin entry_list_iadd' ?_⟩))
 rw [Around.under_plainId PySem.F.plain_list_iadd _]
 generalize hG:s.heap.push { cls:= .type "list",data:= .seq ([]:List Value).toArray }=G
 have gL:G.get? s.heap.objs.size=some { cls:= .type "list",data:= .seq #[] }:=by rw [← hG]; exact Heap.get?_push_size _ rfl
 have gk:∀ b o,s.heap.get? b=some o->G.get? b=some o:=fun b o e=>by rw [← hG]; exact Heap.get?_push_of_some _ e
 have gz:G.objs.size=s.heap.objs.size+1:=by rw [← hG]; exact Heap.size_push ..
 have gS:=hS.keep (h' :=G) (gk S)
 have hT:Shared.TypeIs { s with heap:=G } (.ref S) "set":=⟨_,gS.at_,rfl⟩
 have hne:s.heap.objs.size ≠ S:=Nat.ne_of_gt hlt
 show wpAny _ A.in1 (Builtin.List.listExtendWith (.ref s.heap.objs.size) (.ref S) (.ref s.heap.objs.size)) _ _ _
 unfold Builtin.List.listExtendWith
 refine wpAny_bind (wpAny_typeOf hT ?_)
 have c1:Builtin.List.listSameRef (.ref s.heap.objs.size) (.ref S)=false:=by simp [Builtin.List.listSameRef,hne]
 have c2:(Value.type "set" == Value.type "list")=false:=by decide
 have c3:(Value.type "set" == Value.type "tuple")=false:=by decide
 simp only [c1,c2,c3,Bool.or_false,Bool.false_eq_true,if_false]
 refine wpAny_bind (Qc (A:=A.in1) (s:={ s with heap:=G }) hh gS hb fun I fp P St h1 d W st od hI hfp k1=> ?_)
 refine wpAny_bind (wpAny_holding (Qd ⟨_,k1 S _ gS.at_,rfl⟩ ?_))
 have hLf:s.heap.objs.size ∉ fp:=fun z=>by
  rcases hfp _ z with z | z
  ·exact hne z
  ·rw [gz] at z; exact absurd z (Nat.not_succ_le_self _)
 have loop:∀ (h2:Heap) (c tk:Nat),St 0 h2->(∀ b o,b ≠ s.heap.objs.size->h1.get? b=some o->h2.get? b=some o)->h2.get? s.heap.objs.size=some { cls:= .type "list",data:= .seq #[] c }->
   codeAny (model prog w) A (.builtin "list.extend.loop" ⟨[.ref s.heap.objs.size, .ref I, .ref s.heap.objs.size],[]⟩)
    (fun q s' =>∃ vs:List Value,vs.Perm (es.toList.map (·.2))/\∃ (h' :Heap) (tk:Nat) (c' :Nat),q= .ok (.ret (.ref s.heap.objs.size))/\s' ={ s with heap:=h',drawn:=d,toks:=tk }/\(∀ b o,s.heap.get? b=some o->h'.get? b=some o)/\
     h'.get? s.heap.objs.size=some { cls:= .type "list",dict:=none,data:= .seq vs.toArray c',slots:= #[] }) { s with heap:=h2,drawn:=d,toks:=tk }:=by
  intro h2 c tk st2 k2 g2
  refine codeAny_extend_loopS W.toS hnl s.heap.objs.size hLf _ es.size 0 _ #[] c rfl (Nat.zero_le _) st2 g2 (ItemsOf.nil _) fun s' acc c' hm g3 ha=> ?_
  obtain ⟨ord,hp,ho⟩:=od
  have ea:acc.toList=ord.map (·.2):=by
   refine List.ext_getElem? fun i=> ?_
   rw [List.getElem?_map]
   by_cases hi:i < acc.size
   ·obtain ⟨e,e1,e2⟩:=ho i acc[i] (ha.2 i acc[i] (Array.getElem?_eq_getElem hi))
    rw [e1]; simp [hi,e2]
   ·have l2:ord.length=acc.size:=by rw [hp.length_eq,Array.length_toList,ha.1]
    rw [List.getElem?_eq_none (by simpa using hi),List.getElem?_eq_none (by omega)]; rfl
  refine ⟨acc.toList,by rw [ea]; exact hp.map _,s'.heap,s'.toks,c',rfl, ?_,fun b o e=> ?_,by simpa using g3⟩
  ·rw [Moved.eq_with hm]
  ·have hbs:b ≠ s.heap.objs.size:=Nat.ne_of_lt (Heap.lt_size e)
   refine hm.heap b o (fun z=> ?_) (k2 b o hbs (k1 b o (gk b o e)))
   rcases List.mem_cons.mp z with z | z
   ·exact hbs z
   ·have zz:s.heap.objs.size+1<=b:=by rw [List.mem_singleton.mp z,← gz]; exact hI
    exact absurd (Heap.lt_size e) (Nat.not_lt.mpr (Nat.le_of_succ_le zz))
 have done:∀ (q:Result) (s' :Shared),(∃ vs:List Value,vs.Perm (es.toList.map (·.2))/\∃ (h' :Heap) (tk:Nat) (c' :Nat),q= .ok (.ret (.ref s.heap.objs.size))/\s' ={ s with heap:=h',drawn:=d,toks:=tk }/\(∀ b o,s.heap.get? b=some o->h'.get? b=some o)/\
     h'.get? s.heap.objs.size=some { cls:= .type "list",dict:=none,data:= .seq vs.toArray c',slots:= #[] })->q= .ok (.ret (.ref s.heap.objs.size))/\wpAny (model prog w) A (do
   let o ← load s.heap.objs.size
   match o.data with
   | .seq xs _=>pure xs.toList
   | _=>unsupported "internal:collect") R E s' :=by
  rintro q s' ⟨vs,hp,h',tk,c',rfl,rfl,k,g⟩
  refine ⟨rfl,wpAny_bind (wpAny_load g (wpAny_pure ?_))⟩
  exact h h' tk d vs k (Nat.le_of_lt (Heap.lt_size g)) hp
 have gL1:=k1 _ _ gL
 refine wpAny_ite_split (fun _=> ?_) (fun _=> ?_)
 ·refine wpAny_bind (wpAny_rule (wpAny_bind ?_))
  show wpAny _ _ (updateSeq s.heap.objs.size (·.push .none) >>= fun _=>updateSeq s.heap.objs.size (·.pop)) _ _ _
  have gL2:=Heap.get?_update_self (Obj.mapSeq (·.push Value.none)) gL1 rfl
  refine wpAny_bind (wpAny_updateSeq gL1 rfl (wpAny_updateSeq (hz:=by seq_fits) gL2 rfl ?_))
  have gL3:=Heap.get?_update_self (Obj.mapSeq (·.pop)) gL2 rfl
  refine wpAny_pure ⟨plainId_quiet PySem.F.plain_extend_loop _,codeAny_mono (loop _ _ _ (W.frame 0 _ _ st fun b hb o e=> ?_) (fun b o hb e=> ?_) gL3) fun q s' x=> ?_⟩
  ·have hbs:b ≠ s.heap.objs.size:=fun z=>hLf (z ▸ hb)
   exact (Heap.get?_update_other _ _ (Ne.symm hbs)).trans ((Heap.get?_update_other _ _ (Ne.symm hbs)).trans e)
  ·exact (Heap.get?_update_other _ _ (Ne.symm hb)).trans ((Heap.get?_update_other _ _ (Ne.symm hb)).trans e)
  ·obtain ⟨rfl,y⟩:=done q s' x
   exact y
 ·refine wpAny_pure ⟨plainId_quiet PySem.F.plain_extend_loop _,codeAny_mono (loop _ _ _ st (fun b o _ e=>e) gL1) fun q s' x=> ?_⟩
  obtain ⟨rfl,y⟩:=done q s' x
  exact y
end
def uA (prog:Program) (w:World) (h:Heap) (S:Addr) (acc:List Str):Prop:=∃ es ep t ps,UE w h S es ep t/\ElemsOf (strKind prog w) es.toList/\StrsAre (es.toList.map (·.2)) ps/\ps.Perm acc
theorem uA.keep {prog:Program} {w:World} {h h' :Heap} {S:Addr} {acc:List Str} (x:uA prog w h S acc) (e:∀ o,h.get? S=some o->h'.get? S=some o):uA prog w h' S acc:=
 let ⟨es,ep,t,ps,a,r⟩:=x; ⟨es,ep,t,ps,a.keep e,r⟩
theorem wJ:∀ {vs us:List Value},vs.Perm us->∀ {ps:List Str},StrsAre us ps->∃ qs,StrsAre vs qs/\qs.Perm ps:=by
 intro vs us hp ps h
 refine ⟨vs.map strOf,strsAre_map vs fun v hv=>h.all v (hp.mem_iff.mp hv), ?_⟩
 have:=hp.map strOf
 rw [h.strs] at this
 exact this
theorem UG:∀ {vs:List Value} {ps:List Str} (x:Str) (t:Tok),StrsAre vs ps->StrsAre (vs++[.str x t]) (ps++[x]):=by
 intro vs ps x t h
 induction h with
 | nil=>exact .cons x t .nil
 | cons y u _ ih=>exact .cons y u ih
theorem JN:∀ {vs:List Value} {ps:List Str},StrsAre vs ps->vs.length=ps.length:=by
 intro vs ps h
 induction h with
 | nil=>rfl
 | cons y u _ ih=>simp [ih]
theorem Y9:∀ {vs:List Value} {ps:List Str} {x:Str},StrsAre vs ps->(x∈ps↔∃ t,Value.str x t∈vs):=by
 intro vs ps x h
 induction h with
 | nil=>simp
 | cons y u _ ih=>
  rw [List.mem_cons,ih]
  constructor
  ·rintro (rfl | ⟨t,e⟩)
   ·exact ⟨u,by simp⟩
   ·exact ⟨t,by simp [e]⟩
  ·rintro ⟨t,e⟩
   rcases List.mem_cons.mp e with e | e
   ·cases e; exact .inl rfl
   ·exact .inr ⟨t,e⟩
section
variable {prog:Program} {w:World} {A:Around} {E:Value->Shared->Prop} {s:Shared} {S:Addr}
theorem Ya {acc:List Str} {x:Str} {tk:Tok} {Q:Bool->Shared->Prop} (hS:uA prog w s.heap S acc) (hb:acc.length+1 < scanBound)
  (h:∀ b h',Heap.SameBut S s.heap h' ->uA prog w h' S (if x∈acc then acc else acc++[x])->Q b { s with heap:=h' }):
  wpAny (model prog w) A (setAddHashed S (.str x tk) ((strKind prog w).hash x)) Q E s:=by
 obtain ⟨es,ep,t,ps,hw,el,hs,hp⟩:=hS
 have hz:es.size=acc.length:=by
  have h1:=JN hs
  rw [List.length_map,Array.length_toList] at h1
  rw [h1,hp.length_eq]
 have isk:(strKind prog w).is x (.str x tk)=true:=strKind_is _ _ _ _
 have key:x∈acc↔∃ e∈es.toList,(strKind prog w).is x e.2=true:=by
  rw [← hp.mem_iff,Y9 hs]
  constructor
  ·rintro ⟨t',e⟩
   obtain ⟨e,he,e2⟩:=List.mem_map.mp e
   exact ⟨e,he,by rw [e2]; exact strKind_is _ _ _ _⟩
  ·rintro ⟨e,he,e2⟩
   obtain ⟨t',e3⟩:=Value.isStrOf_shape (x:=x) (v:=e.2) e2
   exact ⟨t',List.mem_map.mpr ⟨e,he,e3⟩⟩
 refine Qb (knd:=strKind prog w) isk rfl rfl hw.at_ rfl hw.fits el (by omega) (fun hm=> ?_) fun hm es' ep' t' h' p' f' l' pl' g' sb=> ?_
 ·have:=h false s.heap (Heap.SameBut.refl _ _) (by rw [if_pos (key.mpr hm)]; exact ⟨es,ep,t,ps,hw,el,hs,hp⟩)
  exact this
 ·have hx:x ∉ acc:=fun z=>by
   obtain ⟨e,he,e2⟩:=key.mp z
   rw [hm e he] at e2; cases e2
  refine h true h' sb ?_
  rw [if_neg hx]
  have hs2:StrsAre ((es.toList++[((strKind prog w).hash x,Value.str x tk)]).map (·.2)) (ps++[x]):=by
   rw [List.map_append]; exact UG x tk hs
  obtain ⟨qs,h1,h2⟩:=wJ (p'.map (·.2)) hs2
  exact ⟨es',ep',t',qs,⟨g',f',hw.led.imp id fun z=>l'.trans z, .inl pl'⟩,(el.push isk rfl).perm p',h1,h2.trans (hp.append_right [x])⟩
end
section
variable {prog:Program} {w:World} {A:Around} {R:Result->Shared->Prop} {I:Addr} {fp wr:List Addr} {n:Nat} {P:Nat->Value->Prop} {St:Nat->Heap->Prop}
theorem UH (W:Walks prog w A.in1 I fp wr n P St) (S:Addr) (hSf:S ∉ fp) (val:Nat->Str) (hval:∀ i v,P i v->∃ t,v=Value.str (val i) t) (hb:n+1 < scanBound):
  ∀ (k i:Nat) (acc:List Str) (s:Shared),n - i=k->i<=n->acc.length<=i->St i s.heap->uA prog w s.heap S acc->
   (∀ h' tk,(∀ b o,b ∉ S :: wr->s.heap.get? b=some o->h'.get? b=some o)->uA prog w h' S (dd acc ((List.range' i k).map val))->
    R (.ok (.ret .none)) { s with heap:=h',toks:=tk })->codeAny (model prog w) A (.builtin "set.update.loop" ⟨[.ref S, .ref I],[]⟩) R s:=by
 intro k
 induction k with
 | zero=>
  intro i acc s hk hi hal hst hS hR
  obtain rfl:i=n:=by omega
  refine codeAny_builtin F.entry_set_update_loop ?_
  rw [Around.under_plainId F.plain_set_update_loop _]
  refine wpAny_bind (m:=pyNext (.ref I)) (W.done s _ _ hst fun h' tk hk' =>wpAny_pure ?_)
  exact hR h' tk (fun b o hb e=>hk' b o (fun z=>hb (List.mem_cons_of_mem _ z)) e) (hS.keep (fun o e=>hk' S o (fun z=>hSf (W.sub _ z)) e))
 | succ k ih=>
  intro i acc s hk hi hal hst hS hR
  refine codeAny_builtin F.entry_set_update_loop ?_
  rw [Around.under_plainId F.plain_set_update_loop _]
  refine wpAny_bind (m:=pyNext (.ref I)) (W.item i s _ _ (by omega) hst fun v h1 tk1 hP hst1 hk1=> ?_)
  obtain ⟨t,rfl⟩:=hval i v hP
  have hS1:=hS.keep (fun o e=>hk1 S o (fun z=>hSf (W.sub _ z)) e)
  refine wpAny_bind (m:=holding [Value.str (val i) t] (setAdd S (.str (val i) t))) (wpAny_holding ?_)
  unfold setAdd
  have isk:(strKind prog w).is (val i) (.str (val i) t)=true:=strKind_is _ _ _ _
  refine wpAny_holding (wpAny_bind ((strKind prog w).pyHash isk ?_))
  refine Ya (s:={ s with heap:=h1,toks:=tk1+1 }) hS1 (by omega) fun b h2 hsb hS2=> ?_
  refine wpAny_pure ⟨plainId_quiet F.plain_set_update_loop _,ih (i+1) _ _ (by omega) (by omega) ?_ (W.frame _ h1 _ hst1 fun b hb o e=> ?_) hS2 fun h3 tk3 hk3 hS4=> ?_⟩
  ·split
   ·omega
   ·rw [List.length_append,List.length_singleton]; omega
  ·exact (hsb.2 b (fun z:b=S=>hSf (z ▸ hb))).trans e
  ·rw [List.range'_succ,List.map_cons] at hR
   refine hR h3 tk3 (fun b o hb e=>hk3 b o hb ?_) hS4
   exact (hsb.2 b (fun z:b=S=>hb (z ▸ List.mem_cons_self))).trans (hk1 b o (fun z=>hb (List.mem_cons_of_mem _ z)) e)
end
theorem JO {prog:Program} {w:World} {A:Around} {E:Value->Shared->Prop} {s:Shared} (a:Value) {Q:Value->Shared->Prop}
  (h:Q (.ref s.heap.objs.size) { s with heap:=s.heap.push { cls:= .type "set",dict:=none,data:= .set #[] 0 (.fresh 0 0 (!w.params.followText "set-order")) } }):
  codeAny (model prog w) A (.call (.builtin "set.__new__") ⟨[.type "set",a],[]⟩) (wants Q E) s:=by
 refine codeAny_of_tree ?_
 refine wpAny_bind (m:=checkBuiltinCall "set.__new__" ⟨[.type "set",a],[]⟩) (wpAny_of_eq (F.newCall_set_1 a) (wpAny_pure ⟨plainId_quiet F.plain_set_new _,codeAny_builtin F.entry_set_new ?_⟩))
 rw [Around.under_plainId F.plain_set_new _]
 unfold Builtin.«set.__new__» Builtin.Frozenset.newClass
 have hq:=sub_set_self
 obtain ⟨hp,g,d,tk,os⟩:=s
 dsimp only
 wp_walk
 refine wpAny_askSetting (wpAny_pure ?_)
 dsimp only
 simp only [newObj]
 exact wpAny_bind (wpAny_alloc (wpAny_pure (wpAny_pure h)))
section
variable {prog:Program} {w:World} {A:Around} {E:Value->Shared->Prop} {s:Shared}
set_option maxRecDepth 100000 in
set_option maxHeartbeats 3200000 in
theorem uk {l:Addr} {its:List Value} {ys:List Str} {Q:Value->Shared->Prop} (hh:A.handled=none) (hl:s.heap.IsList l its.toArray) (hi:StrsAre its ys) (hb:its.length+1 < scanBound)
  (h:∀ (h' :Heap) (tk:Nat),uA prog w h' s.heap.objs.size (dd [] ys)->(∀ b o,b < s.heap.objs.size->s.heap.get? b=some o->h'.get? b=some o)->
   Q (.ref s.heap.objs.size) { s with heap:=h',toks:=tk }):wpAny (model prog w) A (call (.type "set") [.ref l]) Q E s:=by
 have getv:∀ {its:List Value} {ys:List Str},StrsAre its ys->its.length=ys.length/\∀ (i:Nat) (v:Value),its[i]? =some v->∃ t,v=Value.str (ys.getD i ⟨#[]⟩) t:=fun {its ys} hi=>by
  induction hi with
  | nil=>exact ⟨rfl,fun i v e=>by simp at e⟩
  | cons y t _ ih=>
   refine ⟨by simp [ih.1],fun i v e=> ?_⟩
   cases i with
   | zero=>exact ⟨t,by simpa using e.symm⟩
   | succ i=>exact ih.2 i v (by simpa using e)
 obtain ⟨hlen,hget⟩:=getv hi
 have hys:(List.range' 0 its.length).map (fun i=>ys.getD i ⟨#[]⟩)=ys:=by
  rw [hlen]
  refine List.ext_getElem? fun i=> ?_
  rw [List.getElem?_map]
  by_cases hi' :i < ys.length
  ·rw [List.getElem?_range' hi',List.getElem?_eq_getElem hi']
   simp [List.getElem?_eq_getElem hi']
  ·rw [List.getElem?_eq_none (by simp; omega),List.getElem?_eq_none (by omega)]
   rfl
 obtain ⟨c,tl,hmro⟩:=F.called_set.mro
 have hmade:=F.called_set.made
 have hsub:=F.called_set.sub
 have h1:=F.called_set.notType
 have h2:=F.called_set.canCreate
 have hct:=F.typeCall_set_1 (.ref l)
 refine wpAny_call (codeAny_of_tree (show wpAny _ _ (callAny (.type "set") _) _ _ _ from ?_))
 refine wpAny_pure ⟨Code.quiet_builtin _ (by decide+kernel),codeAny_builtin F.entry_type_call ?_⟩
 rw [Around.under_plain (weight_type_call_type "set" [.ref l] []) rfl]
 repeat any_goals (first | assumption | wp_step)
 refine codeAny_mono (JO (.ref l) (E:=E) (Q:=fun obj s₁=>∃ led:Bool,led= !w.params.followText "set-order"/\obj= .ref s.heap.objs.size/\s₁={ s with heap:=s.heap.push { cls:= .type "set",dict:=none,data:= .set #[] 0 (.fresh 0 0 led) } }) ⟨_,rfl,rfl,rfl⟩) fun r s₁ hr=> ?_
 cases r with
 | error e=>exact hr
 | ok fl=>
  cases fl with
  | ret obj=>
   obtain ⟨led,hled,rfl,rfl⟩:=hr
   generalize hG:s.heap.push { cls:= .type "set",dict:=none,data:= .set #[] 0 (.fresh 0 0 led) }=G
   have hS:G.get? s.heap.objs.size=some { cls:= .type "set",dict:=none,data:= .set #[] 0 (.fresh 0 0 led) }:=by rw [← hG]; exact Heap.get?_push_size _ rfl
   have hGs:G.objs.size=s.heap.objs.size+1:=by rw [← hG,Heap.size_push]
   have hGk:∀ b o,s.heap.get? b=some o->G.get? b=some o:=fun b o e=>by rw [← hG]; exact Heap.get?_push_of_some _ e
   have hT:Shared.TypeIs { s with heap:=G } (.ref s.heap.objs.size) "set":=⟨_,hS,rfl⟩
   have hli:=F.called_set.init.lookup
   have hbi:=F.called_set.init.bind (.ref s.heap.objs.size)
   repeat any_goals (first | assumption | wp_step)
   refine codeAny_mono (codeAny_call_builtin (R:=wants (fun r s₂=>r= .none/\∃ h' tk,s₂={ s with heap:=h',toks:=tk }/\uA prog w h' s.heap.objs.size (dd [] ys)/\
     (∀ b o,b < s.heap.objs.size->s.heap.get? b=some o->h'.get? b=some o)) E) F.called_set.init.plain F.entry_set_init (check_set_init_1 hT ?_)) fun r₂ s₂ hr₂=> ?_
   ·obtain ⟨⟨ocls,odict,odata,oslots⟩,hol,hcl,nl,hdl⟩:=hl
    simp only at hcl hdl
    subst hcl; subst hdl
    have hol' :=hGk _ _ hol
    have hsls:=F.sub_list_set
    have hslf:=F.sub_list_frozenset
    have hne:(Value.type "list" == Value.type "dict")=false:=by decide
    have hl1:G.IsList l its.toArray:=⟨_,hol',rfl,nl,rfl⟩
    have hlS:l < s.heap.objs.size:=Heap.lt_size hol
    unfold Builtin.«set.__init__» noKeywords Builtin.Frozenset.updateFrom
    generalize hPI:pyIter=PI
    wp_walk
    subst hPI
    refine wpAny_pyIter_list hl1 (wpAny_bind (wpAny_runValue ?_))
    have hSf:s.heap.objs.size ∉ [G.objs.size,l]:=by
     rw [hGs]
     intro z
     rcases List.mem_cons.mp z with z | z
     ·exact absurd z (Nat.ne_of_lt (Nat.lt_succ_self _))
     ·exact absurd (List.mem_singleton.mp z) (Nat.ne_of_gt hlS)
    refine UH (Walks.list (A:=A.in1.in1.in1) (by simp [hh]) G.objs.size l (by rw [hGs]; exact Nat.ne_of_lt (Nat.lt_succ_of_lt hlS)) its.toArray) s.heap.objs.size hSf (fun i=>ys.getD i ⟨#[]⟩) (fun i v e=>hget i v (by simpa using e)) (by simpa using hb) its.length 0 [] _ (by simp) (Nat.zero_le _) (Nat.le_refl _)
     ⟨⟨_,Heap.get?_push_size _ rfl,rfl,rfl⟩,hl1.push _⟩ ?_ ?_
    ·have hget' :(G.push { cls:= .type "list_iterator",data:= .fields #[.ref l, .int 0 0] }).get? s.heap.objs.size=some { cls:= .type "set",dict:=none,data:= .set #[] 0 (.fresh 0 0 led) }:=Heap.get?_push_of_some _ hS
     exact ⟨#[],0,_,[],⟨hget',rfl,by cases hw:w.params.followText "set-order" with | true=>exact .inl rfl | false=>exact .inr (by rw [hled,hw]; rfl), .inr rfl⟩,(fun e he=>by simp at he), .nil, .refl _⟩
    ·intro h' tk' hm hS'
     rw [hys] at hS'
     refine wpAny_pure (show wpAny _ _ (ret Value.none) _ _ _ from wpAny_pure ⟨rfl,h',tk',rfl,hS',fun b o hb e=> ?_⟩)
     refine hm b o (fun z=> ?_) (Heap.get?_push_of_some _ (hGk b o e))
     rcases List.mem_cons.mp z with z | z
     ·exact absurd z (Nat.ne_of_lt hb)
     ·have z' :b=G.objs.size:=List.mem_singleton.mp z
      rw [hGs] at z'
      exact absurd z' (Nat.ne_of_lt (Nat.lt_succ_of_lt hb))
   ·cases r₂ with
    | error e=>exact hr₂
    | ok fl₂=>
     cases fl₂ with
     | ret r=>
      obtain ⟨rfl,h',tk,rfl,hS',hk'⟩:=hr₂
      repeat any_goals (first | assumption | wp_step)
      exact h _ _ hS' hk'
     | _=>exact hr₂.elim
  | _=>exact hr.elim
end
theorem YK:∀ (ys acc:List Str),(dd acc ys).length<=acc.length+ys.length
 | [],acc=>Nat.le_refl _
 | y :: r,acc=>by
  unfold dd
  refine Nat.le_trans (YK r _) ?_
  split
  ·simp only [List.length_cons]; omega
  ·simp only [List.length_cons,List.length_append,List.length_nil]; omega
theorem Wd (a:Str):ltS a a=false:=by unfold ltS; simp
theorem YL {a b c:Str} (h:ltS a b=true) (k:ltS b c=true):ltS a c=true:=by
 unfold ltS at*
 simp only [decide_eq_true_eq] at*
 exact List.lt_trans h k
theorem UI {a b:Str} (h:ltS a b=false) (k:ltS b a=false):a=b:=by
 unfold ltS at*
 simp only [decide_eq_false_iff_not] at*
 have e:=List.le_antisymm (List.not_lt.mp k) (List.not_lt.mp h)
 obtain ⟨⟨x⟩⟩:=a
 obtain ⟨⟨y⟩⟩:=b
 simp at e
 rw [e]
theorem jQ (x:Str):∀ ys:List Str,(Q8 x ys).Perm (x :: ys)
 | []=> .refl _
 | y :: ys=>by
  unfold Q8
  split
  ·exact ((jQ x ys).cons y).trans (.swap x y ys)
  ·exact .refl _
theorem jR:∀ xs:List Str,(ug xs).Perm xs
 | []=> .refl _
 | x :: xs=>(jQ x (ug xs)).trans ((jR xs).cons x)
def nlt (a b:Str):Prop:=ltS b a=false
theorem YM {a b c:Str} (h:nlt a b) (k:nlt b c):nlt a c:=by
 unfold nlt at*
 cases e:ltS c a with
 | false=>rfl
 | true=>
  cases e2:ltS a b with
  | true=>rw [YL e e2] at k; cases k
  | false=>rw [UI e2 h] at e; rw [e] at k; cases k
theorem jS (x:Str):∀ ys:List Str,ys.Pairwise nlt->(Q8 x ys).Pairwise nlt
 | [],_=>by unfold Q8; simp
 | y :: ys,h=>by
  unfold Q8
  rw [List.pairwise_cons] at h
  split
  ·rename_i hx
   refine List.pairwise_cons.mpr ⟨fun z hz=> ?_,jS x ys h.2⟩
   rcases List.mem_cons.mp ((jQ x ys).mem_iff.mp hz) with rfl | hz
   ·show ltS z y=false
    cases e:ltS z y with
    | false=>rfl
    | true=>have:=YL hx e; rw [Wd] at this; cases this
   ·exact h.1 z hz
  ·rename_i hx
   have hx:nlt x y:=by show ltS y x=false; simpa using hx
   refine List.pairwise_cons.mpr ⟨fun z hz=> ?_,List.pairwise_cons.mpr h⟩
   rcases List.mem_cons.mp hz with rfl | hz
   ·exact hx
   ·exact YM hx (h.1 z hz)
theorem jT:∀ xs:List Str,(ug xs).Pairwise nlt
 | []=> .nil
 | x :: xs=>jS x _ (jT xs)
theorem Ju:∀ (xs ys:List Str),xs.Perm ys->xs.Pairwise nlt->ys.Pairwise nlt->xs=ys
 | [],ys,p,_,_=>(List.nil_perm.mp p).symm
 | x :: xs,[],p,_,_=>by cases List.perm_nil.mp p
 | x :: xs,y :: ys,p,h1,h2=>by
  rw [List.pairwise_cons] at h1 h2
  have e:x=y:=by
   have a1:nlt x y:=by
    rcases List.mem_cons.mp (p.mem_iff.mpr (List.mem_cons_self (a:=y) (l:=ys))) with z | z
    ·rw [z]; exact Wd x
    ·exact h1.1 y z
   have a2:nlt y x:=by
    rcases List.mem_cons.mp (p.mem_iff.mp (List.mem_cons_self (a:=x) (l:=xs))) with z | z
    ·rw [z]; exact Wd y
    ·exact h2.1 x z
   exact UI a2 a1
  subst e
  rw [Ju xs ys (List.Perm.cons_inv p) h1.2 h2.2]
theorem jU:∀ (l:List Str) (p:Str),risingS p l=true->(p :: l).Pairwise nlt
 | [],p,_=>by simp
 | x :: r,p,h=>by
  have h:(!ltCps x.cps.toList p.cps.toList && risingS x r)=true:=h
  rw [Bool.and_eq_true] at h
  have h2:=jU r x h.2
  have h1:nlt p x:=by
   have:=h.1
   rw [ltCps_eq] at this
   show decide (x.cps.toList < p.cps.toList)=false
   simpa using this
  refine List.pairwise_cons.mpr ⟨fun z hz=> ?_,h2⟩
  rcases List.mem_cons.mp hz with rfl | hz
  ·exact h1
  ·exact YM h1 ((List.pairwise_cons.mp h2).1 z hz)
theorem We:∀ (l:List Str),sortedS l=true->l.Pairwise nlt
 | [],_=> .nil
 | x :: r,h=>jU r x h
theorem UJ:∀ {its:List Value} {ns:List Str},StrsAre its ns->Z3 (ns.map V.str) its:=by
 intro its ns h
 induction h with
 | nil=>exact .nil
 | cons n t _ ih=>exact .cons ⟨_,rfl⟩ ih
theorem Yb:∀ {ts:List T} {ys:List Str},JI ts=some ys->ys.length=ts.length:=by
 intro ts
 induction ts with
 | nil=>intro ys h; cases h; rfl
 | cons t ts ih=>
  intro ys h
  cases t with
  | str x=>
   unfold JI at h
   split at h
   ·rename_i l e
    cases h
    simp [ih e]
   ·cases h
  | _=>cases h
theorem wK {H:Hp}:∀ ns:List Str,zB H (ns.map V.str) (ns.map T.str)
 | []=> .nil
 | n :: ns=> .cons (.str n) (wK ns)
section
variable {prog:Program} {w:World} {A:Around} {E:Value->Shared->Prop} {s:Shared} {S:Addr}
theorem ul {acc:List Str} {Q:Value->Shared->Prop} (hh:A.handled=none) (hS:uA prog w s.heap S acc) (hb:acc.length < 64)
  (h:∀ (h' :Heap) (tk:Nat) (d:Drawn) (r:Addr) (vs:List Value) (n:Nat),(∀ b o,s.heap.get? b=some o->h'.get? b=some o)->s.heap.objs.size<=r->StrsAre vs (ug acc)->h'.get? r=some (seqObj "list" vs.toArray n)->Q (.ref r) { s with heap:=h',drawn:=d,toks:=tk }):
  wpAny (model prog w) A (call (.builtin "sorted") [.ref S]) Q E s:=by
 obtain ⟨es,ep,t,ps,hw,el,hs,hp⟩:=hS
 have hz:es.size=acc.length:=by
  have h1:=JN hs
  rw [List.length_map,Array.length_toList] at h1
  rw [h1,hp.length_eq]
 refine Calls.call_function_entry kind_sorted plain_sorted entry_sorted (args_sorted1 _) ?_
 unfold Builtin.«sorted»
 refine wpAny_bind (m:=checkCount "sorted" 1 1 _) (wpAny_pure ?_)
 refine wpAny_bind (uj (A:=A.in1) hh hw (by omega) fun h1 tk d vs k1 z1 pv=> ?_)
 obtain ⟨qs,q1,q2⟩:=wJ pv hs
 have hl:vs.length=acc.length:=by rw [JN q1,q2.length_eq,hp.length_eq]
 refine wpAny_bind (wpAny_newList ?_ (by rw [hl,sizeLine_eq]; show acc.length<=16777216; omega))
 have g1:(h1.push { cls:= .type "list",data:= .seq vs.toArray }).get? h1.objs.size=some (seqObj "list" vs.toArray 0):=Heap.get?_push_size _ rfl
 refine wpAny_bind (wpAny_holding (wpAny_call_entry slot_list_sort ⟨_,g1,rfl⟩ entry_list_sort (list_sort_treeK strKind_oneLt g1 q1.keysOf (fun v₁ v₂ rest e=>keyKind_strs (by rw [← e]; exact q1)) (by omega) fun st' a1 a2=>⟨_,rfl, ?_⟩) (args_list_sort _)))
 obtain ⟨ss',b1,b2,b3⟩:=sorted_out_str q1 a1 a2
 have e:ss' =ug acc:=Ju _ _ (b2.trans (q2.trans (hp.trans (jR acc).symm))) (We _ b3) (jT acc)
 rw [e] at b1
 obtain ⟨n,g2⟩:=sortedHeap_at (out:=(arrOf st').map (·.2)) g1
 refine wpAny_pure ⟨_,rfl,h _ tk d h1.objs.size ((arrOf st').map (·.2)).toList n (fun b o e=> ?_) ?_ b1 ?_⟩
 ·have e1:=k1 b o e
  have lt1:=Heap.lt_size e1
  exact (sortedHeap_old (Nat.ne_of_lt lt1) (by rw [size_push']; exact Nat.lt_succ_of_lt lt1)).trans (Heap.get?_push_of_some _ e1)
 ·exact z1
 ·rw [Array.toArray_toList]; exact g2
end
section
variable {X:Cx} {Y:Fx} {a b:Expr} {fa fb:En->R T} {pos pos' p p' :Pos}
theorem UK (hh:X.A.handled=none):Zr X (.type "set") (fun vs H Q=>∃ l xs ts ys,vs=[.ref l]/\H l=some (.lst xs)/\zB H xs ts/\JI ts=some ys/\ts.length < 64/\
  ∀ q,H q=none->Q (.ref q) (upd H q (.ext fun h=>uA X.prog X.w h q (dd [] ys)))):=by
 intro pins s σ H vs us Q I rv h
 obtain ⟨l,xs,ts,ys,rfl,hl,r,ey,hb,q⟩:=h
 obtain ⟨u,rfl,ru⟩:=ZQ rv
 obtain rfl:u=Value.ref l:=ru
 obtain ⟨its,rv,pl,hln,_⟩:=zw I (.inl hl) r
 refine uk hh pl (jw r rv ey) (by unfold scanBound; omega) fun h' tk hS hk=> ?_
 refine ⟨.ref s.heap.objs.size,_,I.laid (t' :=tk) (fun b u e=>hk b u (Heap.lt_size e) e) (Nat.le_refl _) ?_,rfl,q _ (I.hok.fresh (Nat.le_refl _))⟩
 obtain ⟨es,ep,t,ps,hw,_⟩:=id hS
 exact ⟨hS,⟨_,hw.at_⟩,fun h1 h2 x e=>x.keep e⟩
theorem um (hh:X.A.handled=none):Zr X (.builtin "sorted") (fun vs H Q=>∃ q φ acc,vs=[.ref q]/\H q=some (.ext φ)/\(∀ h:Heap,φ h->uA X.prog X.w h q acc)/\acc.length < 64/\∀ r,H r=none->Q (.ref r) (upd H r (.lst ((ug acc).map V.str)))):=by
 intro pins s σ H vs us Q I rv h
 obtain ⟨l,φ,acc,rfl,hl,hφ,hn,q⟩:=h
 obtain ⟨u,rfl,ru⟩:=ZQ rv
 obtain rfl:u=Value.ref l:=ru
 obtain ⟨h1,_,_⟩:=(show Zm X.prog X.w H s.heap l (.ext φ) from I.hok l _ hl)
 refine ul hh (hφ _ h1) hn fun h' tk d r vs n k z1 hv g=> ?_
 have I2:Inv X pins σ H { s with drawn:=d }:=⟨I.ok,I.os,I.bare,I.base,I.loc,I.cell,I.free,I.freeC,I.pin,I.hok,I.len⟩
 refine ⟨.ref r,upd H r (.lst ((ug acc).map V.str)),Inv.laid (s:={ s with drawn:=d }) (t' :=tk) I2 k z1 ?_,rfl,q _ (I.hok.fresh z1)⟩
 have hl2:(ug acc).length=acc.length:=(jR acc).length_eq
 exact ⟨by rw [List.length_map,sizeLine_eq]; show (ug acc).length<=16777216; omega,vs,n,UJ hv,g⟩
theorem YN (hh:X.A.handled=none) (gl:Gl X "sorted") (mg:X.mg "sorted"=none) (gl' :Gl X "set") (mg' :X.mg "set"=none) (ha:jc X Y a fa) (hs:St1 X a:=by exact st1 rfl) (hs' :St1 X (.Call (.Name "set" p') [a] [] pos'):=by exact st1 rfl):
  Snd X Y (.Call (.Name "sorted" p) [.Call (.Name "set" p') [a] [] pos'] [] pos) (ap1 uh fa):= .mk fun ρ=>
 PE.imp (j0 (um hh) gl mg PyProof.Rows.Boot.«sorted» (zt (ZS (UK hh) gl' mg' PyProof.Rows.Boot.«set» (zt (ha ρ) Zf hs) (by decide) (by decide) hs rfl) Zf hs') (by decide) (by decide) hs' rfl) fun σ H Q ⟨B,I,q⟩=>
  step I q fun t v H1 _ s1 r1 I1 q1=>by
   cases r1 with
   | @lst l xs ts h r=>
    have q1:Po Y rC _ H1 (match JI ts with | some ys=>if ts.length < 64 then .ok (.lst ((ug (dd [] ys)).map T.str)) else .bad | none=> .bad) Q:=q1
    split at q1
    ·rename_i ys e
     split at q1
     ·rename_i hl
      have hn:(dd [] ys).length < 64:=by
       have h1:=YK ys []
       have h2:=Yb e
       simp only [List.length_nil] at h1
       omega
      refine ⟨l,xs,ts,ys,rfl,h,r,e,hl,fun z hz=>⟨z,_,_,rfl,zA,fun h hh=>hh,hn,fun r hr=> ?_⟩⟩
      have hrz:r ≠ z:=fun e=>by rw [e,zA] at hr; cases hr
      have hr1:H1 r=none:=by rw [zo hrz] at hr; exact hr
      exact q1 _ _ (fun b o hb=>by
       have n1:b ≠ z:=fun e=>by rw [e,hz] at hb; cases hb
       have n2:b ≠ r:=fun e=>by rw [e,hr1] at hb; cases hb
       rw [zo n2,zo n1]; exact hb) (.lst (by rw [Zd hr1,zA]) (wK _))
     ·exact q1.elim
    ·exact q1.elim
   | _=>exact q1.elim
end
end PV
namespace G
open PySem PySem.Spec PyProof.Rows L2 PV
def b_u:En->RS:=
  zC (ifS (Z8 ltC (vB 1) (ap1 Jk (vB 0))) (zW (zb ixT (vE 0) (vE 1))) (nxS))
  (zC (ifS (Z8 eqC (vB 0) (Jh (zc))) (zW (cE (.int 0))) (nxS))
  (zW (zb zu (zb zP (zb ixT (vE 0) (zb wv (vE 1) (ap1 Jk (vB 0)))) (cE (.int 31))) (vE 1))))
def f_u:List T->R T:=fun ts=>zh (b_u  (en0 2 ts))
def b_4 (c_u:List T->R T):En->RS:=
  zC (Zy 3 (zb wv (zb zP (zb zu (za 2 c_u (z3 (vE 0) (z3 (vE 1) (zc)))) (zb zP (cE (.int 6151)) (zb zu (vE 1) (cE (.int 1))))) (cE (.int 40692))) (cE (.int 2147483399))))
  (zW (zb wv (zb wv (zb zu (zb zP (vE 3) (vE 3)) (zb u9 (vE 3) (cE (.int 31)))) (cE (.int 2147483629))) (vE 2)))
def f_4:List T->R T:=fun ts=>zh (b_4 (f_u) (en0 4 ts))
def b_m (c_4:List T->R T):En->RS:=
  zC (Zy 2 (cE (.str "abcdefghijklmnopqrstuvwxyz")))
  (zC (ifS (Z8 gtC (za 3 c_4 (z3 (vE 0) (z3 (vE 1) (z3 (cE (.int 6)) (zc))))) (cE (.int 0))) (zW (zb ixT (Jh (z3 (cE (.str "a")) (z3 (cE (.str "b")) (z3 (cE (.str "ab")) (z3 (cE (.str "cab")) (zc)))))) (za 3 c_4 (z3 (vE 0) (z3 (zb zu (vE 1) (cE (.int 1))) (z3 (cE (.int 4)) (zc))))))) (nxS))
  (zW (ap1 (vw "") (zY (jf (zb zu (cE (.int 1)) (za 3 c_4 (z3 (vE 0) (z3 (zb zu (vE 1) (cE (.int 1))) (z3 (cE (.int 3)) (zc))))))) (zr 0) (zO) (zb ixT (vE 3) (za 3 c_4 (z3 (vE 1) (z3 (zb zu (zb zu (vE 2) (cE (.int 2))) (vE 0)) (z3 (cE (.int 26)) (zc)))))) 1 [0,1,2]))))
def f_m:List T->R T:=fun ts=>zh (b_m (f_4) (en0 3 ts))
def b_j (c_4:List T->R T) (c_m:List T->R T):En->RS:=
  zC (ifS (Z8 gtC (za 3 c_4 (z3 (vE 0) (z3 (vE 1) (z3 (cE (.int 3)) (zc))))) (cE (.int 0))) (zC (Zy 2 (zb yL (za 3 c_4 (z3 (vE 0) (z3 (zb zu (vE 1) (cE (.int 1))) (z3 (cE (.int 7)) (zc))))) (cE (.int 3))))
  (zC (ifS (Z8 eqC (za 3 c_4 (z3 (vE 0) (z3 (zb zu (vE 1) (cE (.int 3))) (z3 (cE (.int 8)) (zc))))) (cE (.int 0))) (Zy 2 (zb ixT (Jh (z3 (yv (cE (.int 20))) (z3 (cE (.int 17)) (z3 (cE (.int 20)) (zc))))) (za 3 c_4 (z3 (vE 0) (z3 (zb zu (vE 1) (cE (.int 4))) (z3 (cE (.int 3)) (zc))))))) (nxS))
  (zW (Z4 (z3 (cE (.str "whole")) (z3 (vE 2) (z3 (zb ud (cE (.int 20)) (zb zu (vE 2) (za 3 c_4 (z3 (vE 0) (z3 (zb zu (vE 1) (cE (.int 2))) (z3 (cE (.int 4)) (zc))))))) (zc)))))))) (nxS))
  (zC (uz 3 (zc))
  (zC (jk (jf (zb zu (cE (.int 1)) (za 3 c_4 (z3 (vE 0) (z3 (zb zu (vE 1) (cE (.int 1))) (z3 (cE (.int 4)) (zc))))))) (zr 4) (zC (Zy 5 (za 2 c_m (z3 (vE 0) (z3 (zb zu (zb zu (vE 1) (cE (.int 5))) (zb zP (cE (.int 5)) (vE 4))) (zc)))))
  (ifS (Z8 yR (vB 5) (vB 3)) (Vc 3 (vE 5)) (nxS))))
  (zW (Z4 (z3 (cE (.str "pick")) (z3 (ap1 Vb (zY (qY (vE 3)) (zQ 0 1) (zO) (Z4 (z3 (vE 1) (z3 (zb zu (cE (.int 1)) (za 3 c_4 (z3 (vE 2) (z3 (zb zu (zb zu (vE 3) (cE (.int 30))) (vE 0)) (z3 (cE (.int 20)) (zc)))))) (zc)))) 2 [0,1])) (zc)))))))
def f_j:List T->R T:=fun ts=>zh (b_j (f_4) (f_m) (en0 6 ts))
def b_9 (c_4:List T->R T) (c_j:List T->R T) (c_9:List T->R T):En->RS:=
  zC (Zy 3 (za 3 c_4 (z3 (vE 0) (z3 (vE 1) (z3 (cE (.int 5)) (zc))))))
  (zC (ifS (orT (Z8 eqC (vB 2) (cE (.int 1))) (Z8 ltC (vB 3) (cE (.int 2)))) (zW (za 2 c_j (z3 (vE 0) (z3 (zb zu (vE 1) (cE (.int 1))) (zc))))) (nxS))
  (zC (ifS (Z8 ltC (vB 3) (cE (.int 4))) (zC (Zy 4 (zY (jf (zb zu (cE (.int 1)) (za 3 c_4 (z3 (vE 0) (z3 (zb zu (vE 1) (cE (.int 1))) (z3 (cE (.int 3)) (zc))))))) (zr 0) (zO) (za 3 c_9 (z3 (vE 1) (z3 (zb zu (zb zu (zb zP (cE (.int 3)) (vE 2)) (cE (.int 40))) (zb zP (cE (.int 50)) (vE 0))) (z3 (zb yL (vE 3) (cE (.int 1))) (zc))))) 1 [0,1,2]))
  (zW (Z4 (z3 (cE (.str "row")) (z3 (ap1 Vb (vE 4)) (zc)))))) (nxS))
  (zC (Zy 5 (za 3 c_4 (z3 (vE 0) (z3 (zb zu (vE 1) (cE (.int 1))) (z3 (cE (.int 3)) (zc))))))
  (zW (Z4 (z3 (cE (.str "many")) (z3 (za 3 c_9 (z3 (vE 0) (z3 (zb zu (zb zP (cE (.int 3)) (vE 1)) (cE (.int 40))) (z3 (zb yL (vE 2) (cE (.int 1))) (zc))))) (z3 (vE 5) (z3 (zb ud (cE (.int 3)) (zb zu (vE 5) (za 3 c_4 (z3 (vE 0) (z3 (zb zu (vE 1) (cE (.int 2))) (z3 (cE (.int 3)) (zc))))))) (zc))))))))))
def S_9:Nat->Nat->List T->R T
 | 0,_=>fun _=> .bad
 | n+1,_=>fun ts=>zh (b_9 (f_4) (f_j) (S_9 n 0) (en0 6 ts))
abbrev f_9 (n:Nat):List T->R T:=S_9 n 0
def b_c:En->RS:=
  zC (Zy 1 (Jh (z3 (Z4 (zc)) (zc))))
  (zC (jk (ZD (vE 0)) (zr 2) (zC (uz 3 (zc))
  (zC (jk (ZD (vE 1)) (zr 4) (W0 3 (zY (ZD (vE 2)) (zr 0) (zO) (zb zu (vE 1) (Z4 (z3 (vE 0) (zc)))) 1 [4])))
  (mvS 1 3))))
  (zW (vE 1)))
def f_c:List T->R T:=fun ts=>zh (b_c  (en0 5 ts))
def b_7 (c_7:List T->R T) (c_c:List T->R T):En->RS:=
  zC (ifS (Z8 eqC (zb ixT (vE 0) (cE (.int 0))) (cE (.str "whole"))) (zW (Ve (Jl (zb ixT (vE 0) (cE (.int 1))) (zb zu (zb ixT (vE 0) (cE (.int 2))) (cE (.int 1)))))) (nxS))
  (zC (ifS (Z8 eqC (zb ixT (vE 0) (cE (.int 0))) (cE (.str "pick"))) (zW (zY (ZD (zb ixT (vE 0) (cE (.int 1)))) (zQ 0 1) (zO) (vE 0) 2 [])) (nxS))
  (zC (ifS (Z8 eqC (zb ixT (vE 0) (cE (.int 0))) (cE (.str "row"))) (zW (za 1 c_c (z3 (zY (ZD (zb ixT (vE 0) (cE (.int 1)))) (zr 0) (zO) (za 1 c_7 (z3 (vE 0) (zc))) 1 []) (zc)))) (nxS))
  (zC (uz 1 (zc))
  (zC (jk (Jl (zb ixT (vE 0) (cE (.int 2))) (zb zu (zb ixT (vE 0) (cE (.int 3))) (cE (.int 1)))) (zr 2) (W0 1 (za 1 c_c (z3 (zb zP (Jh (z3 (za 1 c_7 (z3 (zb ixT (vE 0) (cE (.int 1))) (zc))) (zc))) (vE 2)) (zc)))))
  (zW (vE 1))))))
def S_7:Nat->Nat->List T->R T
 | 0,_=>fun _=> .bad
 | n+1,_=>fun ts=>zh (b_7 (S_7 n 0) (f_c) (en0 3 ts))
abbrev f_7 (n:Nat):List T->R T:=S_7 n 0
def b_a (c_7:List T->R T) (c_a:List T->R T):En->RS:=
  zC (ifS (Z8 inC (zb ixT (vE 0) (cE (.int 0))) (Z4 (z3 (cE (.str "whole")) (z3 (cE (.str "pick")) (zc))))) (zW (ap1 Jk (za 1 c_7 (z3 (vE 0) (zc))))) (nxS))
  (zC (Zy 1 (ifE (Z8 eqC (zb ixT (vE 0) (cE (.int 0))) (cE (.str "row"))) (zY (ZD (zb ixT (vE 0) (cE (.int 1)))) (zr 0) (zO) (za 1 c_a (z3 (vE 0) (zc))) 1 []) (Jh (zc))))
  (zC (Zy 2 (cE (.int 1)))
  (zC (jk (ZD (vE 1)) (zr 3) (Zy 2 (zb zP (vE 2) (vE 3))))
  (zC (ifS (Z8 eqC (zb ixT (vE 0) (cE (.int 0))) (cE (.str "many"))) (zC (Zy 4 (za 1 c_a (z3 (zb ixT (vE 0) (cE (.int 1))) (zc))))
  (zC (Zy 2 (zb zu (ap1 wb (wX eqC (zb ixT (vE 0) (cE (.int 2))) (cE (.int 0)))) (zb zP (vE 4) (ap1 wb (chE leC leC (zb ixT (vE 0) (cE (.int 2))) (cE (.int 1)) (zb ixT (vE 0) (cE (.int 3))))))))
  (zC (Zy 2 (zb zu (vE 2) (zb zP (zb zP (vE 4) (vE 4)) (ap1 wb (chE leC leC (zb ixT (vE 0) (cE (.int 2))) (cE (.int 2)) (zb ixT (vE 0) (cE (.int 3))))))))
  (Zy 2 (zb zu (vE 2) (zb zP (zb zP (zb zP (vE 4) (vE 4)) (vE 4)) (ap1 wb (wX eqC (zb ixT (vE 0) (cE (.int 3))) (cE (.int 3)))))))))) (nxS))
  (zW (vE 2))))))
def S_a:Nat->Nat->List T->R T
 | 0,_=>fun _=> .bad
 | n+1,_=>fun ts=>zh (b_a (f_7 8) (S_a n 0) (en0 5 ts))
abbrev f_a (n:Nat):List T->R T:=S_a n 0
def b_l (c_9:List T->R T) (c_a:List T->R T):En->RS:=
  zC (Zy 3 (za 3 c_9 (z3 (vE 0) (z3 (vE 1) (z3 (cE (.int 3)) (zc))))))
  (zC (jk (jf (cE (.int 3))) (zr 4) (zC (ifS (Z8 leC (za 1 c_a (z3 (vE 3) (zc))) (vB 2)) (zW (vE 3)) (nxS))
  (Zy 3 (za 3 c_9 (z3 (vE 0) (z3 (zb zu (zb zu (vE 1) (cE (.int 500))) (zb zP (cE (.int 700)) (vE 4))) (z3 (cE (.int 2)) (zc))))))))
  (zW (ifE (Z8 leC (za 1 c_a (z3 (vE 3) (zc))) (vB 2)) (vE 3) (Z4 (z3 (cE (.str "whole")) (z3 (yv (cE (.int 1))) (z3 (cE (.int 2)) (zc))))))))
def f_l:List T->R T:=fun ts=>zh (b_l (f_9 8) (f_a 8) (en0 5 ts))
def b_i:En->RS:=
  zW (wY (ap1 (yW "int") (vB 0)) (xr (ap1 (yW "bool") (vB 0))))
def f_i:List T->R T:=fun ts=>zh (b_i  (en0 1 ts))
def b_r (c_i:List T->R T):En->RS:=
  zW (wY (za 1 c_i (z3 (vE 0) (zc))) (wY (za 1 c_i (z3 (vE 1) (zc))) (xp leC leC leC (vB 2) (vB 0) (vB 1) (vB 3))))
def f_r:List T->R T:=fun ts=>zh (b_r (f_i) (en0 4 ts))
def b_h:En->RS:=
  zW (wY (ap1 (yW "tuple") (vB 0)) (chE leC leC (vB 1) (ap1 Jk (vB 0)) (vB 2)))
def f_h:List T->R T:=fun ts=>zh (b_h  (en0 3 ts))
def b_p:En->RS:=
  zC (ifS (orT (yU (yw (ap1 (yW "str") (vB 0)))) (yU (chT leC leC (cE (.int 1)) (ap1 Jk (vB 0)) (cE (.int 3))))) (zW (cE (.bl false))) (nxS))
  (zW (ap1 qQ (zY (ZD (vE 0)) (zr 0) (zO) (chE leC leC (cE (.str "a")) (vB 0) (cE (.str "z"))) 1 [])))
def f_p:List T->R T:=fun ts=>zh (b_p  (en0 1 ts))
def b_o (c_i:List T->R T) (c_h:List T->R T) (c_p:List T->R T):En->RS:=
  zW (wY (za 3 c_h (z3 (vE 0) (z3 (cE (.int 2)) (z3 (cE (.int 2)) (zc))))) (wY (za 1 c_p (z3 (zb ixT (vE 0) (cE (.int 0))) (zc))) (wY (za 1 c_i (z3 (zb ixT (vE 0) (cE (.int 1))) (zc))) (chE leC leC (cE (.int 1)) (zb ixT (vE 0) (cE (.int 1))) (cE (.int 20))))))
def f_o:List T->R T:=fun ts=>zh (b_o (f_i) (f_h) (f_p) (en0 1 ts))
def b_k (c_h:List T->R T) (c_o:List T->R T):En->RS:=
  zC (ifS (orT (yU (yw (za 3 c_h (z3 (vE 0) (z3 (cE (.int 1)) (z3 (cE (.int 4)) (zc))))))) (yU (yw (ap1 qQ (zY (ZD (vE 0)) (zr 0) (zO) (za 1 c_o (z3 (vE 0) (zc))) 1 []))))) (zW (cE (.bl false))) (nxS))
  (zC (Zy 1 (zY (ZD (vE 0)) (zr 0) (zO) (zb ixT (vE 0) (cE (.int 0))) 1 []))
  (zW (wX eqC (ap1 Y5 (vB 1)) (ap1 Jk (vB 1)))))
def f_k:List T->R T:=fun ts=>zh (b_k (f_h) (f_o) (en0 2 ts))
def b_b (c_r:List T->R T) (c_b:List T->R T) (c_k:List T->R T) (c_s:List T->R T):En->RS:=
  zC (ifS (orT (Z8 eqC (vB 1) (cE (.int 0))) (orT (yU (yw (ap1 (yW "tuple") (vB 0)))) (Z8 eqC (ap1 Jk (vB 0)) (cE (.int 0))))) (zW (cE (.bl false))) (nxS))
  (zC (ifS (Z8 eqC (zb ixT (vE 0) (cE (.int 0))) (cE (.str "whole"))) (zW (wY (wX eqC (ap1 Jk (vB 0)) (cE (.int 3))) (za 4 c_r (z3 (zb ixT (vE 0) (cE (.int 1))) (z3 (zb ixT (vE 0) (cE (.int 2))) (z3 (yv (cE (.int 20))) (z3 (cE (.int 20)) (zc)))))))) (nxS))
  (zC (ifS (Z8 eqC (zb ixT (vE 0) (cE (.int 0))) (cE (.str "pick"))) (zW (wY (wX eqC (ap1 Jk (vB 0)) (cE (.int 2))) (za 1 c_k (z3 (zb ixT (vE 0) (cE (.int 1))) (zc))))) (nxS))
  (zC (ifS (Z8 eqC (zb ixT (vE 0) (cE (.int 0))) (cE (.str "row"))) (zW (wY (wX eqC (ap1 Jk (vB 0)) (cE (.int 2))) (za 2 c_s (z3 (zb ixT (vE 0) (cE (.int 1))) (z3 (zb yL (vE 1) (cE (.int 1))) (zc)))))) (nxS))
  (zC (ifS (Z8 eqC (zb ixT (vE 0) (cE (.int 0))) (cE (.str "many"))) (zW (wY (wX eqC (ap1 Jk (vB 0)) (cE (.int 4))) (wY (za 4 c_r (z3 (zb ixT (vE 0) (cE (.int 2))) (z3 (zb ixT (vE 0) (cE (.int 3))) (z3 (cE (.int 0)) (z3 (cE (.int 3)) (zc)))))) (za 2 c_b (z3 (zb ixT (vE 0) (cE (.int 1))) (z3 (zb yL (vE 1) (cE (.int 1))) (zc))))))) (nxS))
  (zW (cE (.bl false)))))))
def b_s (c_h:List T->R T) (c_b:List T->R T):En->RS:=
  zW (wY (za 3 c_h (z3 (vE 0) (z3 (cE (.int 1)) (z3 (cE (.int 3)) (zc))))) (ap1 qQ (zY (ZD (vE 0)) (zr 0) (zO) (za 2 c_b (z3 (vE 0) (z3 (vE 1) (zc)))) 1 [1])))
def S_b:Nat->Nat->List T->R T
 | 0,_=>fun _=> .bad
 | n+1,0=>fun ts=>zh (b_b (f_r) (S_b n 0) (f_k) (S_b n 1) (en0 2 ts))
 | n+1,_=>fun ts=>zh (b_s (f_h) (S_b n 0) (en0 2 ts))
abbrev f_b (n:Nat):List T->R T:=S_b n 0
abbrev f_s (n:Nat):List T->R T:=S_b n 1
def b_3 (c_b:List T->R T):En->RS:=
  zW (za 2 c_b (z3 (vE 0) (z3 (cE (.int 3)) (zc))))
def f_3:List T->R T:=fun ts=>zh (b_3 (f_b 20) (en0 1 ts))
def b_f (c_3:List T->R T):En->RS:=
  ifS (yU (yw (za 1 c_3 (z3 (vE 0) (zc))))) (YF 0) (nxS)
def f_f:List T->R T:=fun ts=>zh (b_f (f_3) (en0 1 ts))
def b_2 (c_2:List T->R T) (c_t:List T->R T):En->RS:=
  zC (ifS (Z8 eqC (zb ixT (vE 0) (cE (.int 0))) (cE (.str "whole"))) (zW (Z4 (z3 (zb ixT (vE 0) (cE (.int 1))) (z3 (zb ixT (vE 0) (cE (.int 2))) (zc))))) (nxS))
  (zC (ifS (Z8 eqC (zb ixT (vE 0) (cE (.int 0))) (cE (.str "pick"))) (zW (Z4 (z3 (cE (.int 0)) (z3 (cE (.int 0)) (zc))))) (nxS))
  (zC (ifS (Z8 eqC (zb ixT (vE 0) (cE (.int 0))) (cE (.str "row"))) (zC (Zy 1 (zY (ZD (zb ixT (vE 0) (cE (.int 1)))) (zr 0) (zO) (za 1 c_2 (z3 (vE 0) (zc))) 1 []))
  (zW (Z4 (z3 (ap1 vA (zY (ZD (vE 1)) (zQ 0 1) (zO) (vE 0) 2 [])) (z3 (ap1 vA (zY (ZD (vE 1)) (zQ 0 1) (zO) (vE 1) 2 [])) (zc)))))) (nxS))
  (zW (za 1 c_t (z3 (vE 0) (zc))))))
def b_t (c_2:List T->R T):En->RS:=
  zC (Zy 1 (za 1 c_2 (z3 (zb ixT (vE 0) (cE (.int 1))) (zc))))
  (zW (Z4 (z3 (zb ud (zb zP (zb ixT (vE 0) (cE (.int 2))) (zb ixT (vE 1) (cE (.int 0)))) (zb zP (zb ixT (vE 0) (cE (.int 3))) (zb ixT (vE 1) (cE (.int 0))))) (z3 (zb Q7 (zb zP (zb ixT (vE 0) (cE (.int 2))) (zb ixT (vE 1) (cE (.int 1)))) (zb zP (zb ixT (vE 0) (cE (.int 3))) (zb ixT (vE 1) (cE (.int 1))))) (zc)))))
def S_2:Nat->Nat->List T->R T
 | 0,_=>fun _=> .bad
 | n+1,0=>fun ts=>zh (b_2 (S_2 n 0) (S_2 n 1) (en0 2 ts))
 | n+1,_=>fun ts=>zh (b_t (S_2 n 0) (en0 2 ts))
abbrev f_2 (n:Nat):List T->R T:=S_2 n 0
abbrev f_t (n:Nat):List T->R T:=S_2 n 1
def b_1 (c_f:List T->R T) (c_2:List T->R T):En->RS:=
  zC (ue (za 1 c_f (z3 (vE 0) (zc))))
  (zW (za 1 c_2 (z3 (vE 0) (zc))))
def f_1:List T->R T:=fun ts=>zh (b_1 (f_f) (f_2 8) (en0 1 ts))
def b_d (c_d:List T->R T):En->RS:=
  zC (ifS (Z8 inC (zb ixT (vE 0) (cE (.int 0))) (Z4 (z3 (cE (.str "whole")) (z3 (cE (.str "pick")) (zc))))) (zW (Z4 (z3 (cE (.int 1)) (z3 (ifE (Z8 eqC (zb ixT (vE 0) (cE (.int 0))) (cE (.str "pick"))) (zY (ZD (zb ixT (vE 0) (cE (.int 1)))) (zQ 0 1) (zO) (vE 0) 2 []) (Jh (zc))) (zc))))) (nxS))
  (zC (Zy 1 (zY (ZD (ifE (Z8 eqC (zb ixT (vE 0) (cE (.int 0))) (cE (.str "row"))) (zb ixT (vE 0) (cE (.int 1))) (Jh (z3 (zb ixT (vE 0) (cE (.int 1))) (zc))))) (zr 0) (zO) (za 1 c_d (z3 (vE 0) (zc))) 1 []))
  (zC (uz 2 (zc))
  (zC (jk (ZD (vE 1)) (zQ 3 4) (W0 2 (vE 4)))
  (zW (Z4 (z3 (zb zu (cE (.int 1)) (ap1 uf (zY (ZD (vE 1)) (zQ 0 1) (zO) (vE 0) 2 []))) (z3 (vE 2) (zc))))))))
def S_d:Nat->Nat->List T->R T
 | 0,_=>fun _=> .bad
 | n+1,_=>fun ts=>zh (b_d (S_d n 0) (en0 5 ts))
abbrev f_d (n:Nat):List T->R T:=S_d n 0
def b_e (c_e:List T->R T):En->RS:=
  zC (ifS (yw (ap1 (yW "tuple") (vB 0))) (zW (ap1 vA (zY (ZD (vE 0)) (zr 0) (zO) (za 1 c_e (z3 (vE 0) (zc))) 1 []))) (nxS))
  (zW (ifE (yw (ap1 (yW "str") (vB 0))) (cE (.int 0)) (vE 0)))
def S_e:Nat->Nat->List T->R T
 | 0,_=>fun _=> .bad
 | n+1,_=>fun ts=>zh (b_e (S_e n 0) (en0 1 ts))
abbrev f_e (n:Nat):List T->R T:=S_e n 0
def b_8:En->RS:=
  zC (ifS (Z8 eqC (zb ixT (vE 0) (cE (.int 0))) (cE (.str "row"))) (zW (zb ixT (vE 0) (cE (.int 1)))) (nxS))
  (zC (ifS (Z8 eqC (zb ixT (vE 0) (cE (.int 0))) (cE (.str "many"))) (zW (Z4 (z3 (zb ixT (vE 0) (cE (.int 1))) (zc)))) (nxS))
  (zW (Z4 (zc))))
def f_8:List T->R T:=fun ts=>zh (b_8  (en0 1 ts))
def b_g (c_8:List T->R T) (c_g:List T->R T):En->RS:=
  zW (zb zu (cE (.int 1)) (Y6 (zY (ZD (za 1 c_8 (z3 (vE 0) (zc)))) (zr 0) (zO) (za 1 c_g (z3 (vE 0) (zc))) 1 []) (cE (.int 0))))
def S_g:Nat->Nat->List T->R T
 | 0,_=>fun _=> .bad
 | n+1,_=>fun ts=>zh (b_g (f_8) (S_g n 0) (en0 1 ts))
abbrev f_g (n:Nat):List T->R T:=S_g n 0
def b_6 (c_f:List T->R T) (c_g:List T->R T):En->RS:=
  zC (ue (za 1 c_f (z3 (vE 0) (zc))))
  (zW (za 1 c_g (z3 (vE 0) (zc))))
def f_6:List T->R T:=fun ts=>zh (b_6 (f_f) (f_g 8) (en0 1 ts))
def b_n:En->RS:=
  zW (zY (ZD (zb ixT (vE 0) (cE (.int 1)))) (zr 0) (zO) (zb ixT (vE 0) (cE (.int 0))) 1 [])
def f_n:List T->R T:=fun ts=>zh (b_n  (en0 1 ts))
def b_5 (c_n:List T->R T) (c_8:List T->R T) (c_5:List T->R T):En->RS:=
  zC (ifS (Z8 eqC (zb ixT (vE 0) (cE (.int 0))) (cE (.str "pick"))) (zW (za 1 c_n (z3 (vE 0) (zc)))) (nxS))
  (zC (uz 1 (zc))
  (zC (jk (ZD (za 1 c_8 (z3 (vE 0) (zc)))) (zr 2) (W0 1 (za 1 c_5 (z3 (vE 2) (zc)))))
  (zW (vE 1))))
def S_5:Nat->Nat->List T->R T
 | 0,_=>fun _=> .bad
 | n+1,_=>fun ts=>zh (b_5 (f_n) (f_8) (S_5 n 0) (en0 3 ts))
abbrev f_5 (n:Nat):List T->R T:=S_5 n 0
def b_q (c_f:List T->R T) (c_5:List T->R T):En->RS:=
  zC (ue (za 1 c_f (z3 (vE 0) (zc))))
  (zW (ap1 uh (za 1 c_5 (z3 (vE 0) (zc)))))
def f_q:List T->R T:=fun ts=>zh (b_q (f_f) (f_5 8) (en0 1 ts))
def b_0 (c_9:List T->R T) (c_7:List T->R T) (c_l:List T->R T) (c_6:List T->R T) (c_q:List T->R T) (c_1:List T->R T) (c_d:List T->R T) (c_e:List T->R T):En->RS:=
  zC (Zy 1 (za 3 c_l (z3 (vE 0) (z3 (cE (.int 0)) (z3 (cE (.int 100)) (zc))))))
  (zC (Zy 2 (za 3 c_9 (z3 (vE 0) (z3 (cE (.int 3000)) (z3 (cE (.int 3)) (zc))))))
  (zC (jk (ZD (Z4 (z3 (vE 1) (z3 (vE 2) (zc))))) (zr 3) (zC (YG (za 1 c_d (z3 (vE 3) (zc))) (zQ 4 5))
  (ifS (orT (Z8 neC (za 1 c_6 (z3 (vE 3) (zc))) (vB 4)) (Z8 neC (za 1 c_q (z3 (vE 3) (zc))) (ap1 uh (vB 5)))) (zW (cE (.bl false))) (nxS))))
  (zC (Zy 6 (zY (ZD (za 1 c_7 (z3 (vE 1) (zc)))) (zr 0) (zO) (za 1 c_e (z3 (vE 0) (zc))) 1 []))
  (zC (ifS (Z8 neC (za 1 c_1 (z3 (vE 1) (zc))) (Z4 (z3 (ap1 Us (vB 6)) (z3 (ap1 uf (vB 6)) (zc))))) (zW (cE (.bl false))) (nxS))
  (zC (YG (za 1 c_1 (z3 (vE 2) (zc))) (zQ 7 8))
  (zC (ifS (orT (Z8 gtC (vB 7) (vB 8)) (Va (Z8 ltC (vB 4) (cE (.int 3))) (Z8 neC (za 1 c_1 (z3 (Z4 (z3 (cE (.str "row")) (z3 (zb zP (Z4 (z3 (vE 2) (zc))) (cE (.int 2))) (zc)))) (zc))) (Z4 (z3 (zb zP (cE (.int 2)) (vE 7)) (z3 (zb zP (cE (.int 2)) (vE 8)) (zc))))))) (zW (cE (.bl false))) (nxS))
  (zW (wY (wX eqC (za 1 c_1 (z3 (Z4 (z3 (cE (.str "many")) (z3 (Z4 (z3 (cE (.str "whole")) (z3 (yv (cE (.int 2))) (z3 (cE (.int 3)) (zc))))) (z3 (cE (.int 0)) (z3 (cE (.int 3)) (zc)))))) (zc))) (Z4 (z3 (yv (cE (.int 6))) (z3 (cE (.int 9)) (zc))))) (wX eqC (za 1 c_1 (z3 (Z4 (z3 (cE (.str "many")) (z3 (Z4 (z3 (cE (.str "whole")) (z3 (cE (.int 1)) (z3 (cE (.int 2)) (zc))))) (z3 (cE (.int 2)) (z3 (cE (.int 3)) (zc)))))) (zc))) (Z4 (z3 (cE (.int 2)) (z3 (cE (.int 6)) (zc)))))))))))))
def f_0:List T->R T:=fun ts=>zh (b_0 (f_9 8) (f_7 8) (f_l) (f_6) (f_q) (f_1) (f_d 8) (f_e 8) (en0 9 ts))
end G
namespace G
open PySem L2 PV
abbrev scr (ns:List Int):T:= .fz (ns.map T.int)
theorem Qe (ns:List Int) (k:Int) (h0:0<=k):∃ c,f_u [scr ns, .int k]= .ok (.int c):=by
 have e1:f_u [scr ns, .int k]=zh (if decide (k < ((ns.map T.int).length:Int))=true then (atT (ns.map T.int) k).s (fun t=> .rt t) else
   match (eqC (scr ns) (.lst [])).s (fun b=>if b=true then RS.rt (.int 0) else .nx [.vl (scr ns), .vl (.int k)]) with
   | .nx ρ' =>zW (zb zu (zb zP (zb ixT (vE 0) (zb wv (vE 1) (ap1 Jk (vB 0)))) (cE (.int 31))) (vE 1)) ρ'
   | r=>r):=by
  show zh (match (if decide (k < ((ns.map T.int).length:Int))=true then (atT (ns.map T.int) k).s (fun t=>RS.rt t) else .nx [.vl (scr ns), .vl (.int k)]) with
   | .nx ρ' =>_
   | r=>r)=_
  cases decide (k < ((ns.map T.int).length:Int)) with
  | true=>
   rw [if_pos rfl,if_pos rfl]
   unfold atT
   cases atI (ns.map T.int) k <;> rfl
  | false=>rfl
 rw [e1,List.length_map]
 by_cases hk:k < (ns.length:Int)
 ·obtain ⟨v,hv⟩:∃ v,ns[k.toNat]? =some v:=⟨ns[k.toNat]'(by omega),List.getElem?_eq_getElem (by omega)⟩
  have ea:atI (ns.map T.int) k=some (.int v):=by
   have:k=((k.toNat:Nat):Int):=by omega
   rw [this]
   exact jj (by rw [List.getElem?_map,hv]; rfl)
  rw [decide_eq_true hk,if_pos rfl]
  exact ⟨v,by unfold atT; rw [ea]; rfl⟩
 ·rw [decide_eq_false hk,if_neg Bool.false_ne_true]
  cases ns with
  | nil=>exact ⟨0,rfl⟩
  | cons x xs=>
   have hm0:=Int.emod_nonneg k (show (((x :: xs).length:Nat):Int) ≠ 0 by simp only [List.length_cons]; omega)
   have hm1:=Int.emod_lt_of_pos k (show (0:Int) < (((x :: xs).length:Nat):Int) by simp only [List.length_cons]; omega)
   obtain ⟨v,hv⟩:∃ v,(x :: xs)[(k % (((x :: xs).length:Nat):Int)).toNat]? =some v:=⟨_,List.getElem?_eq_getElem (by omega)⟩
   have ea:atI ((x :: xs).map T.int) (k % (((x :: xs).length:Nat):Int))=some (.int v):=by
    have e:k % (((x :: xs).length:Nat):Int)=(((k % (((x :: xs).length:Nat):Int)).toNat:Nat):Int):=by omega
    rw [e]
    exact jj (by rw [List.getElem?_map,hv]; rfl)
   have cm:wa v 31:= .inr ⟨by decide,by decide⟩
   have hp:(0:Int) < (((x :: xs).map T.int).length:Int):=by simp only [List.length_map,List.length_cons]; omega
   refine ⟨v*31+k, ?_⟩
   show zh (((((if 0 < (((x :: xs).map T.int).length:Int) then R.ok (T.int (k % (((x :: xs).map T.int).length:Int))) else .bad).bind fun y=>ixT (scr (x :: xs)) y).bind fun a=>zP a (.int 31)).bind fun a=>zu a (.int k)).s fun t=> .rt t)=_
   rw [if_pos hp]
   show zh ((((atT ((x :: xs).map T.int) (k % (((x :: xs).map T.int).length:Int))).bind fun a=>zP a (.int 31)).bind fun a=>zu a (.int k)).s fun t=> .rt t)=_
   rw [List.length_map]
   unfold atT
   rw [ea]
   show zh ((((if wa v 31 then R.ok (T.int (v*31)) else .bad)).bind fun a=>zu a (.int k)).s fun t=> .rt t)=_
   rw [if_pos cm]
   rfl
theorem Zb (ns:List Int) (k m:Int) (h0:0<=k) (hm:0 < m):∃ p,f_4 [scr ns, .int k, .int m]= .ok (.int p)/\0<=p/\p < m:=by
 obtain ⟨c,hc⟩:=Qe ns k h0
 have cm1:wa 6151 (k+1):= .inl ⟨by decide,by decide⟩
 have cm2:wa (c+6151*(k+1)) 40692:= .inr ⟨by decide,by decide⟩
 generalize hd:(c+6151*(k+1))*40692 % 2147483399=d
 have hd0:0<=d:=by rw [← hd]; exact Int.emod_nonneg _ (by decide)
 have hd1:d < 2147483399:=by rw [← hd]; exact Int.emod_lt_of_pos _ (by decide)
 have cm3:wa d d:= .inl ⟨by omega,by omega⟩
 refine ⟨(d*d+d / 31) % 2147483629 % m, ?_,Int.emod_nonneg _ (by omega),Int.emod_lt_of_pos _ hm⟩
 have e1:f_4 [scr ns, .int k, .int m]=zh (match ((((((f_u [scr ns, .int k]).bind fun x=>(zP (.int 6151) (.int (k+1))).bind fun y=>zu x y).bind fun x=>zP x (.int 40692)).bind fun x=>wv x (.int 2147483399))).s fun t=>RS.nx [.vl (scr ns), .vl (.int k), .vl (.int m), .vl t]) with
   | .nx ρ' =>zW (zb wv (zb wv (zb zu (zb zP (vE 3) (vE 3)) (zb u9 (vE 3) (cE (.int 31)))) (cE (.int 2147483629))) (vE 2)) ρ'
   | r=>r):=rfl
 rw [e1,hc]
 show zh (match (((((if wa 6151 (k+1) then R.ok (T.int (6151*(k+1))) else .bad).bind fun y=>zu (.int c) y).bind fun x=>zP x (.int 40692)).bind fun x=>wv x (.int 2147483399)).s fun t=>RS.nx [.vl (scr ns), .vl (.int k), .vl (.int m), .vl t]) with
   | .nx ρ' =>_
   | r=>r)=_
 rw [if_pos cm1]
 show zh (match ((((if wa (c+6151*(k+1)) 40692 then R.ok (T.int ((c+6151*(k+1))*40692)) else .bad)).bind fun x=>wv x (.int 2147483399)).s fun t=>RS.nx [.vl (scr ns), .vl (.int k), .vl (.int m), .vl t]) with
   | .nx ρ' =>_
   | r=>r)=_
 rw [if_pos cm2]
 show zh (zW (zb wv (zb wv (zb zu (zb zP (vE 3) (vE 3)) (zb u9 (vE 3) (cE (.int 31)))) (cE (.int 2147483629))) (vE 2)) [.vl (scr ns), .vl (.int k), .vl (.int m), .vl (.int ((c+6151*(k+1))*40692 % 2147483399))])=_
 rw [hd]
 show zh (((((if wa d d then R.ok (T.int (d*d)) else .bad).bind fun x=>zu x (.int (d / 31))).bind fun x=>wv x (.int 2147483629)).bind fun x=>wv x (.int m)).s fun t=>RS.rt t)=_
 rw [if_pos cm3]
 show zh ((if 0 < m then R.ok (T.int ((d*d+d / 31) % 2147483629 % m)) else .bad).s fun t=>RS.rt t)=_
 rw [if_pos hm]
 rfl
theorem UL {ft:En->R Bool} {fe:En->R T}:∀ (ts:List T) (ρ:En) (x:Sl),zv (zr 0) ft fe ts (ρ.set 0 x)=zv (zr 0) ft fe ts ρ
 | [],_,_=>rfl
 | t :: ts,ρ,x=>by
  unfold zv zr
  rw [List.set_set]
theorem jp {ft:En->R Bool} {fe:En->R T} {p:T->Bool} {h:T->T}:∀ (ts:List T) (ρ:En),(∀ t∈ts,ft (ρ.set 0 (.vl t))= .ok (p t)/\(p t=true->fe (ρ.set 0 (.vl t))= .ok (h t)))->zv (zr 0) ft fe ts ρ= .ok ((ts.filter p).map h)
 | [],_,_=>rfl
 | t :: ts,ρ,H=>by
  obtain ⟨h1,h2⟩:=H t List.mem_cons_self
  have ih:=jp ts ρ fun u hu=>H u (List.mem_cons_of_mem _ hu)
  have e:zv (zr 0) ft fe (t :: ts) ρ=(ft (ρ.set 0 (.vl t))).bind fun k=>if k=true then (fe (ρ.set 0 (.vl t))).bind fun v=>(zv (zr 0) ft fe ts (ρ.set 0 (.vl t))).bind fun vs=> .ok (v :: vs) else zv (zr 0) ft fe ts (ρ.set 0 (.vl t)):=rfl
  rw [e,h1,UL,ih]
  show (if p t=true then _ else _)=_
  cases hp:p t with
  | true=>rw [if_pos rfl,h2 hp,List.filter_cons_of_pos hp]; rfl
  | false=>rw [if_neg Bool.false_ne_true,List.filter_cons_of_neg (by rw [hp]; exact Bool.false_ne_true)]
theorem UM {fe:En->R T} {h:T->T} (ts:List T) (ρ:En) (H:∀ t∈ts,fe (ρ.set 0 (.vl t))= .ok (h t)):zv (zr 0) zO fe ts ρ= .ok (ts.map h):=by
 have:=jp (ft:=zO) (fe:=fe) (p:=fun _=>true) (h:=h) ts ρ fun t ht=>⟨rfl,fun _=>H t ht⟩
 rw [this,List.filter_eq_self.mpr (fun _ _=>rfl)]
theorem zN {fe:En->R T} {h:T->T} {k:Nat} {js:List Nat} {ρ:En} (ts:List T) (hl:ts.length<=bnd) (H:∀ t∈ts,fe ((Wa k js ρ).set 0 (.vl t))= .ok (h t)):zD (zr 0) zO fe k js ρ ts= .ok (ts.map h):=by
 unfold zD
 rw [if_pos hl,UM ts _ H]
 rfl
theorem jz (p:T->Bool):∀ ts:List T,uy (ts.map fun t=>T.bl (p t))=some (ts.all p)
 | []=>rfl
 | t :: ts=>by
  show (match uy (ts.map fun t=>T.bl (p t)) with | some j=>some (p t && j) | none=>none)=_
  rw [jz p ts]; rfl
def isW:T->Bool
 | .int _=>true
 | _=>false
theorem Yc (t:T):f_i [t]= .ok (.bl (isW t)):=by cases t <;> rfl
def uo (a b:Nat):T->Bool
 | .tup xs=>decide (a<=xs.length) && decide (xs.length<=b)
 | _=>false
theorem ja (t:T) (a b:Nat):f_h [t, .int a, .int b]= .ok (.bl (uo a b t)):=by
 cases t with
 | tup xs=>
  show zh ((if decide ((a:Int)<=(xs.length:Int))=true then R.ok (T.bl (decide ((xs.length:Int)<=(b:Int)))) else .ok (.bl false)).s fun t=> .rt t)=_
  have e1:decide ((a:Int)<=(xs.length:Int))=decide (a<=xs.length):=by simp
  have e2:decide ((xs.length:Int)<=(b:Int))=decide (xs.length<=b):=by simp
  rw [e1,e2]
  show _=R.ok (T.bl (decide (a<=xs.length) && decide (xs.length<=b)))
  cases decide (a<=xs.length) <;> rfl
 | _=>rfl
def jq (lo hi:Int):T->T->Bool
 | .int i, .int j=>decide (lo<=i) && decide (i<=j) && decide (j<=hi)
 | _,_=>false
theorem UN (t u:T) (lo hi:Int):f_r [t,u, .int lo, .int hi]= .ok (.bl (jq lo hi t u)):=by
 cases t with
 | int i=>
  cases u with
  | int j=>
   show zh ((if decide (lo<=i)=true then (if decide (i<=j)=true then R.ok (T.bl (decide (j<=hi))) else .ok (.bl false)) else .ok (.bl false)).s fun t=> .rt t)=_
   show _=R.ok (T.bl (decide (lo<=i) && decide (i<=j) && decide (j<=hi)))
   cases decide (lo<=i) <;> cases decide (i<=j) <;> rfl
  | _=>rfl
 | _=>cases u <;> rfl
def Zi (c:Nat):Bool:=decide (97<=c) && decide (c<=122)
def Zu:T->Bool
 | .str x=>decide (1<=x.length) && decide (x.length<=3) && x.cps.toList.all Zi
 | _=>false
theorem YO (a b:Nat):decide ([a] < [b])=decide (a < b):=by
 by_cases h:a < b
 ·rw [decide_eq_true h]; exact decide_eq_true (List.Lex.rel h)
 ·rw [decide_eq_false h]
  refine decide_eq_false fun z=> ?_
  cases z with
  | rel h' =>exact h h'
  | cons h' =>cases h'
theorem Qf (c:Nat) (ρ:En):chE leC leC (cE (.str "a")) (vB 0) (cE (.str "z")) ((Sl.vl (.str ⟨#[c]⟩)) :: ρ)= .ok (.bl (Zi c)):=by
 have e1:leC (.str "a") (.str ⟨#[c]⟩)= .ok (decide (97<=c)):=by
  show R.ok (!decide ([c] < [97]))=_
  rw [YO]
  by_cases h:c < 97
  ·rw [decide_eq_true h,decide_eq_false (by omega)]; rfl
  ·rw [decide_eq_false h,decide_eq_true (by omega)]; rfl
 have e2:leC (.str ⟨#[c]⟩) (.str "z")= .ok (decide (c<=122)):=by
  show R.ok (!decide ([122] < [c]))=_
  rw [YO]
  by_cases h:122 < c
  ·rw [decide_eq_true h,decide_eq_false (by omega)]; rfl
  ·rw [decide_eq_false h,decide_eq_true (by omega)]; rfl
 show (leC (.str "a") (.str ⟨#[c]⟩)).bind (fun k=>if k=true then (leC (.str ⟨#[c]⟩) (.str "z")).bind fun k' =>R.ok (T.bl k') else R.ok (T.bl false))=_
 rw [e1,e2]
 unfold Zi
 show (if decide (97<=c)=true then R.ok (T.bl (decide (c<=122))) else .ok (.bl false))=_
 cases decide (97<=c) <;> rfl
def vH:T->Prop
 | .str x=>x.length<=bnd
 | _=>True
theorem Qg (t:T) (ht:vH t):f_p [t]= .ok (.bl (Zu t)):=by
 cases t with
 | str x=>
  have hx:x.length<=bnd:=ht
  have e0:Jk (.str x)= .ok (.int x.length):=if_pos hx
  have ec:zD (zr 0) zO (chE leC leC (cE (.str "a")) (vB 0) (cE (.str "z"))) 1 [] [.vl (.str x)] (j9 x)= .ok (x.cps.toList.map fun c=>T.bl (Zi c)):=by
   have hs:(j9 x).length<=bnd:=by unfold j9; rw [List.length_map,Array.length_toList]; exact hx
   have:=zN (fe:=chE leC leC (cE (.str "a")) (vB 0) (cE (.str "z"))) (h:=fun t=>match t with | .str y=>T.bl (Zi (y.cps.toList.headD 0)) | t=>t) (k:=1) (js:=[]) (ρ:=[.vl (.str x)]) (j9 x) hs fun t ht=>by
    unfold j9 at ht
    obtain ⟨c,_,rfl⟩:=List.mem_map.mp ht
    exact Qf c []
   rw [this]
   unfold j9
   rw [List.map_map]
   rfl
  have ea:uy (x.cps.toList.map fun c=>T.bl (Zi c))=some (x.cps.toList.all Zi):=by
   have:=jz (fun t=>match t with | .str y=>Zi (y.cps.toList.headD 0) | _=>true) (j9 x)
   unfold j9 at this
   rw [List.map_map,List.all_map] at this
   exact this
  have e1:f_p [.str x]=zh (match ((((Jk (.str x)).bind fun y=>(leC (.int 1) y).bind fun k=>if k=true then leC y (.int 3) else .ok false).bind fun b=> .ok (!b)).s fun k=>if k=true then RS.rt (.bl false) else .nx [.vl (.str x)]) with
    | .nx ρ' =>zW (ap1 qQ (zY (ZD (vE 0)) (zr 0) (zO) (chE leC leC (cE (.str "a")) (vB 0) (cE (.str "z"))) 1 [])) ρ'
    | r=>r):=rfl
  rw [e1,e0]
  have c1:decide ((1:Int)<=(x.length:Int))=decide (1<=x.length):=by
   by_cases h:1<=x.length
   ·rw [decide_eq_true h]; exact decide_eq_true (by omega)
   ·rw [decide_eq_false h]; exact decide_eq_false (by omega)
  have c2:decide ((x.length:Int)<=(3:Int))=decide (x.length<=3):=by
   by_cases h:x.length<=3
   ·rw [decide_eq_true h]; exact decide_eq_true (by omega)
   ·rw [decide_eq_false h]; exact decide_eq_false (by omega)
  show zh (match ((((if decide ((1:Int)<=(x.length:Int))=true then R.ok (decide ((x.length:Int)<=(3:Int))) else .ok false)).bind fun b=> .ok (!b)).s fun k=>if k=true then RS.rt (.bl false) else .nx [.vl (.str x)]) with
    | .nx ρ' =>_
    | r=>r)=_
  rw [c1,c2]
  show _=R.ok (T.bl (decide (1<=x.length) && decide (x.length<=3) && x.cps.toList.all Zi))
  cases decide (1<=x.length) with
  | false=>rfl
  | true=>
   cases decide (x.length<=3) with
   | false=>rfl
   | true=>
    show zh ((((zD (zr 0) zO (chE leC leC (cE (.str "a")) (vB 0) (cE (.str "z"))) 1 [] [.vl (.str x)] (j9 x)).bind fun vs=> .ok (.lst vs)).bind qQ).s fun t=> .rt t)=_
    rw [ec]
    show zh ((match uy (x.cps.toList.map fun c=>T.bl (Zi c)) with | some k=>R.ok (T.bl k) | none=> .bad).s fun t=> .rt t)=_
    rw [ea]
    rfl
 | _=>rfl
theorem bOk {α β:Type} (a:α) (f:α->R β):(R.ok a).bind f=f a:=rfl
theorem ZC {α:Type} (a:α) (f:α->RS):(R.ok a).s f=f a:=rfl
theorem jr (r:R T):zh (r.s fun t=> .rt t)=r:=by cases r <;> rfl
theorem Zk (f:En->R T) (ρ:En):zW f ρ=(f (frz ρ)).s fun t=> .rt t:=rfl
theorem zR {g:List T->R T} {f:En->R T} {ρ:En}:za 1 g (z3 f zc) ρ=(f ρ).bind fun x=>g [x]:=by
 unfold za z3 zc
 cases f ρ <;> rfl
theorem UO {g:List T->R T} {f f' :En->R T} {ρ:En}:za 2 g (z3 f (z3 f' zc)) ρ=(f ρ).bind fun x=>(f' ρ).bind fun y=>g [x,y]:=by
 unfold za z3 zc
 cases f ρ with
 | ok a=>cases f' ρ <;> rfl
 | ex c=>rfl
 | bad=>rfl
theorem ZF {g:List T->R T} {f f' f'' :En->R T} {ρ:En}:za 3 g (z3 f (z3 f' (z3 f'' zc))) ρ=(f ρ).bind fun x=>(f' ρ).bind fun y=>(f'' ρ).bind fun z=>g [x,y,z]:=by
 unfold za z3 zc
 cases f ρ with
 | ok a=>
  cases f' ρ with
  | ok b=>cases f'' ρ <;> rfl
  | ex c=>rfl
  | bad=>rfl
 | ex c=>rfl
 | bad=>rfl
theorem VW {g:List T->R T} {f f' f'' f3:En->R T} {ρ:En}:za 4 g (z3 f (z3 f' (z3 f'' (z3 f3 zc)))) ρ=(f ρ).bind fun x=>(f' ρ).bind fun y=>(f'' ρ).bind fun z=>(f3 ρ).bind fun w=>g [x,y,z,w]:=by
 unfold za z3 zc
 cases f ρ with
 | ok a=>
  cases f' ρ with
  | ok b=>
   cases f'' ρ with
   | ok c=>cases f3 ρ <;> rfl
   | ex c=>rfl
   | bad=>rfl
  | ex c=>rfl
  | bad=>rfl
 | ex c=>rfl
 | bad=>rfl
def Qy (r k:R T):R T:=r.bind fun x=>match x with
 | .bl true=>k
 | .bl false=> .ok (.bl false)
 | _=> .bad
theorem WL (f g:En->R T) (ρ:En):wY f g ρ=Qy (f ρ) (g ρ):=rfl
theorem ZH (a:Bool) (k:R T):Qy (.ok (.bl a)) k=if a=true then k else .ok (.bl false):=by cases a <;> rfl
theorem v0 {t:T} {ρ:En}:vE 0 (.vl t :: ρ)= .ok t:=rfl
theorem v1 {t:T} {a:Sl} {ρ:En}:vE 1 (a :: .vl t :: ρ)= .ok t:=rfl
theorem w0 {t:T} {ρ:En}:vB 0 (.vl t :: ρ)= .ok t:=rfl
theorem w1 {t:T} {a:Sl} {ρ:En}:vB 1 (a :: .vl t :: ρ)= .ok t:=rfl
theorem Zq {t:T} {ρ:En}:cE t ρ= .ok t:=rfl
theorem zk {g:T->T->R T} {f f' :En->R T} {ρ:En}:zb g f f' ρ=(f ρ).bind fun x=>(f' ρ).bind fun y=>g x y:=rfl
theorem ZW {t:T} {ρ:En}:frz (.vl t :: ρ)= .vl t :: frz ρ:=rfl
theorem Jo {ρ:En}:frz (.un :: ρ)= .un :: frz ρ:=rfl
theorem j5:frz []=[]:=rfl
theorem vI {g g' :T->T->R Bool} {fa fb fc:En->R T} {ρ:En}:chE g g' fa fb fc ρ=(fa ρ).bind fun x=>(fb ρ).bind fun y=>(g x y).bind fun k=>if k=true then (fc ρ).bind fun z=>(g' y z).bind fun k' => .ok (.bl k') else .ok (.bl false):=rfl
theorem j6 {g:T->R T} {f:En->R T} {ρ:En}:ap1 g f ρ=(f ρ).bind g:=rfl
theorem vJ {i j:Int}:leC (.int i) (.int j)= .ok (decide (i<=j)):=rfl
theorem jV {g:T->T->R Bool} {f f' :En->R T} {ρ:En}:wX g f f' ρ=(f ρ).bind fun x=>(f' ρ).bind fun y=>(g x y).bind fun b=> .ok (.bl b):=rfl
theorem Yd {xs:List T}:Jk (.tup xs)= .ok (.int xs.length):=rfl
theorem vK {xs:List T}:Jk (.lst xs)= .ok (.int xs.length):=rfl
mutual
def sOk:T->Prop
 | .str x=>x.length<=bnd
 | .tup xs=>W1 xs
 | .lst xs=>W1 xs
 | .fz xs=>W1 xs
 | _=>True
def W1:List T->Prop
 | []=>True
 | t :: ts=>sOk t/\W1 ts
end
theorem jh:∀ {ts:List T} {t:T},W1 ts->t∈ts->sOk t
 | u :: ts,t,h,hm=>by
  have h' :sOk u/\W1 ts:=by simpa only [W1] using h
  rcases List.mem_cons.mp hm with rfl | hm
  ·exact h'.1
  ·exact jh h'.2 hm
theorem sOk.str {t:T} (h:sOk t):vH t:=by
 cases t with
 | str x=>
  have h' :x.length<=bnd:=by simpa only [sOk] using h
  exact h'
 | _=>trivial
theorem JP {xs:List T} (h:sOk (.tup xs)):W1 xs:=by simpa only [sOk] using h
def zq:T->Bool
 | .tup [w, .int i]=>Zu w && decide (1<=i) && decide (i<=20)
 | _=>false
theorem UP (t:T) (ht:sOk t):f_o [t]= .ok (.bl (zq t)):=by
 have e:f_o [t]=zh (b_o f_i f_h f_p [.vl t]):=rfl
 rw [e,b_o]
 simp only [Zk,jr,ZW,j5,WL,ZF,zR,v0,Zq,bOk,zk,vI]
 rw [show f_h [t, .int 2, .int 2]= .ok (.bl (uo 2 2 t)) from ja t 2 2,ZH]
 cases t with
 | tup xs=>
  match xs,ht with
  | [],_=>rfl
  | [_],_=>rfl
  | _ :: _ :: _ :: _,_=>simp [uo,zq]
  | [w,n],ht=>
   have hw:sOk w:=jh (JP ht) (by simp)
   show (if true=true then Qy (f_p [w]) (Qy (f_i [n]) ((leC (.int 1) n).bind fun k=>if k=true then (leC n (.int 20)).bind fun k' =>R.ok (T.bl k') else .ok (.bl false))) else _)=_
   rw [if_pos rfl,Qg w hw.str,Yc,ZH,ZH]
   cases n with
   | int i=>
    show (if Zu w=true then (if true=true then (if decide (1<=i)=true then R.ok (T.bl (decide (i<=20))) else .ok (.bl false)) else _) else _)=R.ok (T.bl (Zu w && decide (1<=i) && decide (i<=20)))
    cases Zu w <;> cases decide (1<=i) <;> rfl
   | _=>
    show (if Zu w=true then (if false=true then _ else R.ok (T.bl false)) else R.ok (T.bl false))=R.ok (T.bl false)
    cases Zu w <;> rfl
 | _=>rfl
theorem zT (f g:En->RS) (ρ:En):zC f g ρ=match f ρ with | .nx ρ' =>g ρ' | r=>r:=rfl
theorem ZN (g:En->R Bool) (f1 f2:En->RS) (ρ:En):ifS g f1 f2 ρ=(g ρ).s fun k=>if k=true then f1 ρ else f2 ρ:=rfl
theorem UQ (f g:En->R Bool) (ρ:En):orT f g ρ=(f ρ).bind fun x=>if x=true then .ok true else g ρ:=rfl
theorem UR (f:En->R Bool) (ρ:En):yU f ρ=(f ρ).bind fun x=> .ok (!x):=rfl
theorem US (f:En->R T) (ρ:En):yw f ρ=(f ρ).bind tru:=rfl
theorem WM (k:Bool):tru (.bl k)= .ok k:=rfl
theorem jW (i:Nat) (f:En->R T) (ρ:En):Zy i f ρ=(f ρ).s fun t=> .nx (ρ.set i (.vl t)):=rfl
theorem Zc {g:T->T->R Bool} {f f' :En->R T} {ρ:En}:Z8 g f f' ρ=(f ρ).bind fun x=>(f' ρ).bind fun y=>g x y:=rfl
theorem zE {fi:En->R (List T)} {g:T->En->R En} {ft:En->R Bool} {fe:En->R T} {k:Nat} {js:List Nat} {ρ:En}:zY fi g ft fe k js ρ=(fi ρ).bind fun ts=>(zD g ft fe k js ρ ts).bind fun vs=> .ok (.lst vs):=rfl
theorem Zv {f:En->R T} {ρ:En}:ZD f ρ=(f ρ).bind wD:=rfl
def Z0:T->Str
 | .tup (.str w :: _)=>w
 | _=>⟨#[]⟩
def WN:T->Bool
 | .tup cs=>decide (1<=cs.length) && decide (cs.length<=4) && cs.all zq && decide ((dd [] (cs.map Z0)).length=cs.length)
 | _=>false
theorem wL {c:T} (h:zq c=true):∃ w n,c= .tup [.str w,n]:=by
 unfold zq at h
 split at h
 ·rename_i w i
  cases w with
  | str x=>exact ⟨x,_,rfl⟩
  | _=>cases h
 ·cases h
theorem Jv:∀ {cs:List T},cs.all zq=true->JI (cs.map fun c=>T.str (Z0 c))=some (cs.map Z0)
 | [],_=>rfl
 | c :: cs,h=>by
  rw [List.all_cons,Bool.and_eq_true] at h
  have ih:=Jv h.2
  show (match JI (cs.map fun c=>T.str (Z0 c)) with | some ys=>some (Z0 c :: ys) | none=>none)=_
  rw [ih]; rfl
theorem uq (t:T) (ht:sOk t):f_k [t]= .ok (.bl (WN t)):=by
 have e:f_k [t]=zh (b_k f_h f_o [.vl t, .un]):=rfl
 rw [e,b_k]
 simp only [zT,ZN,UQ,UR,US,ZF,v0,Zq,bOk]
 rw [show f_h [t, .int 1, .int 4]= .ok (.bl (uo 1 4 t)) from ja t 1 4]
 simp only [bOk,WM]
 cases t with
 | tup cs=>
  have hl:uo 1 4 (.tup cs)=(decide (1<=cs.length) && decide (cs.length<=4)):=rfl
  rw [hl]
  show _=R.ok (T.bl (decide (1<=cs.length) && decide (cs.length<=4) && cs.all zq && decide ((dd [] (cs.map Z0)).length=cs.length)))
  cases h14:(decide (1<=cs.length) && decide (cs.length<=4)) with
  | false=>rfl
  | true=>
   rw [Bool.and_eq_true,decide_eq_true_eq,decide_eq_true_eq] at h14
   have hb:cs.length<=bnd:=Nat.le_trans h14.2 (by decide)
   have ec:zD (zr 0) zO (za 1 f_o (z3 (vE 0) zc)) 1 [] [.vl (.tup cs), .un] cs= .ok (cs.map fun c=>T.bl (zq c)):=
    zN (h:=fun c=>T.bl (zq c)) cs hb fun c hc=>by
     show za 1 f_o (z3 (vE 0) zc) [.vl c]=_
     rw [zR,v0,bOk]
     exact UP c (jh (JP ht) hc)
   simp only [Bool.not_true,Bool.false_eq_true,if_false,j6,zE,Zv,v0,bOk,wD,ec]
   have ea:qQ (.lst (cs.map fun c=>T.bl (zq c)))= .ok (.bl (cs.all zq)):=by
    show (match uy (cs.map fun c=>T.bl (zq c)) with | some k=>R.ok (T.bl k) | none=> .bad)=_
    rw [jz]
   rw [ea]
   simp only [bOk,WM,ZC]
   cases hall:cs.all zq with
   | false=>rfl
   | true=>
    have ew:zD (zr 0) zO (zb ixT (vE 0) (cE (.int 0))) 1 [] [.vl (.tup cs), .un] cs= .ok (cs.map fun c=>T.str (Z0 c)):=
     zN (h:=fun c=>T.str (Z0 c)) cs hb fun c hc=>by
      obtain ⟨w,n,rfl⟩:=wL (List.all_eq_true.mp hall c hc)
      rfl
    simp only [Bool.not_true,Bool.false_eq_true,if_false,nxS,jW,zE,Zv,v0,bOk,wD,ew,ZC,Zk]
    show zh (((Y5 (.lst (cs.map fun c=>T.str (Z0 c)))).bind fun x=>(Jk (.lst (cs.map fun c=>T.str (Z0 c)))).bind fun y=>(eqC x y).bind fun b=>R.ok (T.bl b)).s fun t=> .rt t)=_
    have el:Y5 (.lst (cs.map fun c=>T.str (Z0 c)))= .ok (.int (dd [] (cs.map Z0)).length):=by
     show (match JI (cs.map fun c=>T.str (Z0 c)) with | some ys=>if (cs.map fun c=>T.str (Z0 c)).length+1 < 4096 then R.ok (T.int (dd [] ys).length) else .bad | none=> .bad)=_
     rw [Jv hall]
     exact if_pos (by rw [List.length_map]; omega)
    rw [el,vK,List.length_map,jr]
    show R.ok (T.bl (((dd [] (cs.map Z0)).length:Int) == (cs.length:Int)))=_
    congr 2
    by_cases hq:(dd [] (cs.map Z0)).length=cs.length
    ·rw [decide_eq_true hq,hq]; simp
    ·rw [decide_eq_false hq]
     simp only [Bool.true_and,beq_eq_false_iff_ne]
     omega
 | _=>rfl
def isS (w:Str):T->Bool
 | .str s=>s == w
 | _=>false
theorem eqS (h:T) (w:Str):eqC h (.str w)= .ok (isS w h):=by cases h <;> rfl
theorem eqI (i j:Int):eqC (.int i) (.int j)= .ok (i == j):=rfl
theorem at0 {h:T} {r:List T}:ixT (.tup (h :: r)) (.int 0)= .ok h:=by
 show atT (h :: r) 0=_
 unfold atT
 rw [show atI (h :: r) 0=some h from jj (j:=0) rfl]
theorem at1 {h a:T} {r:List T}:ixT (.tup (h :: a :: r)) (.int 1)= .ok a:=by
 show atT (h :: a :: r) 1=_
 unfold atT
 rw [show atI (h :: a :: r) 1=some a from jj (j:=1) rfl]
theorem at2 {h a b:T} {r:List T}:ixT (.tup (h :: a :: b :: r)) (.int 2)= .ok b:=by
 show atT (h :: a :: b :: r) 2=_
 unfold atT
 rw [show atI (h :: a :: b :: r) 2=some b from jj (j:=2) rfl]
theorem at3 {h a b c:T} {r:List T}:ixT (.tup (h :: a :: b :: c :: r)) (.int 3)= .ok c:=by
 show atT (h :: a :: b :: c :: r) 3=_
 unfold atT
 rw [show atI (h :: a :: b :: c :: r) 3=some c from jj (j:=3) rfl]
def jX (k:T->Bool):T->Bool
 | .tup ks=>decide (1<=ks.length) && decide (ks.length<=3) && ks.all k
 | _=>false
def wM:List T->Bool
 | [a,b]=>jq (-20) 20 a b
 | _=>false
def UT:List T->Bool
 | [c]=>WN c
 | _=>false
def vL (k:T->Bool):List T->Bool
 | [c]=>jX k c
 | _=>false
def UU (k:T->Bool):List T->Bool
 | [c,a,b]=>jq 0 3 a b && k c
 | _=>false
def ur (k:T->Bool):T->Bool
 | .tup (h :: r)=>if isS "whole" h=true then wM r else if isS "pick" h=true then UT r else if isS "row" h=true then vL k r else if isS "many" h=true then UU k r else false
 | _=>false
def isK:Nat->T->Bool
 | 0,_=>false
 | d+1,t=>ur (isK d) t
theorem UV {α:Type} (xs:List α) (n:Nat):((xs.length:Int) == (n:Int))=decide (xs.length=n):=by
 by_cases h:xs.length=n
 ·rw [decide_eq_true h,h]; simp
 ·rw [decide_eq_false h,beq_eq_false_iff_ne]; omega
theorem vM {f:En->R T} {ρ:En}:yv f ρ=(f ρ).bind fun x=>match x with | .int i=> .ok (.int (-i)) | _=> .bad:=rfl
theorem jY {i j:Int}:yL (.int i) (.int j)= .ok (.int (i - j)):=rfl
set_option maxHeartbeats 1000000 in
theorem Qh {n:Nat} {d:Nat} {k:T->Bool} (H0:∀ t,sOk t->S_b n 0 [t, .int d]= .ok (.bl (k t))) (H1:∀ t,sOk t->S_b n 1 [t, .int d]= .ok (.bl (jX k t))) (t:T) (ht:sOk t):
  S_b (n+1) 0 [t, .int ((d+1:Nat):Int)]= .ok (.bl (ur k t)):=by
 have e:S_b (n+1) 0 [t, .int ((d+1:Nat):Int)]=zh (b_b f_r (S_b n 0) f_k (S_b n 1) [.vl t, .vl (.int ((d+1:Nat):Int))]):=rfl
 have hL:(((d+1:Nat):Int) == 0)=false:=by rw [beq_eq_false_iff_ne]; omega
 have hL1:((d+1:Nat):Int) - 1=(d:Int):=by omega
 rw [e,b_b]
 simp only [zT,ZN,UQ,UR,US,Zc,w0,w1,Zq,bOk,eqI,hL,Bool.false_eq_true,if_false,j6]
 cases t with
 | tup xs=>
  cases xs with
  | nil=>rfl
  | cons h r=>
   have hs:=JP ht
   have hm:∀ u∈r,sOk u:=fun u hu=>jh hs (List.mem_cons_of_mem _ hu)
   have z0:(((h :: r).length:Int) == 0)=false:=by rw [beq_eq_false_iff_ne]; simp only [List.length_cons]; omega
   have ti:yW "tuple" (.tup (h :: r))= .ok (.bl true):=rfl
   simp only [ti,bOk,WM,Bool.not_true,Bool.false_eq_true,if_false,Yd,eqI,z0,ZC,nxS,zk,v0,v1,Zq,at0,eqS,Zk,ZW,j5,WL,jV,j6,w0,VW,zR,UO,vM,jY,hL1]
   show _=R.ok (T.bl (if isS "whole" h=true then wM r else if isS "pick" h=true then UT r else if isS "row" h=true then vL k r else if isS "many" h=true then UU k r else false))
   have l3:(((h :: r).length:Int) == 3)=decide ((h :: r).length=3):=UV (h :: r) 3
   have l2:(((h :: r).length:Int) == 2)=decide ((h :: r).length=2):=UV (h :: r) 2
   have l4:(((h :: r).length:Int) == 4)=decide ((h :: r).length=4):=UV (h :: r) 4
   simp only [l2,l3,l4,ZH]
   cases isS "whole" h with
   | true=>
    simp only [if_true]
    match r,hm with
    | [],_=>rfl
    | [_],_=>rfl
    | _ :: _ :: _ :: _,_=>simp [wM,ZC,zh]
    | [a,b],_=>
     simp only [at1,at2,bOk,UN]
     rfl
   | false=>
    simp only [Bool.false_eq_true,if_false,v0,v1,w0,bOk,at0,ZC,ZW,j5,Yd,eqI,l2,l4,ZH,jY,hL1]
    cases isS "pick" h with
    | true=>
     simp only [if_true]
     match r,hm with
     | [],_=>rfl
     | _ :: _ :: _,_=>simp [UT,ZC,zh]
     | [c],hm=>
      simp only [at1,bOk,uq c (hm c (by simp))]
      rfl
    | false=>
     simp only [Bool.false_eq_true,if_false,v0,v1,w0,bOk,at0,ZC,ZW,j5,Yd,eqI,l2,l4,ZH,jY,hL1]
     cases isS "row" h with
     | true=>
      simp only [if_true]
      match r,hm with
      | [],_=>rfl
      | _ :: _ :: _,_=>simp [vL,ZC,zh]
      | [c],hm=>
       simp only [at1,bOk,H1 c (hm c (by simp))]
       rfl
     | false=>
      simp only [Bool.false_eq_true,if_false,v0,v1,w0,bOk,at0,ZC,ZW,j5,Yd,eqI,l2,l4,ZH,jY,hL1]
      cases isS "many" h with
      | true=>
       simp only [if_true]
       match r,hm with
       | [],_=>rfl
       | [_],_=>rfl
       | [_,_],_=>rfl
       | _ :: _ :: _ :: _ :: _,_=>simp [UU,ZC,zh]
       | [c,a,b],hm=>
        simp only [at1,at2,at3,bOk,UN,H0 c (hm c (by simp)),ZH]
        show zh (match (if jq 0 3 a b=true then R.ok (T.bl (k c)) else .ok (.bl false)).s (fun t=>RS.rt t) with | .nx _=>RS.rt (T.bl false) | r=>r)=R.ok (T.bl (jq 0 3 a b && k c))
        cases jq 0 3 a b <;> rfl
      | false=>rfl
 | _=>rfl
theorem vN {n:Nat} {d:Nat} {k:T->Bool} (H0:∀ t,sOk t->S_b n 0 [t, .int d]= .ok (.bl (k t))) (t:T) (ht:sOk t):S_b (n+1) 1 [t, .int d]= .ok (.bl (jX k t)):=by
 have e:S_b (n+1) 1 [t, .int d]=zh (b_s f_h (S_b n 0) [.vl t, .vl (.int d)]):=rfl
 rw [e,b_s]
 simp only [Zk,jr,ZW,j5,WL,ZF,v0,Zq,bOk]
 rw [show f_h [t, .int 1, .int 3]= .ok (.bl (uo 1 3 t)) from ja t 1 3,ZH]
 cases t with
 | tup ks=>
  show (if (decide (1<=ks.length) && decide (ks.length<=3))=true then _ else _)=R.ok (T.bl (decide (1<=ks.length) && decide (ks.length<=3) && ks.all k))
  cases h13:(decide (1<=ks.length) && decide (ks.length<=3)) with
  | false=>rfl
  | true=>
   rw [Bool.and_eq_true,decide_eq_true_eq,decide_eq_true_eq] at h13
   have hb:ks.length<=bnd:=Nat.le_trans h13.2 (by decide)
   have ec:zD (zr 0) zO (za 2 (S_b n 0) (z3 (vE 0) (z3 (vE 1) zc))) 1 [1] [.vl (.tup ks), .vl (.int d)] ks= .ok (ks.map fun c=>T.bl (k c)):=
    zN (h:=fun c=>T.bl (k c)) ks hb fun c hc=>by
     show za 2 (S_b n 0) (z3 (vE 0) (z3 (vE 1) zc)) [.vl c, .vl (.int d)]=_
     rw [UO,v0,v1,bOk,bOk]
     exact H0 c (jh (JP ht) hc)
   simp only [if_true,j6,zE,Zv,v0,bOk,wD,ec]
   show (match uy (ks.map fun c=>T.bl (k c)) with | some k=>R.ok (T.bl k) | none=> .bad)=_
   rw [jz]
   rfl
 | _=>rfl
theorem Wf:∀ (d n:Nat),2*d+1<=n->∀ t,sOk t->S_b n 0 [t, .int d]= .ok (.bl (isK d t))
 | 0,n+1,_,t,_=>rfl
 | d+1,n+2,h,t,ht=>Qh (n:=n+1) (fun u hu=>Wf d (n+1) (by omega) u hu) (fun u hu=>vN (fun v hv=>Wf d n (by omega) v hv) u hu) t ht
theorem ut (t:T) (ht:sOk t):f_3 [t]= .ok (.bl (isK 3 t)):=by
 have e:f_3 [t]=zh (b_3 (f_b 20) [.vl t]):=rfl
 rw [e,b_3]
 simp only [Zk,jr,ZW,j5,UO,v0,Zq,bOk]
 exact Wf 3 20 (by omega) t ht
def inR (lo hi:Int):T->Bool
 | .int i=>decide (lo<=i) && decide (i<=hi)
 | _=>false
theorem wN:∀ (ws acc:List Str),(dd acc ws).length<=acc.length+ws.length
 | [],acc=>Nat.le_refl _
 | w :: ws,acc=>by
  unfold dd
  have:=wN ws (if w∈acc then acc else acc++[w])
  by_cases h:w∈acc
  ·rw [if_pos h] at this ⊢; simp only [List.length_cons]; omega
  ·rw [if_neg h] at this ⊢; rw [List.length_append,List.length_singleton] at this; simp only [List.length_cons]; omega
theorem JQ:∀ (ws acc:List Str),((dd acc ws).length=acc.length+ws.length)↔∀ (k:Nat) (w:Str),ws[k]? =some w->w ∉ acc++ws.take k
 | [],acc=>by simp [dd]
 | w :: ws,acc=>by
  unfold dd
  by_cases h:w∈acc
  ·rw [if_pos h]
   have:=wN ws acc
   constructor
   ·intro e; simp only [List.length_cons] at e; omega
   ·intro H; exact absurd (List.mem_append_left _ h) (H 0 w rfl)
  ·rw [if_neg h]
   have ih:=JQ ws (acc++[w])
   rw [List.length_append,List.length_singleton] at ih
   rw [show acc.length+(w :: ws).length=acc.length+1+ws.length by simp only [List.length_cons]; omega,ih]
   constructor
   ·intro H k v e
    cases k with
    | zero=>simp at e; subst e; simpa using h
    | succ k=>
     have:=H k v (by simpa using e)
     simpa [List.append_assoc] using this
   ·intro H k v e
    have:=H (k+1) v (by simpa using e)
    simpa [List.append_assoc] using this
theorem ltI (i j:Int):ltC (.int i) (.int j)= .ok (decide (i < j)):=rfl
theorem v2 {t:T} {a b:Sl} {ρ:En}:vE 2 (a :: b :: .vl t :: ρ)= .ok t:=rfl
theorem v3 {t:T} {a b c:Sl} {ρ:En}:vE 3 (a :: b :: c :: .vl t :: ρ)= .ok t:=rfl
theorem w2 {t:T} {a b:Sl} {ρ:En}:vB 2 (a :: b :: .vl t :: ρ)= .ok t:=rfl
theorem w3 {t:T} {a b c:Sl} {ρ:En}:vB 3 (a :: b :: c :: .vl t :: ρ)= .ok t:=rfl
theorem w5 {t:T} {a b c d e:Sl} {ρ:En}:vB 5 (a :: b :: c :: d :: e :: .vl t :: ρ)= .ok t:=rfl
theorem v4 {t:T} {a b c d:Sl} {ρ:En}:vE 4 (a :: b :: c :: d :: .vl t :: ρ)= .ok t:=rfl
theorem Qi (f g:En->R Bool) (ρ:En):Va f g ρ=(f ρ).bind fun x=>if x=true then g ρ else .ok false:=rfl
theorem WO (w:Str):∀ ws:List Str,yQ (fun y=>eqF 30 y (.str w)) (ws.map T.str)=some (decide (w∈ws))
 | []=>rfl
 | x :: ws=>by
  have ih:=WO w ws
  show (match yQ (fun y=>eqF 30 y (.str w)) (ws.map T.str) with | none=>none | some c=>some ((x == w) || c))=_
  rw [ih]
  show some ((x == w) || decide (w∈ws))=_
  congr 1
  by_cases h:x=w
  ·subst h; simp
  ·have h' :¬ w=x:=fun z=>h z.symm
   simp [h,h']
theorem gtI (i j:Int):gtC (.int i) (.int j)= .ok (decide (i > j)):=rfl
theorem Ze (i j:Int):zu (.int i) (.int j)= .ok (.int (i+j)):=rfl
theorem vO (p:Int) (h0:0<=p) (h1:p < 26):ixT (.str "abcdefghijklmnopqrstuvwxyz") (.int p)= .ok (.str ⟨#[97+p.toNat]⟩):=by
 have h:p=0\/p=1\/p=2\/p=3\/p=4\/p=5\/p=6\/p=7\/p=8\/p=9\/p=10\/p=11\/p=12\/p=13\/p=14\/p=15\/p=16\/p=17\/p=18\/p=19\/p=20\/p=21\/p=22\/p=23\/p=24\/p=25:=by omega
 rcases h with rfl|rfl|rfl|rfl|rfl|rfl|rfl|rfl|rfl|rfl|rfl|rfl|rfl|rfl|rfl|rfl|rfl|rfl|rfl|rfl|rfl|rfl|rfl|rfl|rfl|rfl <;> rfl
abbrev Vf:En->R T:=zb ixT (vE 3) (za 3 f_4 (z3 (vE 1) (z3 (zb zu (zb zu (vE 2) (cE (.int 2))) (vE 0)) (z3 (cE (.int 26)) (zc)))))
theorem vP (ns:List Int) (k:Int) (h0:0<=k) (j:Nat):∃ c:Nat,(97<=c/\c<=122)/\Vf [.vl (.int (j:Int)), .vl (scr ns), .vl (.int k), .vl (.str "abcdefghijklmnopqrstuvwxyz")]= .ok (.str ⟨#[c]⟩):=by
 obtain ⟨p,e,p0,p1⟩:=Zb ns (k+2+j) 26 (by omega) (by omega)
 refine ⟨97+p.toNat,⟨by omega,by omega⟩, ?_⟩
 simp only [Vf,zk,v3,bOk,ZF,v1,v2,v0,Zq,Ze,e]
 exact vO p p0 p1
theorem uu (ns:List Int) (k:Int) (h0:0<=k):∃ w:Str,f_m [scr ns, .int k]= .ok (.str w)/\Zu (.str w)=true:=by
 have e:f_m [scr ns, .int k]=zh (b_m f_4 [.vl (scr ns), .vl (.int k), .un]):=rfl
 obtain ⟨p,e0,p0,p1⟩:=Zb ns k 6 h0 (by omega)
 have hset:∀ t,([Sl.vl (scr ns),Sl.vl (.int k), .un]:En).set 2 (.vl t)=[Sl.vl (scr ns),Sl.vl (.int k), .vl t]:=fun _=>rfl
 rw [e,b_m]
 simp only [zT,ZN,jW,Zq,ZC,hset,Zc,ZF,v0,v1,bOk,e0,gtI]
 cases hp:decide (p > 0) with
 | true=>
  obtain ⟨q,e1,q0,q1⟩:=Zb ns (k+1) 4 (by omega) (by omega)
  simp only [if_true,Zk,ZW,j5,zk,ZF,v0,v1,Zq,bOk,Ze,e1]
  have hq:q=0\/q=1\/q=2\/q=3:=by omega
  rcases hq with rfl | rfl | rfl | rfl
  ·exact ⟨"a",rfl,by decide⟩
  ·exact ⟨"b",rfl,by decide⟩
  ·exact ⟨"ab",rfl,by decide⟩
  ·exact ⟨"cab",rfl,by decide⟩
 | false=>
  obtain ⟨q,e1,q0,q1⟩:=Zb ns (k+1) 3 (by omega) (by omega)
  simp only [Bool.false_eq_true,if_false,nxS,Zk,jr,ZW,j5,j6,zE]
  obtain ⟨g,hg⟩:=Classical.skolem.mp (vP ns k h0)
  have ei:jf (zb zu (cE (.int 1)) (za 3 f_4 (z3 (vE 0) (z3 (zb zu (vE 1) (cE (.int 1))) (z3 (cE (.int 3)) (zc)))))) [Sl.vl (scr ns),Sl.vl (.int k), .vl (.str "abcdefghijklmnopqrstuvwxyz")]= .ok (rng 0 (1+q).toNat):=by
   unfold jf
   simp only [zk,ZF,v0,v1,Zq,bOk,Ze,e1]
   rw [if_pos ⟨by omega,by omega⟩]
  have ec:∀ n:Nat,n<=3->zD (zr 0) zO Vf 1 [0,1,2] [Sl.vl (scr ns),Sl.vl (.int k), .vl (.str "abcdefghijklmnopqrstuvwxyz")] (rng 0 n)= .ok ((rng 0 n).map fun t=>match t with | .int j=> .str ⟨#[g j.toNat]⟩ | t=>t):=fun n hn=>
   zN (rng 0 n) (by unfold rng; rw [List.length_map,List.length_range]; exact Nat.le_trans hn (by decide)) fun t ht=>by
    unfold rng at ht
    obtain ⟨j,_,rfl⟩:=List.mem_map.mp ht
    show Vf [.vl (.int (0+(j:Int))), .vl (scr ns), .vl (.int k), .vl (.str "abcdefghijklmnopqrstuvwxyz")]= .ok (.str ⟨#[g (0+(j:Int)).toNat]⟩)
    rw [Int.zero_add,Int.toNat_natCast]
    exact (hg j).2
  rw [ei,bOk,ec _ (by omega),bOk,bOk]
  have hw:∀ j,Zi (g j)=true:=fun j=>by
   obtain ⟨a,b⟩:=(hg j).1
   unfold Zi
   rw [decide_eq_true a,decide_eq_true b]; rfl
  have hq:q=0\/q=1\/q=2:=by omega
  rcases hq with rfl | rfl | rfl
  ·refine ⟨⟨#[g 0]⟩,rfl, ?_⟩
   show (Zi (g 0) && true)=true
   rw [hw 0]; rfl
  ·refine ⟨⟨#[g 0,g 1]⟩,rfl, ?_⟩
   show (Zi (g 0) && (Zi (g 1) && true))=true
   rw [hw 0,hw 1]; rfl
  ·refine ⟨⟨#[g 0,g 1,g 2]⟩,rfl, ?_⟩
   show (Zi (g 0) && (Zi (g 1) && (Zi (g 2) && true)))=true
   rw [hw 0,hw 1,hw 2]; rfl
theorem VX (j:Int):zP (.int 5) (.int j)= .ok (.int (5*j)):=by
 show (if wa 5 j then R.ok (T.int (5*j)) else .bad)=_
 rw [if_pos (.inl ⟨by decide,by decide⟩)]
theorem Wg {f g:En->R T} {ρ:En} {x y:T} (hf:f ρ= .ok x) (hg:g ρ= .ok y):Z4 (z3 f (z3 g zc)) ρ= .ok (.tup [x,y]):=by
 unfold Z4 z3 zc
 rw [hf,hg]; rfl
theorem xX {f g h:En->R T} {ρ:En} {x y z:T} (hf:f ρ= .ok x) (hg:g ρ= .ok y) (hh:h ρ= .ok z):Z4 (z3 f (z3 g (z3 h zc))) ρ= .ok (.tup [x,y,z]):=by
 unfold Z4 z3 zc
 rw [hf,hg,hh]; rfl
theorem xY {f g h i:En->R T} {ρ:En} {x y z w:T} (hf:f ρ= .ok x) (hg:g ρ= .ok y) (hh:h ρ= .ok z) (hi:i ρ= .ok w):Z4 (z3 f (z3 g (z3 h (z3 i zc)))) ρ= .ok (.tup [x,y,z,w]):=by
 unfold Z4 z3 zc
 rw [hf,hg,hh,hi]; rfl
def Dst (ws:List Str):Prop:=∀ (k:Nat) (w:Str),ws[k]? =some w->w ∉ ws.take k
theorem Dst.add {ws:List Str} (h:Dst ws) {w:Str} (hw:w ∉ ws):Dst (ws++[w]):=fun k x hx=>by
 by_cases hk:k < ws.length
 ·rw [List.getElem?_append_left hk] at hx
  rw [List.take_append_of_le_length (by omega)]
  exact h k x hx
 ·rw [List.getElem?_append_right (by omega)] at hx
  have hk' :k=ws.length:=by
   rcases Nat.lt_or_ge (k - ws.length) 1 with z | z
   ·omega
   ·rw [List.getElem?_eq_none (by simpa using z)] at hx; cases hx
  subst hk'
  rw [Nat.sub_self] at hx
  cases hx
  rw [List.take_left']
  ·exact hw
  ·rfl
abbrev wO:En->RS:=zC (Zy 5 (za 2 f_m (z3 (vE 0) (z3 (zb zu (zb zu (vE 1) (cE (.int 5))) (zb zP (cE (.int 5)) (vE 4))) (zc)))))
  (ifS (Z8 yR (vB 5) (vB 3)) (Vc 3 (vE 5)) (nxS))
theorem jZ (ns:List Int) (k:Int) (h0:0<=k):∀ (js:List Nat) (ws:List Str) (x4 x5:Sl),js.length+ws.length<=4->Dst ws->(∀ w∈ws,Zu (.str w)=true)->
  ∃ ws' y4 y5,ZO (zr 4) wO (js.map fun (j:Nat)=>T.int (0+(j:Int))) [.vl (scr ns), .vl (.int k), .un, .ow (ws.map T.str),x4,x5]= .nx [.vl (scr ns), .vl (.int k), .un, .ow (ws'.map T.str),y4,y5]/\ws'.length<=4/\Dst ws' /\(∀ w∈ws',Zu (.str w)=true)/\(0 < js.length+ws.length->0 < ws'.length)
 | [],ws,x4,x5,hl,hd,hw=>⟨ws,x4,x5,rfl,by simpa using hl,hd,hw,fun h=>by simpa using h⟩
 | j :: js,ws,x4,x5,hl,hd,hw=>by
  obtain ⟨w,ew,hw'⟩:=uu ns (k+5+5*(0+(j:Int))) (by omega)
  have hl' :js.length+ws.length+1<=4:=by simpa [List.length_cons,Nat.add_right_comm] using hl
  have e:ZO (zr 4) wO ((j :: js).map fun (j:Nat)=>T.int (0+(j:Int))) [.vl (scr ns), .vl (.int k), .un, .ow (ws.map T.str),x4,x5]=match wO [.vl (scr ns), .vl (.int k), .un, .ow (ws.map T.str), .vl (.int (0+(j:Int))),x5] with
   | .nx ρ2=>ZO (zr 4) wO (js.map fun (j:Nat)=>T.int (0+(j:Int))) ρ2
   | .ct ρ2=>ZO (zr 4) wO (js.map fun (j:Nat)=>T.int (0+(j:Int))) ρ2
   | .bk ρ2=> .nx ρ2
   | r=>r:=rfl
  have eb:wO [.vl (scr ns), .vl (.int k), .un, .ow (ws.map T.str), .vl (.int (0+(j:Int))),x5]= .nx [.vl (scr ns), .vl (.int k), .un, .ow ((if w∈ws then ws else ws++[w]).map T.str), .vl (.int (0+(j:Int))), .vl (.str w)]:=by
   have w3o:∀ (a b c:Sl) (ts:List T) (ρ:En),vB 3 (a :: b :: c :: .ow ts :: ρ)= .ok (.lst ts):=fun _ _ _ _ _=>rfl
   have hset:∀ t,([.vl (scr ns), .vl (.int k), .un, .ow (ws.map T.str), .vl (.int (0+(j:Int))),x5]:En).set 5 (.vl t)=[.vl (scr ns), .vl (.int k), .un, .ow (ws.map T.str), .vl (.int (0+(j:Int))), .vl t]:=fun _=>rfl
   have en:yR (.str w) (.lst (ws.map T.str))= .ok (!decide (w∈ws)):=by
    show ((match yQ (fun y=>eqF 30 y (.str w)) (ws.map T.str) with | some b=>R.ok b | none=> .bad)).bind (fun b=>R.ok (!b))=_
    rw [WO]; rfl
   simp only [wO,zT,jW,UO,v0,v1,v4,zk,Zq,bOk,Ze,VX,ew,ZC,hset,ZN,Zc,w5,w3o,en]
   by_cases hm:w∈ws
   ·rw [decide_eq_true hm,if_pos hm]; rfl
   ·rw [decide_eq_false hm,if_neg hm]
    have hb:(ws.map T.str).length < bnd:=by rw [List.length_map]; exact Nat.lt_of_le_of_lt (show ws.length<=4 by omega) (by decide)
    show (if (ws.map T.str).length < bnd then RS.nx _ else .bad)=_
    rw [if_pos hb,List.map_append]
    rfl
  rw [e,eb]
  by_cases hm:w∈ws
  ·rw [if_pos hm]
   obtain ⟨ws',y4,y5,r1,r2,r3,r4,r5⟩:=jZ ns k h0 js ws (.vl (.int (0+(j:Int)))) (.vl (.str w)) (by omega) hd hw
   exact ⟨ws',y4,y5,r1,r2,r3,r4,fun _=>r5 (by have:=List.length_pos_of_mem hm; omega)⟩
  ·rw [if_neg hm]
   obtain ⟨ws',y4,y5,r1,r2,r3,r4,r5⟩:=jZ ns k h0 js (ws++[w]) (.vl (.int (0+(j:Int)))) (.vl (.str w)) (by simp only [List.length_append,List.length_cons,List.length_nil]; omega) (hd.add hm) (fun x hx=>by
    rcases List.mem_append.mp hx with z | z
    ·exact hw x z
    ·rw [List.mem_singleton.mp z]; exact hw')
   exact ⟨ws',y4,y5,r1,r2,r3,r4,fun _=>r5 (by simp only [List.length_append,List.length_cons,List.length_nil]; omega)⟩
abbrev vQ:En->R T:=Z4 (z3 (vE 1) (z3 (zb zu (cE (.int 1)) (za 3 f_4 (z3 (vE 2) (z3 (zb zu (zb zu (vE 3) (cE (.int 30))) (vE 0)) (z3 (cE (.int 20)) (zc)))))) (zc)))
theorem WP (ns:List Int) (k:Int) (h0:0<=k):∀ (ws:List Str) (i:Nat) (x0 x1:Sl),(∀ w∈ws,Zu (.str w)=true)->∃ cs:List T,zv (zQ 0 1) zO vQ (((ws.map T.str).zipIdx i).map fun p=>T.tup [.int (p.2:Nat),p.1]) [x0,x1, .vl (scr ns), .vl (.int k)]= .ok cs/\cs.all zq=true/\cs.map Z0=ws
 | [],i,x0,x1,_=>⟨[],rfl,rfl,rfl⟩
 | w :: ws,i,x0,x1,hw=>by
  obtain ⟨p,e,p0,p1⟩:=Zb ns (k+30+i) 20 (by omega) (by omega)
  obtain ⟨cs,r1,r2,r3⟩:=WP ns k h0 ws (i+1) (.vl (.int (i:Int))) (.vl (.str w)) fun x hx=>hw x (List.mem_cons_of_mem _ hx)
  have ec:vQ [.vl (.int (i:Int)), .vl (.str w), .vl (scr ns), .vl (.int k)]= .ok (.tup [.str w, .int (1+p)]):=by
   have ea:za 3 f_4 (z3 (vE 2) (z3 (zb zu (zb zu (vE 3) (cE (.int 30))) (vE 0)) (z3 (cE (.int 20)) (zc)))) [.vl (.int (i:Int)), .vl (.str w), .vl (scr ns), .vl (.int k)]= .ok (.int p):=by
    simp only [ZF,v2,v3,v0,zk,Zq,bOk,Ze,e]
   have eb:zb zu (cE (.int 1)) (za 3 f_4 (z3 (vE 2) (z3 (zb zu (zb zu (vE 3) (cE (.int 30))) (vE 0)) (z3 (cE (.int 20)) (zc))))) [.vl (.int (i:Int)), .vl (.str w), .vl (scr ns), .vl (.int k)]= .ok (.int (1+p)):=by
    rw [zk,ea]; rfl
   exact Wg v1 eb
  refine ⟨.tup [.str w, .int (1+p)] :: cs, ?_, ?_, ?_⟩
  ·show ((vQ [.vl (.int (i:Int)), .vl (.str w), .vl (scr ns), .vl (.int k)]).bind fun v=>(zv (zQ 0 1) zO vQ (((ws.map T.str).zipIdx (i+1)).map fun p=>T.tup [.int (p.2:Nat),p.1]) [.vl (.int (i:Int)), .vl (.str w), .vl (scr ns), .vl (.int k)]).bind fun vs=>R.ok (v :: vs))=_
   rw [ec,r1]; rfl
  ·rw [List.all_cons,r2,Bool.and_true]
   show (Zu (.str w) && decide (1<=1+p) && decide (1+p<=20))=true
   rw [hw w List.mem_cons_self,decide_eq_true (by omega),decide_eq_true (by omega)]; rfl
  ·rw [List.map_cons,r3]; rfl
theorem UW (i j:Int):ud (.int i) (.int j)= .ok (.int (if j < i then j else i)):=rfl
theorem Qj (ns:List Int) (k:Int) (h0:0<=k):∃ t,f_j [scr ns, .int k]= .ok t/\∀ d,isK (d+1) t=true:=by
 have e:f_j [scr ns, .int k]=zh (b_j f_4 f_m [.vl (scr ns), .vl (.int k), .un, .un, .un, .un]):=rfl
 obtain ⟨p,e0,p0,p1⟩:=Zb ns k 3 h0 (by omega)
 rw [e,b_j,zT]
 simp only [ZN,Zc,ZF,v0,v1,Zq,bOk,e0,gtI,ZC]
 cases hp:decide (p > 0) with
 | true=>
  obtain ⟨q,e1,q0,q1⟩:=Zb ns (k+1) 7 (by omega) (by omega)
  obtain ⟨q3,e3,_,_⟩:=Zb ns (k+3) 8 (by omega) (by omega)
  obtain ⟨q4,e4,a4,b4⟩:=Zb ns (k+4) 3 (by omega) (by omega)
  obtain ⟨q2,e2,a2,b2⟩:=Zb ns (k+2) 4 (by omega) (by omega)
  have hset:∀ t x,([.vl (scr ns), .vl (.int k),x, .un, .un, .un]:En).set 2 (.vl t)=[.vl (scr ns), .vl (.int k), .vl t, .un, .un, .un]:=fun _ _=>rfl
  have fin:∀ low:Int, -20<=low->low<=20->∃ t,zh (zW (Z4 (z3 (cE (.str "whole")) (z3 (vE 2) (z3 (zb ud (cE (.int 20)) (zb zu (vE 2) (za 3 f_4 (z3 (vE 0) (z3 (zb zu (vE 1) (cE (.int 2))) (z3 (cE (.int 4)) (zc))))))) (zc))))) [.vl (scr ns), .vl (.int k), .vl (.int low), .un, .un, .un])= .ok t/\∀ d,isK (d+1) t=true:=by
   intro low hl1 hl2
   refine ⟨.tup [.str "whole", .int low, .int (if low+q2 < 20 then low+q2 else 20)], ?_,fun d=> ?_⟩
   ·rw [Zk,jr]
    refine xX rfl rfl ?_
    simp only [ZW,Jo,j5,zk,v2,v0,v1,ZF,Zq,bOk,Ze,e2,UW]
   ·show (decide (-20<=low) && decide (low<=_) && decide (_<=(20:Int)))=true
    rw [decide_eq_true hl1,decide_eq_true (by split <;> omega),decide_eq_true (by split <;> omega)]; rfl
  simp only [if_true,zT,jW,ZN,zk,ZF,v0,v1,Zq,bOk,Ze,e1,jY,ZC,hset,Zc,e3,eqI]
  cases hq:(q3 == 0) with
  | true=>
   have h3:q4=0\/q4=1\/q4=2:=by omega
   rcases h3 with rfl | rfl | rfl
   ·obtain ⟨t,r,s⟩:=fin (-20) (by omega) (by omega)
    refine ⟨t, ?_,s⟩
    rw [← r]
    simp only [if_true,e4,bOk]
    have hv:∀ ρ,(Jh (z3 (yv (cE (.int 20))) (z3 (cE (.int 17)) (z3 (cE (.int 20)) (zc)))) ρ)= .ok (.lst [.int (-20), .int 17, .int 20]):=fun _=>rfl
    simp only [hv,bOk]
    have hx:ixT (.lst [.int (-20), .int 17, .int 20]) (.int 0)= .ok (.int (-20)):=rfl
    simp only [hx,ZC,hset,Zk]
    generalize Z4 _ _=z
    cases z <;> rfl
   ·obtain ⟨t,r,s⟩:=fin (17) (by omega) (by omega)
    refine ⟨t, ?_,s⟩
    rw [← r]
    simp only [if_true,e4,bOk]
    have hv:∀ ρ,(Jh (z3 (yv (cE (.int 20))) (z3 (cE (.int 17)) (z3 (cE (.int 20)) (zc)))) ρ)= .ok (.lst [.int (-20), .int 17, .int 20]):=fun _=>rfl
    simp only [hv,bOk]
    have hx:ixT (.lst [.int (-20), .int 17, .int 20]) (.int 1)= .ok (.int (17)):=rfl
    simp only [hx,ZC,hset,Zk]
    generalize Z4 _ _=z
    cases z <;> rfl
   ·obtain ⟨t,r,s⟩:=fin (20) (by omega) (by omega)
    refine ⟨t, ?_,s⟩
    rw [← r]
    simp only [if_true,e4,bOk]
    have hv:∀ ρ,(Jh (z3 (yv (cE (.int 20))) (z3 (cE (.int 17)) (z3 (cE (.int 20)) (zc)))) ρ)= .ok (.lst [.int (-20), .int 17, .int 20]):=fun _=>rfl
    simp only [hv,bOk]
    have hx:ixT (.lst [.int (-20), .int 17, .int 20]) (.int 2)= .ok (.int (20)):=rfl
    simp only [hx,ZC,hset,Zk]
    generalize Z4 _ _=z
    cases z <;> rfl
  | false=>
   obtain ⟨t,r,s⟩:=fin (q - 3) (by omega) (by omega)
   refine ⟨t, ?_,s⟩
   rw [← r]
   simp only [Bool.false_eq_true,if_false,nxS,Zk]
   generalize Z4 _ _=z
   cases z <;> rfl
 | false=>
  obtain ⟨q,e1,q0,q1⟩:=Zb ns (k+1) 4 (by omega) (by omega)
  simp only [Bool.false_eq_true,if_false,nxS,zT]
  have ei:jf (zb zu (cE (.int 1)) (za 3 f_4 (z3 (vE 0) (z3 (zb zu (vE 1) (cE (.int 1))) (z3 (cE (.int 4)) (zc)))))) [.vl (scr ns), .vl (.int k), .un, .ow [], .un, .un]= .ok (rng 0 (1+q).toNat):=by
   unfold jf
   simp only [zk,ZF,v0,v1,Zq,bOk,Ze,e1]
   rw [if_pos ⟨by omega,by omega⟩]
  have el:uz 3 zc [.vl (scr ns), .vl (.int k), .un, .un, .un, .un]= .nx [.vl (scr ns), .vl (.int k), .un, .ow [], .un, .un]:=rfl
  rw [el]
  have hn:(List.range (1+q).toNat).length=(1+q).toNat:=List.length_range
  obtain ⟨ws,y4,y5,r1,r2,r3,r4,r5⟩:=jZ ns k h0 (List.range (1+q).toNat) [] .un .un (by rw [hn,List.length_nil]; omega) (fun k w h=>by cases h) (fun w h=>by cases h)
  have hpos:0 < ws.length:=r5 (by rw [hn,List.length_nil]; omega)
  have ef:jk (jf (zb zu (cE (.int 1)) (za 3 f_4 (z3 (vE 0) (z3 (zb zu (vE 1) (cE (.int 1))) (z3 (cE (.int 4)) (zc))))))) (zr 4) wO [.vl (scr ns), .vl (.int k), .un, .ow [], .un, .un]= .nx [.vl (scr ns), .vl (.int k), .un, .ow (ws.map T.str),y4,y5]:=by
   unfold jk
   rw [ei,ZC]
   exact r1
  obtain ⟨cs,s1,s2,s3⟩:=WP ns k h0 ws 0 .un .un r4
  have hcl:cs.length=ws.length:=by rw [← s3,List.length_map]
  refine ⟨.tup [.str "pick", .tup cs], ?_,fun d=> ?_⟩
  ·dsimp only
   rw [ef]
   dsimp only
   rw [Zk,jr]
   refine Wg rfl ?_
   rw [j6,zE]
   have ee:qY (vE 3) (frz [.vl (scr ns), .vl (.int k), .un, .ow (ws.map T.str),y4,y5])= .ok (Jm (ws.map T.str)):=rfl
   rw [ee,bOk]
   unfold zD
   rw [if_pos (by unfold Jm; rw [List.length_map,List.length_zipIdx,List.length_map]; exact Nat.le_trans r2 (by decide))]
   have ec:zv (zQ 0 1) zO vQ (Jm (ws.map T.str)) (Wa 2 [0,1] (frz [.vl (scr ns), .vl (.int k), .un, .ow (ws.map T.str),y4,y5]))= .ok cs:=s1
   rw [ec]
   rfl
  ·show (decide (1<=cs.length) && decide (cs.length<=4) && cs.all zq && decide ((dd [] (cs.map Z0)).length=cs.length))=true
   have hd:(dd [] (cs.map Z0)).length=cs.length:=by
    rw [s3,hcl]
    have:=(JQ ws []).mpr (fun k w h=>by simpa using r3 k w h)
    simpa using this
   rw [decide_eq_true (by omega),decide_eq_true (by omega),s2,decide_eq_true hd]; rfl
theorem uv (c:Int) (j:Int) (hc:wa c j):zP (.int c) (.int j)= .ok (.int (c*j)):=by
 show (if wa c j then R.ok (T.int (c*j)) else .bad)=_
 rw [if_pos hc]
theorem vR (j:Int):zP (.int 3) (.int j)= .ok (.int (3*j)):=uv _ _ (.inl ⟨by decide,by decide⟩)
theorem vS (j:Int):zP (.int 50) (.int j)= .ok (.int (50*j)):=uv _ _ (.inl ⟨by decide,by decide⟩)
abbrev Vg (c:List T->R T):En->R T:=za 3 c (z3 (vE 1) (z3 (zb zu (zb zu (zb zP (cE (.int 3)) (vE 2)) (cE (.int 40))) (zb zP (cE (.int 50)) (vE 0))) (z3 (zb yL (vE 3) (cE (.int 1))) (zc))))
theorem Wh (ns:List Int):∀ (d n:Nat),d<=n->1<=d->∀ k:Int,0<=k->∃ t,S_9 n 0 [scr ns, .int k, .int (d:Int)]= .ok t/\isK d t=true
 | d+1,n+1,hn,_,k,h0=>by
  have e:S_9 (n+1) 0 [scr ns, .int k, .int ((d+1:Nat):Int)]=zh (b_9 f_4 f_j (S_9 n 0) [.vl (scr ns), .vl (.int k), .vl (.int ((d+1:Nat):Int)), .un, .un, .un]):=rfl
  obtain ⟨p,e0,p0,p1⟩:=Zb ns k 5 h0 (by omega)
  obtain ⟨l,el,hl⟩:=Qj ns (k+1) (by omega)
  have hset:([.vl (scr ns), .vl (.int k), .vl (.int ((d+1:Nat):Int)), .un, .un, .un]:En).set 3 (.vl (.int p))=[.vl (scr ns), .vl (.int k), .vl (.int ((d+1:Nat):Int)), .vl (.int p), .un, .un]:=rfl
  rw [e,b_9]
  simp only [zT,jW,ZN,UQ,Zc,ZF,UO,v0,v1,v2,Zq,bOk,e0,ZC,hset,w2,w3,eqI,ltI,Ze,Zk,ZW,Jo,j5,zk,el]
  have hd1:((((d+1:Nat):Int) == 1))=decide (d=0):=by
   by_cases h:d=0
   ·subst h; rfl
   ·rw [decide_eq_false h,beq_eq_false_iff_ne]; omega
  rw [hd1]
  by_cases hleaf:d=0\/p < 2
  ·refine ⟨l, ?_,hl d⟩
   rcases hleaf with h | h
   ·rw [decide_eq_true h]; rfl
   ·rw [decide_eq_true h]
    cases decide (d=0) <;> rfl
  ·have hd0:¬ d=0:=fun z=>hleaf (.inl z)
   have hp2:¬ p < 2:=fun z=>hleaf (.inr z)
   have hsub:((d+1:Nat):Int) - 1=(d:Int):=by omega
   rw [decide_eq_false hd0,decide_eq_false hp2]
   simp only [Bool.false_eq_true,if_false,ZC,nxS,w3,v0,v1,v2,bOk,ltI,Zq]
   cases hp:decide (p < 4) with
   | true=>
    obtain ⟨q,e1,q0,q1⟩:=Zb ns (k+1) 3 (by omega) (by omega)
    have hj:∀ j:Nat,∃ t,Vg (S_9 n 0) [.vl (.int (0+(j:Int))), .vl (scr ns), .vl (.int k), .vl (.int ((d+1:Nat):Int))]= .ok t/\isK d t=true:=fun j=>by
     obtain ⟨t,r,s⟩:=Wh ns d n (by omega) (by omega) (3*k+40+50*(0+(j:Int))) (by omega)
     refine ⟨t, ?_,s⟩
     simp only [Vg,ZF,v0,v1,v2,v3,zk,Zq,bOk,vR,vS,Ze,jY,hsub,r]
    obtain ⟨g,hg⟩:=Classical.skolem.mp hj
    have ei:jf (zb zu (cE (.int 1)) (za 3 f_4 (z3 (vE 0) (z3 (zb zu (vE 1) (cE (.int 1))) (z3 (cE (.int 3)) (zc)))))) [.vl (scr ns), .vl (.int k), .vl (.int ((d+1:Nat):Int)), .vl (.int p), .un, .un]= .ok (rng 0 (1+q).toNat):=by
     unfold jf
     simp only [zk,ZF,v0,v1,Zq,bOk,Ze,e1]
     rw [if_pos ⟨by omega,by omega⟩]
    have ec:zD (zr 0) zO (Vg (S_9 n 0)) 1 [0,1,2] [.vl (scr ns), .vl (.int k), .vl (.int ((d+1:Nat):Int)), .vl (.int p), .un, .un] (rng 0 (1+q).toNat)= .ok ((rng 0 (1+q).toNat).map fun t=>match t with | .int j=>g j.toNat | t=>t):=
     zN (rng 0 (1+q).toNat) (by unfold rng; rw [List.length_map,List.length_range]; exact Nat.le_trans (show (1+q).toNat<=3 by omega) (by decide)) fun t ht=>by
      unfold rng at ht
      obtain ⟨j,_,rfl⟩:=List.mem_map.mp ht
      show Vg (S_9 n 0) [.vl (.int (0+(j:Int))), .vl (scr ns), .vl (.int k), .vl (.int ((d+1:Nat):Int))]= .ok (g (0+(j:Int)).toNat)
      rw [(hg j).1,Int.zero_add,Int.toNat_natCast]
    generalize hcs:((rng 0 (1+q).toNat).map fun t=>match t with | .int j=>g j.toNat | t=>t)=cs at ec
    have hlen:cs.length=(1+q).toNat:=by rw [← hcs]; unfold rng; rw [List.length_map,List.length_map,List.length_range]
    have hall:∀ t∈cs,isK d t=true:=fun t ht=>by
     rw [← hcs] at ht
     obtain ⟨u,hu,rfl⟩:=List.mem_map.mp ht
     unfold rng at hu
     obtain ⟨j,_,rfl⟩:=List.mem_map.mp hu
     exact (hg _).2
    refine ⟨.tup [.str "row", .tup cs], ?_, ?_⟩
    ·have hs4:([.vl (scr ns), .vl (.int k), .vl (.int ((d+1:Nat):Int)), .vl (.int p), .un, .un]:En).set 4 (.vl (.lst cs))=[.vl (scr ns), .vl (.int k), .vl (.int ((d+1:Nat):Int)), .vl (.int p), .vl (.lst cs), .un]:=rfl
     simp only [if_true,zE,ei,bOk,ec,ZC,hs4,ZW,Jo,j5]
     rfl
    ·show (decide (1<=cs.length) && decide (cs.length<=3) && cs.all (isK d))=true
     rw [decide_eq_true (by omega),decide_eq_true (by omega),List.all_eq_true.mpr hall]; rfl
   | false=>
    obtain ⟨q,e1,q0,q1⟩:=Zb ns (k+1) 3 (by omega) (by omega)
    obtain ⟨q2,e2,_,_⟩:=Zb ns (k+2) 3 (by omega) (by omega)
    obtain ⟨t,r,s⟩:=Wh ns d n (by omega) (by omega) (3*k+40) (by omega)
    refine ⟨.tup [.str "many",t, .int q, .int (if q+q2 < 3 then q+q2 else 3)], ?_, ?_⟩
    ·have hs5:([.vl (scr ns), .vl (.int k), .vl (.int ((d+1:Nat):Int)), .vl (.int p), .un, .un]:En).set 5 (.vl (.int q))=[.vl (scr ns), .vl (.int k), .vl (.int ((d+1:Nat):Int)), .vl (.int p), .un, .vl (.int q)]:=rfl
     simp only [Bool.false_eq_true,if_false,v0,v1,zk,Zq,bOk,Ze,e1,ZC,hs5,ZW,Jo,j5,jr]
     refine xY rfl ?_ rfl ?_
     ·simp only [ZF,v0,v1,v2,zk,Zq,bOk,vR,Ze,jY,hsub,r]
     ·have v5:∀ {t:T} {a b c d e:Sl} {ρ:En},vE 5 (a :: b :: c :: d :: e :: .vl t :: ρ)= .ok t:=rfl
      simp only [ZF,v0,v1,v5,zk,Zq,bOk,Ze,e2,UW]
    ·show (jq 0 3 (.int q) (.int _) && isK d t)=true
     rw [s,Bool.and_true]
     show (decide (0<=q) && decide (q<=_) && decide (_<=(3:Int)))=true
     rw [decide_eq_true (by omega),decide_eq_true (by split <;> omega),decide_eq_true (by split <;> omega)]; rfl
mutual
def dep:T->Nat
 | .tup xs=>yy xs+1
 | .lst xs=>yy xs+1
 | _=>1
def yy:List T->Nat
 | []=>0
 | t :: ts=>max (dep t) (yy ts)
end
mutual
def siz:T->Nat
 | .tup xs=>yz xs+1
 | .lst xs=>yz xs+1
 | _=>1
def yz:List T->Nat
 | []=>0
 | t :: ts=>siz t+yz ts
end
theorem jt {w:Str} {t:T} (h:isS w t=true):t= .str w:=by
 cases t with
 | str s=>
  have:(s == w)=true:=h
  rw [eq_of_beq this]
 | _=>cases h
theorem UX {lo hi:Int} {t:T} (h:inR lo hi t=true):∃ i,t= .int i:=by
 cases t with
 | int i=>exact ⟨i,rfl⟩
 | _=>cases h
theorem jA {lo hi:Int} {a b:T} (h:jq lo hi a b=true):∃ i j,a= .int i/\b= .int j:=by
 cases a with
 | int i=>
  cases b with
  | int j=>exact ⟨i,j,rfl,rfl⟩
  | _=>cases h
 | _=>cases h
structure Fit (D S:Nat) (t:T):Prop where
 so:sOk t
 dp:dep t<=D
 sz:siz t<=S
theorem uw {c:T} (h:zq c=true):Fit 2 3 c:=by
 unfold zq at h
 split at h
 ·rename_i w i
  have hw:Zu w=true:=by
   rw [Bool.and_eq_true,Bool.and_eq_true] at h
   exact h.1.1
  cases w with
  | str x=>
   have hx:(decide (1<=x.length) && decide (x.length<=3) && x.cps.toList.all Zi)=true:=hw
   rw [Bool.and_eq_true,Bool.and_eq_true,decide_eq_true_eq,decide_eq_true_eq] at hx
   refine ⟨?_, ?_, ?_⟩
   ·simp only [sOk,W1,and_true]
    exact Nat.le_trans hx.1.2 (by decide)
   ·simp [dep,yy]
   ·simp [siz,yz]
  | _=>cases hw
 ·cases h
theorem fits {D S:Nat}:∀ {cs:List T},(∀ c∈cs,Fit D S c)->W1 cs/\yy cs<=D/\yz cs<=S*cs.length
 | [],_=>⟨by simp only [W1],Nat.zero_le _,Nat.zero_le _⟩
 | c :: cs,h=>by
  obtain ⟨a,b,d⟩:=fits (cs:=cs) fun x hx=>h x (List.mem_cons_of_mem _ hx)
  obtain ⟨x,y,z⟩:=h c List.mem_cons_self
  refine ⟨?_, ?_, ?_⟩
  ·simp only [W1]; exact ⟨x,a⟩
  ·simp only [yy]; omega
  ·simp only [yz,List.length_cons,Nat.mul_add,Nat.mul_one]; omega
theorem JR:∀ (d:Nat) (t:T),isK d t=true->Fit (2*d+2) (15*4 ^ d) t
 | 0,_,h=>by cases h
 | d+1,t,h=>by
  have hpow:4 ^ (d+1)=4*4 ^ d:=by rw [Nat.pow_succ,Nat.mul_comm]
  have hone:1<=4 ^ d:=Nat.pow_pos (by omega)
  have h:ur (isK d) t=true:=h
  unfold ur at h
  split at h
  ·rename_i hd r
   split at h
   ·rename_i e
    rw [jt e]
    unfold wM at h
    split at h
    ·obtain ⟨i,j,rfl,rfl⟩:=jA h
     refine ⟨by simp only [sOk,W1,and_true]; decide,by simp only [dep,yy]; omega,by simp only [siz,yz]; omega⟩
    ·cases h
   ·split at h
    ·rename_i e
     rw [jt e]
     unfold UT at h
     split at h
     ·rename_i c
      unfold WN at h
      split at h
      ·rename_i cs
       rw [Bool.and_eq_true,Bool.and_eq_true,Bool.and_eq_true,decide_eq_true_eq,decide_eq_true_eq] at h
       obtain ⟨a,b,z⟩:=fits (D:=2) (S:=3) (cs:=cs) fun c hc=>uw (List.all_eq_true.mp h.1.2 c hc)
       refine ⟨by simp only [sOk,W1,and_true]; exact ⟨by decide,a⟩,by simp only [dep,yy]; omega,by simp only [siz,yz]; omega⟩
      ·cases h
     ·cases h
    ·split at h
     ·rename_i e
      rw [jt e]
      unfold vL at h
      split at h
      ·rename_i c
       unfold jX at h
       split at h
       ·rename_i cs
        rw [Bool.and_eq_true,Bool.and_eq_true,decide_eq_true_eq,decide_eq_true_eq] at h
        obtain ⟨a,b,z⟩:=fits (D:=2*d+2) (S:=15*4 ^ d) (cs:=cs) fun c hc=>JR d c (List.all_eq_true.mp h.2 c hc)
        have:15*4 ^ d*cs.length<=15*4 ^ d*3:=Nat.mul_le_mul_left _ h.1.2
        refine ⟨by simp only [sOk,W1,and_true]; exact ⟨by decide,a⟩,by simp only [dep,yy]; omega,by simp only [siz,yz]; omega⟩
       ·cases h
      ·cases h
     ·split at h
      ·rename_i e
       rw [jt e]
       unfold UU at h
       split at h
       ·rename_i c a b
        rw [Bool.and_eq_true] at h
        obtain ⟨i,j,rfl,rfl⟩:=jA h.1
        obtain ⟨x,y,z⟩:=JR d c h.2
        refine ⟨by simp only [sOk,W1,and_true]; exact ⟨by decide,x⟩,by simp only [dep,yy]; omega,by simp only [siz,yz]; omega⟩
       ·cases h
      ·cases h
  ·cases h
theorem VY {f:En->R T} {ρ:En} {x:T} (hf:f ρ= .ok x):Z4 (z3 f zc) ρ= .ok (.tup [x]):=by
 unfold Z4 z3 zc
 rw [hf]; rfl
theorem vT {xs ys:List T} (h:xs.length+ys.length<=bnd):zu (.tup xs) (.tup ys)= .ok (.tup (xs++ys)):=if_pos h
theorem vU (j:Int):zP (.int 2) (.int j)= .ok (.int (2*j)):=uv _ _ (.inl ⟨by decide,by decide⟩)
theorem Jw (ρ:En):nxS ρ= .nx ρ:=rfl
inductive Kd where
 | whole (lo hi:Int)
 | pick (cs:List (Str×Int))
 | row (ks:List Kd)
 | many (k:Kd) (lo hi:Nat)
def j7 (c:Str×Int):T:= .tup [.str c.1, .int c.2]
mutual
def Kd.t:Kd->T
 | .whole lo hi=> .tup [.str "whole", .int lo, .int hi]
 | .pick cs=> .tup [.str "pick", .tup (cs.map j7)]
 | .row ks=> .tup [.str "row", .tup (Kd.ts ks)]
 | .many k lo hi=> .tup [.str "many",k.t, .int (lo:Int), .int (hi:Int)]
def Kd.ts:List Kd->List T
 | []=>[]
 | k :: ks=>k.t :: Kd.ts ks
end
theorem Kd.ts_map:∀ ks:List Kd,Kd.ts ks=ks.map Kd.t
 | []=>by simp only [Kd.ts,List.map_nil]
 | k :: ks=>by simp only [Kd.ts,List.map_cons,Kd.ts_map ks]
def Kd.Ok:Nat->Kd->Prop
 | 0,_=>False
 | _+1, .whole lo hi=> -20<=lo/\lo<=hi/\hi<=20
 | _+1, .pick cs=>1<=cs.length/\cs.length<=4/\(∀ c∈cs,Zu (.str c.1)=true/\1<=c.2/\c.2<=20)/\Dst (cs.map (·.1))
 | d+1, .row ks=>1<=ks.length/\ks.length<=3/\∀ k∈ks,Kd.Ok d k
 | d+1, .many k lo hi=>lo<=hi/\hi<=3/\Kd.Ok d k
theorem UY {c:T} (h:zq c=true):∃ p:Str×Int,c=j7 p/\Zu (.str p.1)=true/\1<=p.2/\p.2<=20:=by
 unfold zq at h
 split at h
 ·rename_i w i
  rw [Bool.and_eq_true,Bool.and_eq_true,decide_eq_true_eq,decide_eq_true_eq] at h
  cases w with
  | str x=>exact ⟨(x,i),rfl,h.1.1,h.1.2,h.2⟩
  | _=>cases h.1.1
 ·cases h
theorem Wi {α:Type} {P:T->Prop} {Q:α->Prop} {f:α->T} (H:∀ t,P t->∃ a,t=f a/\Q a):∀ (ts:List T),(∀ t∈ts,P t)->∃ as:List α,ts=as.map f/\∀ a∈as,Q a
 | [],_=>⟨[],rfl,fun _ h=>nomatch h⟩
 | t :: ts,h=>by
  obtain ⟨a,rfl,ha⟩:=H t (h t List.mem_cons_self)
  obtain ⟨as,rfl,has⟩:=Wi H ts fun u hu=>h u (List.mem_cons_of_mem _ hu)
  exact ⟨a :: as,rfl,fun b hb=>by
   rcases List.mem_cons.mp hb with rfl | hb
   ·exact ha
   ·exact has b hb⟩
theorem Wj:∀ (d:Nat) (t:T),isK d t=true->∃ k:Kd,t=k.t/\k.Ok d
 | 0,_,h=>by cases h
 | d+1,t,h=>by
  have h:ur (isK d) t=true:=h
  unfold ur at h
  split at h
  ·rename_i hd r
   split at h
   ·rename_i e
    rw [jt e]
    unfold wM at h
    split at h
    ·obtain ⟨i,j,rfl,rfl⟩:=jA h
     have h:(decide (-20<=i) && decide (i<=j) && decide (j<=20))=true:=h
     rw [Bool.and_eq_true,Bool.and_eq_true,decide_eq_true_eq,decide_eq_true_eq,decide_eq_true_eq] at h
     exact ⟨.whole i j,by simp only [Kd.t],h.1.1,h.1.2,h.2⟩
    ·cases h
   ·split at h
    ·rename_i e
     rw [jt e]
     unfold UT at h
     split at h
     ·rename_i c
      unfold WN at h
      split at h
      ·rename_i cs
       rw [Bool.and_eq_true,Bool.and_eq_true,Bool.and_eq_true,decide_eq_true_eq,decide_eq_true_eq,decide_eq_true_eq] at h
       obtain ⟨⟨⟨h1,h2⟩,h3⟩,h4⟩:=h
       obtain ⟨as,rfl,has⟩:=Wi (fun t ht=>UY ht) cs fun c hc=>List.all_eq_true.mp h3 c hc
       rw [List.length_map] at h1 h2
       refine ⟨.pick as,by simp only [Kd.t],h1,h2,has, ?_⟩
       have e1:(as.map j7).map Z0=as.map (·.1):=by rw [List.map_map]; rfl
       rw [e1] at h4
       have:=(JQ (as.map (·.1)) []).mp (by rw [h4,List.length_map,List.length_map]; simp)
       exact fun k w hw hm=>this k w hw (by simpa using hm)
      ·cases h
     ·cases h
    ·split at h
     ·rename_i e
      rw [jt e]
      unfold vL at h
      split at h
      ·rename_i c
       unfold jX at h
       split at h
       ·rename_i cs
        rw [Bool.and_eq_true,Bool.and_eq_true,decide_eq_true_eq,decide_eq_true_eq] at h
        obtain ⟨ks,rfl,hks⟩:=Wi (fun t ht=>Wj d t ht) cs fun c hc=>List.all_eq_true.mp h.2 c hc
        rw [List.length_map] at h
        exact ⟨.row ks,by simp only [Kd.t,Kd.ts_map],h.1.1,h.1.2,hks⟩
       ·cases h
      ·cases h
     ·split at h
      ·rename_i e
       rw [jt e]
       unfold UU at h
       split at h
       ·rename_i c a b
        rw [Bool.and_eq_true] at h
        obtain ⟨h1,h2⟩:=h
        obtain ⟨i,j,rfl,rfl⟩:=jA h1
        obtain ⟨k,rfl,hk⟩:=Wj d c h2
        have h1:(decide (0<=i) && decide (i<=j) && decide (j<=3))=true:=h1
        rw [Bool.and_eq_true,Bool.and_eq_true,decide_eq_true_eq,decide_eq_true_eq,decide_eq_true_eq] at h1
        obtain ⟨⟨a1,a2⟩,a3⟩:=h1
        obtain ⟨m,rfl⟩:=Int.eq_ofNat_of_zero_le a1
        obtain ⟨n,rfl⟩:=Int.eq_ofNat_of_zero_le (Int.le_trans a1 a2)
        exact ⟨.many k m n,by simp only [Kd.t],by omega,by omega,hk⟩
       ·cases h
      ·cases h
  ·cases h
def Jp (made:List (List T)):List (List T)->List (List T)
 | []=>made
 | ls :: r=>Jp (made.flatMap fun a=>ls.map fun x=>a++[x]) r
abbrev Wk (ls:List (List T)):List T:=(Jp [[]] ls).map T.tup
mutual
def Kd.all:Kd->List T
 | .whole lo hi=>(List.range (hi+1 - lo).toNat).map fun (i:Nat)=>T.int (lo+(i:Int))
 | .pick cs=>cs.map fun c=>T.str c.1
 | .row ks=>Wk (Kd.alls ks)
 | .many k lo hi=>(List.range (hi+1 - lo)).flatMap fun i=>Wk (List.replicate (lo+i) k.all)
def Kd.alls:List Kd->List (List T)
 | []=>[]
 | k :: ks=>k.all :: Kd.alls ks
end
theorem Kd.alls_map:∀ ks:List Kd,Kd.alls ks=ks.map Kd.all
 | []=>by simp only [Kd.alls,List.map_nil]
 | k :: ks=>by simp only [Kd.alls,List.map_cons,Kd.alls_map ks]
def prd:List Nat->Nat
 | []=>1
 | n :: r=>n*prd r
theorem JS:∀ {ns:List Nat},(∀ n∈ns,1<=n)->1<=prd ns
 | [],_=>Nat.le_refl _
 | n :: ns,h=>Nat.mul_pos (h n List.mem_cons_self) (JS fun m hm=>h m (List.mem_cons_of_mem _ hm))
theorem jB {α β:Type} (f:α->List β) (n:Nat):∀ as:List α,(∀ a∈as,(f a).length=n)->(as.flatMap f).length=as.length*n
 | [],_=>by simp
 | a :: as,h=>by
  rw [List.flatMap_cons,List.length_append,h a List.mem_cons_self,jB f n as fun b hb=>h b (List.mem_cons_of_mem _ hb),List.length_cons,Nat.add_mul,Nat.one_mul,Nat.add_comm]
theorem wP:∀ (ls:List (List T)) (made:List (List T)),(Jp made ls).length=made.length*prd (ls.map (·.length))
 | [],made=>by simp [Jp,prd]
 | l :: ls,made=>by
  rw [Jp,wP ls,jB _ l.length made fun a _=>List.length_map ..,List.map_cons,prd,Nat.mul_assoc]
abbrev YQ:En->RS:=W0 3 (zY (ZD (vE 2)) (zr 0) (zO) (zb zu (vE 1) (Z4 (z3 (vE 0) (zc)))) 1 [4])
theorem WQ {L M:T} {l:List T} (hl:l.length<=bnd):∀ (as:List (List T)) (acc:List T) (x:Sl),(∀ a∈as,a.length<=1000)->acc.length+as.length*l.length<=bnd->
  ∃ y,ZO (zr 4) YQ (as.map T.tup) [.vl L, .vl M, .vl (.lst l), .ow acc,x]= .nx [.vl L, .vl M, .vl (.lst l), .ow (acc++(as.flatMap fun a=>l.map fun x=>a++[x]).map T.tup),y]
 | [],acc,x,_,_=>⟨x,by simp [ZO]⟩
 | a :: as,acc,x,ha,hb=>by
  have ha1:=ha a List.mem_cons_self
  have hb1:bnd=16777216:=rfl
  rw [List.length_cons,Nat.add_mul,Nat.one_mul] at hb
  have ec:zD (zr 0) zO (zb zu (vE 1) (Z4 (z3 (vE 0) (zc)))) 1 [4] [.vl L, .vl M, .vl (.lst l), .ow acc, .vl (.tup a)] l= .ok (l.map fun x=>T.tup (a++[x])):=
   zN (h:=fun x=>T.tup (a++[x])) l hl fun x hx=>by
    show zb zu (vE 1) (Z4 (z3 (vE 0) (zc))) [.vl x, .vl (.tup a)]=_
    rw [zk,v1,bOk,VY v0,bOk]
    exact vT (by rw [List.length_singleton]; omega)
  have eb:YQ [.vl L, .vl M, .vl (.lst l), .ow acc, .vl (.tup a)]= .nx [.vl L, .vl M, .vl (.lst l), .ow (acc++l.map fun x=>T.tup (a++[x])), .vl (.tup a)]:=by
   show ((zY _ _ _ _ _ _ _).s fun t=>match t with | .lst us=>if acc.length+us.length<=bnd then RS.nx _ else .bad | _=> .bad)=_
   rw [zE,Zv,v2,bOk]
   show (((zD _ _ _ _ _ _ l).bind _).s _)=_
   rw [ec,bOk,ZC]
   show (if _ then _ else _)=_
   rw [if_pos (by rw [List.length_map]; omega)]
   rfl
  obtain ⟨y,ih⟩:=WQ hl as (acc++l.map fun x=>T.tup (a++[x])) (.vl (.tup a)) (fun b hb=>ha b (List.mem_cons_of_mem _ hb)) (by rw [List.length_append,List.length_map]; omega)
  refine ⟨y, ?_⟩
  have e:ZO (zr 4) YQ ((a :: as).map T.tup) [.vl L, .vl M, .vl (.lst l), .ow acc,x]=match YQ [.vl L, .vl M, .vl (.lst l), .ow acc, .vl (.tup a)] with
   | .nx ρ2=>ZO (zr 4) YQ (as.map T.tup) ρ2
   | .ct ρ2=>ZO (zr 4) YQ (as.map T.tup) ρ2
   | .bk ρ2=> .nx ρ2
   | r=>r:=rfl
  rw [e,eb]
  dsimp only
  rw [ih,List.flatMap_cons,List.map_append,List.map_map,List.append_assoc]
  rfl
abbrev wQ:En->RS:=(zC (uz 3 (zc))
  (zC (jk (ZD (vE 1)) (zr 4) YQ)
  (mvS 1 3)))
theorem wR {L:T} (m:Nat):∀ (ls:List (List T)) (made:List (List T)) (k:Nat) (x y z:Sl),(∀ a∈made,a.length<=k)->k+ls.length<=1000->(∀ l∈ls,1<=l.length)->made.length*prd (ls.map (·.length))<=bnd->1<=made.length->
  ∃ x' y' z',ZO (zr 2) wQ (ls.map T.lst) [.vl L, .vl (.lst (made.map T.tup)),x,y,z]= .nx [.vl L, .vl (.lst ((Jp made ls).map T.tup)),x',y',z']
 | [],made,k,x,y,z,_,_,_,_,_=>⟨x,y,z,by simp [ZO,Jp]⟩
 | l :: ls,made,k,x,y,z,hk,hkl,hpos,hb,hm=>by
  have hpr:1<=prd (ls.map (·.length)):=JS fun n hn=>by
   obtain ⟨l',hl',rfl⟩:=List.mem_map.mp hn
   exact hpos l' (List.mem_cons_of_mem _ hl')
  rw [List.map_cons,prd,← Nat.mul_assoc] at hb
  have hb1:made.length*l.length<=bnd:=Nat.le_trans (Nat.le_mul_of_pos_right _ hpr) hb
  have hll:l.length<=bnd:=Nat.le_trans (Nat.le_mul_of_pos_left _ hm) hb1
  rw [List.length_cons] at hkl
  obtain ⟨w,er⟩:=WQ (L:=L) (M:= .lst (made.map T.tup)) hll made [] z (fun a ha=>Nat.le_trans (hk a ha) (by omega)) (by rw [List.length_nil]; omega)
  rw [List.nil_append] at er
  have es:wQ [.vl L, .vl (.lst (made.map T.tup)), .vl (.lst l),y,z]= .nx [.vl L, .vl (.lst ((made.flatMap fun a=>l.map fun x=>a++[x]).map T.tup)), .vl (.lst l), .vl (.lst ((made.flatMap fun a=>l.map fun x=>a++[x]).map T.tup)),w]:=by
   have e0:uz 3 (zc) [.vl L, .vl (.lst (made.map T.tup)), .vl (.lst l),y,z]= .nx [.vl L, .vl (.lst (made.map T.tup)), .vl (.lst l), .ow [],z]:=rfl
   have e1:jk (ZD (vE 1)) (zr 4) YQ [.vl L, .vl (.lst (made.map T.tup)), .vl (.lst l), .ow [],z]= .nx [.vl L, .vl (.lst (made.map T.tup)), .vl (.lst l), .ow ((made.flatMap fun a=>l.map fun x=>a++[x]).map T.tup),w]:=er
   unfold wQ
   rw [zT,e0]
   dsimp only
   rw [zT,e1]
   rfl
  obtain ⟨x',y',z',ih⟩:=wR (L:=L) m ls (made.flatMap fun a=>l.map fun x=>a++[x]) (k+1) (.vl (.lst l)) (.vl (.lst ((made.flatMap fun a=>l.map fun x=>a++[x]).map T.tup))) w (fun a ha=>by
   obtain ⟨b,hb,hx⟩:=List.mem_flatMap.mp ha
   obtain ⟨u,_,rfl⟩:=List.mem_map.mp hx
   have:=hk b hb
   rw [List.length_append,List.length_singleton]; omega) (by omega) (fun l' hl' =>hpos l' (List.mem_cons_of_mem _ hl')) (by
    rw [jB _ l.length made fun a _=>List.length_map ..]; exact hb) (by
    rw [jB _ l.length made fun a _=>List.length_map ..]; exact Nat.mul_pos hm (hpos l List.mem_cons_self))
  refine ⟨x',y',z', ?_⟩
  have e:ZO (zr 2) wQ ((l :: ls).map T.lst) [.vl L, .vl (.lst (made.map T.tup)),x,y,z]=match wQ [.vl L, .vl (.lst (made.map T.tup)), .vl (.lst l),y,z] with
   | .nx ρ2=>ZO (zr 2) wQ (ls.map T.lst) ρ2
   | .ct ρ2=>ZO (zr 2) wQ (ls.map T.lst) ρ2
   | .bk ρ2=> .nx ρ2
   | r=>r:=rfl
  rw [e,es]
  exact ih
theorem UZ (ls:List (List T)) (hl:ls.length<=1000) (hpos:∀ l∈ls,1<=l.length) (hb:prd (ls.map (·.length))<=bnd):f_c [.lst (ls.map T.lst)]= .ok (.lst (Wk ls)):=by
 obtain ⟨x',y',z',er⟩:=wR (L:= .lst (ls.map T.lst)) 0 ls [[]] 0 .un .un .un (fun a ha=>by rw [List.mem_singleton.mp ha]; exact Nat.le_refl _) (by omega) hpos (by rw [List.length_singleton,Nat.one_mul]; exact hb) (Nat.le_refl _)
 have e:f_c [.lst (ls.map T.lst)]=zh (b_c [.vl (.lst (ls.map T.lst)), .un, .un, .un, .un]):=rfl
 have e0:Zy 1 (Jh (z3 (Z4 (zc)) (zc))) [.vl (.lst (ls.map T.lst)), .un, .un, .un, .un]= .nx [.vl (.lst (ls.map T.lst)), .vl (.lst [.tup []]), .un, .un, .un]:=rfl
 have e1:jk (ZD (vE 0)) (zr 2) wQ [.vl (.lst (ls.map T.lst)), .vl (.lst [.tup []]), .un, .un, .un]= .nx [.vl (.lst (ls.map T.lst)), .vl (.lst (Wk ls)),x',y',z']:=er
 rw [e,b_c,zT,e0]
 dsimp only
 rw [zT,e1]
 rfl
theorem JT (n:Nat):∀ m:Nat,prd (List.replicate m n)=n ^ m
 | 0=>rfl
 | m+1=>by rw [List.replicate_succ,prd,JT n m,Nat.pow_succ,Nat.mul_comm]
theorem JU (ls:List (List T)):(Wk ls).length=prd (ls.map (·.length)):=by
 unfold Wk
 rw [List.length_map,wP,List.length_singleton,Nat.one_mul]
def pw (n lo hi:Nat):Nat:=((List.range (hi+1 - lo)).map fun i=>n ^ (lo+i)).sum
theorem jC (k:Kd) (lo hi:Nat):(Kd.many k lo hi).all.length=pw k.all.length lo hi:=by
 rw [Kd.all,List.length_flatMap,pw]
 congr 1
 refine List.map_congr_left fun i _=> ?_
 rw [JU,List.map_replicate,JT]
theorem JV (ks:List Kd):(Kd.row ks).all.length=prd (ks.map fun k=>k.all.length):=by
 rw [Kd.all,JU,Kd.alls_map,List.map_map]; rfl
theorem J0 (lo hi:Int):(Kd.whole lo hi).all.length=(hi+1 - lo).toNat:=by
 rw [Kd.all,List.length_map,List.length_range]
theorem WR (cs:List (Str×Int)):(Kd.pick cs).all.length=cs.length:=by
 rw [Kd.all,List.length_map]
theorem Qk {lo hi:Nat} (h:lo<=hi) (h3:hi<=3):(lo=0/\hi=0)\/(lo=0/\hi=1)\/(lo=0/\hi=2)\/(lo=0/\hi=3)\/(lo=1/\hi=1)\/(lo=1/\hi=2)\/(lo=1/\hi=3)\/(lo=2/\hi=2)\/(lo=2/\hi=3)\/(lo=3/\hi=3):=by omega
def iv (b:Bool):Nat:=if b then 1 else 0
theorem Ql (n:Nat) {lo hi:Nat} (h:lo<=hi) (h3:hi<=3):pw n lo hi=iv (lo == 0)+n*iv (decide (lo<=1) && decide (1<=hi))+n*n*iv (decide (lo<=2) && decide (2<=hi))+n*n*n*iv (hi == 3):=by
 rcases Qk h h3 with ⟨rfl,rfl⟩ | ⟨rfl,rfl⟩ | ⟨rfl,rfl⟩ | ⟨rfl,rfl⟩ | ⟨rfl,rfl⟩ | ⟨rfl,rfl⟩ | ⟨rfl,rfl⟩ | ⟨rfl,rfl⟩ | ⟨rfl,rfl⟩ | ⟨rfl,rfl⟩ <;>
  simp [pw,List.range_succ,iv,Nat.pow_succ]
 all_goals omega
theorem vV {n:Nat} (hn:1<=n) {lo hi:Nat} (h:lo<=hi) (h3:hi<=3):1<=pw n lo hi:=by
 have h2:1<=n*n:=Nat.mul_pos hn hn
 have h1:1<=n*n*n:=Nat.mul_pos h2 hn
 rw [Ql n h h3]
 rcases Qk h h3 with ⟨rfl,rfl⟩ | ⟨rfl,rfl⟩ | ⟨rfl,rfl⟩ | ⟨rfl,rfl⟩ | ⟨rfl,rfl⟩ | ⟨rfl,rfl⟩ | ⟨rfl,rfl⟩ | ⟨rfl,rfl⟩ | ⟨rfl,rfl⟩ | ⟨rfl,rfl⟩ <;>
  simp [iv] <;> omega
theorem VZ {n N:Nat} (hn:n<=N) {lo hi:Nat} (h:lo<=hi) (h3:hi<=3):pw n lo hi<=1+N+N*N+N*N*N:=by
 have h2:n*n<=N*N:=Nat.mul_le_mul hn hn
 have h1:n*n*n<=N*N*N:=Nat.mul_le_mul h2 hn
 rw [Ql n h h3]
 rcases Qk h h3 with ⟨rfl,rfl⟩ | ⟨rfl,rfl⟩ | ⟨rfl,rfl⟩ | ⟨rfl,rfl⟩ | ⟨rfl,rfl⟩ | ⟨rfl,rfl⟩ | ⟨rfl,rfl⟩ | ⟨rfl,rfl⟩ | ⟨rfl,rfl⟩ | ⟨rfl,rfl⟩ <;>
  simp [iv] <;> omega
theorem YR {N:Nat} (hN:1<=N):∀ (ns:List Nat),(∀ n∈ns,n<=N)->prd ns<=N ^ ns.length
 | [],_=>Nat.le_refl _
 | n :: ns,h=>by
  rw [prd,List.length_cons,Nat.pow_succ,Nat.mul_comm]
  exact Nat.mul_le_mul (YR hN ns fun m hm=>h m (List.mem_cons_of_mem _ hm)) (h n List.mem_cons_self)
theorem J4:∀ (d:Nat) (k:Kd),k.Ok d->1<=k.all.length
 | 0,_,h=>h.elim
 | d+1, .whole lo hi,h=>by
  obtain ⟨_,h2,_⟩:=h
  rw [J0]; omega
 | d+1, .pick cs,h=>by
  rw [WR]; exact h.1
 | d+1, .row ks,h=>by
  rw [JV]
  refine JS fun n hn=> ?_
  obtain ⟨k,hk,rfl⟩:=List.mem_map.mp hn
  exact J4 d k (h.2.2 k hk)
 | d+1, .many k lo hi,h=>by
  rw [jC]
  exact vV (J4 d k h.2.2) h.1 h.2.1
def mx:Nat->Nat
 | 0=>0
 | 1=>41
 | d+1=>1+mx d+mx d*mx d+mx d*mx d*mx d
theorem YS (d:Nat):41<=mx (d+1):=by
 induction d with
 | zero=>exact Nat.le_refl _
 | succ d ih=>
  show 41<=1+mx (d+1)+mx (d+1)*mx (d+1)+mx (d+1)*mx (d+1)*mx (d+1)
  omega
theorem y0 (d:Nat) (n:Nat) (h:n<=41):n<=mx (d+1):=Nat.le_trans h (YS d)
theorem Qm {N m:Nat} (hN:1<=N) (h:m<=3):N ^ m<=1+N+N*N+N*N*N:=by
 have:m=0\/m=1\/m=2\/m=3:=by omega
 rcases this with rfl | rfl | rfl | rfl <;> simp [Nat.pow_succ] <;> omega
theorem Jx:∀ (d:Nat) (k:Kd),k.Ok d->k.all.length<=mx d
 | 0,_,h=>h.elim
 | d+1, .whole lo hi,h=>by
  obtain ⟨h1,h2,h3⟩:=h
  rw [J0]; exact y0 d _ (by omega)
 | d+1, .pick cs,h=>by
  rw [WR]; exact y0 d _ (Nat.le_trans h.2.1 (by omega))
 | 1, .row ks,h=>by
  obtain ⟨h1,h2,h3⟩:=h
  match ks,h1,h3 with
  | k :: _,_,h3=>exact (h3 k List.mem_cons_self).elim
 | d+2, .row ks,h=>by
  obtain ⟨h1,h2,h3⟩:=h
  rw [JV]
  have hp:=Nat.le_trans (by omega:1<=41) (YS d)
  have:=YR hp (ks.map fun k=>k.all.length) fun n hn=>by
   obtain ⟨k,hk,rfl⟩:=List.mem_map.mp hn
   exact Jx (d+1) k (h3 k hk)
  rw [List.length_map] at this
  exact Nat.le_trans this (Qm hp h2)
 | 1, .many k lo hi,h=>h.2.2.elim
 | d+2, .many k lo hi,h=>by
  rw [jC]
  exact VZ (Jx (d+1) k h.2.2) h.1 h.2.1
theorem zi {f g:En->RS} {ρ ρ' :En} (h:f ρ= .nx ρ'):zC f g ρ=g ρ' :=by rw [zT,h]
theorem cs0 {x w:Str} {r:List T} {ρ:En}:Z8 eqC (zb ixT (vE 0) (cE (.int 0))) (cE (.str w)) (.vl (.tup (.str x :: r)) :: ρ)= .ok (x == w):=by
 rw [Zc,zk,v0,bOk,Zq,bOk,at0,bOk,Zq,bOk,eqS]; rfl
theorem Wl {a b:T} {r:List T} {ρ:En}:zb ixT (vE 0) (cE (.int 1)) (.vl (.tup (a :: b :: r)) :: ρ)= .ok b:=by
 rw [zk,v0,bOk,Zq,bOk,at1]
theorem YT {a b c:T} {r:List T} {ρ:En}:zb ixT (vE 0) (cE (.int 2)) (.vl (.tup (a :: b :: c :: r)) :: ρ)= .ok c:=by
 rw [zk,v0,bOk,Zq,bOk,at2]
theorem Qz {a b c d:T} {r:List T} {ρ:En}:zb ixT (vE 0) (cE (.int 3)) (.vl (.tup (a :: b :: c :: d :: r)) :: ρ)= .ok d:=by
 rw [zk,v0,bOk,Zq,bOk,at3]
theorem vW {f:En->R T} {ρ:En} {i:Int} (h:f ρ= .ok (.int i)):zb zu f (cE (.int 1)) ρ= .ok (.int (i+1)):=by
 rw [zk,h,bOk,Zq,bOk,Ze]
theorem y1 {f g:En->R T} {ρ:En} {i j:Int} (hf:f ρ= .ok (.int i)) (hg:g ρ= .ok (.int j)) (h: -1000000 < i/\i < 1000000/\ -1000000 < j/\j < 1000000):Jl f g ρ= .ok (rng i (j - i).toNat):=by
 unfold Jl
 rw [hf,bOk,hg,bOk]
 exact if_pos h
theorem Wm:∀ (cs:List (Str×Int)) (x y:Sl),zv (zQ 0 1) zO (vE 0) (cs.map j7) [x,y]= .ok (cs.map fun c=>T.str c.1)
 | [],_,_=>rfl
 | c :: cs,x,y=>by
  have e:zv (zQ 0 1) zO (vE 0) ((c :: cs).map j7) [x,y]=(zv (zQ 0 1) zO (vE 0) (cs.map j7) [.vl (.str c.1), .vl (.int c.2)]).bind fun vs=> .ok (.str c.1 :: vs):=rfl
  rw [e,Wm cs]; rfl
theorem vX {x:T} {m:Nat} (h:m<=3):zP (.lst [x]) (.int (m:Int))= .ok (.lst (List.replicate m [x]).flatten):=by
 unfold zP
 dsimp only
 have c:0<=(m:Int)/\(m:Int) < 1000000/\[x].length*(m:Int).toNat<=bnd:=by
  have hb:3<=bnd:=by decide
  refine ⟨by omega,by omega, ?_⟩
  rw [List.length_singleton,Int.toNat_natCast,Nat.one_mul]
  exact Nat.le_trans h hb
 rw [if_pos c,Int.toNat_natCast]
theorem WS {α:Type} (x:α):∀ m:Nat,(List.replicate m [x]).flatten=List.replicate m x
 | 0=>rfl
 | m+1=>by rw [List.replicate_succ,List.replicate_succ,List.flatten_cons,WS x m]; rfl
abbrev Jq (ca cr:List T->R T):En->RS:=W0 1 (za 1 cr (z3 (zb zP (Jh (z3 (za 1 ca (z3 (zb ixT (vE 0) (cE (.int 1))) (zc))) (zc))) (vE 2)) (zc)))
theorem xu {f:En->R T} {ρ:En} {x:T} (hf:f ρ= .ok x):Jh (z3 f zc) ρ= .ok (.lst [x]):=by
 unfold Jh z3 zc
 rw [hf]; rfl
theorem wS {ca:List T->R T} {k:Kd} {t:T} {lo:Nat} {ws:List T} (hw:ca [t]= .ok (.lst ws)) (hpos:1<=ws.length) {a b c:T}:∀ (js:List Nat) (acc:List T) (x:Sl),(∀ j∈js,lo+j<=3)->acc.length+(js.map fun j=>ws.length ^ (lo+j)).sum<=bnd->
  ∃ y,ZO (zr 2) (Jq ca f_c) (js.map fun (j:Nat)=>T.int ((lo:Int)+(j:Int))) [.vl (.tup [a,t,b,c]), .ow acc,x]= .nx [.vl (.tup [a,t,b,c]), .ow (acc++js.flatMap fun j=>Wk (List.replicate (lo+j) ws)),y]
 | [],acc,x,_,_=>⟨x,by simp [ZO]⟩
 | j :: js,acc,x,hj,hb=>by
  have hj1:=hj j List.mem_cons_self
  have hb1:bnd=16777216:=rfl
  rw [List.map_cons,List.sum_cons] at hb
  have er:f_c [.lst ((List.replicate (lo+j) ws).map T.lst)]= .ok (.lst (Wk (List.replicate (lo+j) ws))):=UZ _ (by rw [List.length_replicate]; omega) (fun l hl=>by rw [List.eq_of_mem_replicate hl]; exact hpos) (by rw [List.map_replicate,JT]; omega)
  have hlen:(Wk (List.replicate (lo+j) ws)).length=ws.length ^ (lo+j):=by rw [JU,List.map_replicate,JT]
  have em:zP (.lst [.lst ws]) (.int ((lo:Int)+(j:Int)))= .ok (.lst ((List.replicate (lo+j) ws).map T.lst)):=by
   have e1:(lo:Int)+(j:Int)=((lo+j:Nat):Int):=by omega
   rw [e1,vX (by omega),WS,List.map_replicate]
  have eb:Jq ca f_c [.vl (.tup [a,t,b,c]), .ow acc, .vl (.int ((lo:Int)+(j:Int)))]= .nx [.vl (.tup [a,t,b,c]), .ow (acc++Wk (List.replicate (lo+j) ws)), .vl (.int ((lo:Int)+(j:Int)))]:=by
   have e1:za 1 f_c (z3 (zb zP (Jh (z3 (za 1 ca (z3 (zb ixT (vE 0) (cE (.int 1))) (zc))) (zc))) (vE 2)) (zc)) [.vl (.tup [a,t,b,c]), .ow acc, .vl (.int ((lo:Int)+(j:Int)))]= .ok (.lst (Wk (List.replicate (lo+j) ws))):=by
    have e0:za 1 ca (z3 (zb ixT (vE 0) (cE (.int 1))) (zc)) [.vl (.tup [a,t,b,c]), .ow acc, .vl (.int ((lo:Int)+(j:Int)))]= .ok (.lst ws):=by
     rw [zR,Wl,bOk,hw]
    rw [zR,zk,xu e0,bOk,v2,bOk,em,bOk,er]
   show ((za 1 f_c _ _).s fun t=>match t with | .lst us=>if acc.length+us.length<=bnd then RS.nx _ else .bad | _=> .bad)=_
   rw [e1,ZC]
   show (if _ then _ else _)=_
   rw [if_pos (by rw [hlen]; omega)]
   rfl
  obtain ⟨y,ih⟩:=wS (k:=k) hw hpos (a:=a) (b:=b) (c:=c) js (acc++Wk (List.replicate (lo+j) ws)) (.vl (.int ((lo:Int)+(j:Int)))) (fun i hi=>hj i (List.mem_cons_of_mem _ hi)) (by rw [List.length_append,hlen]; omega)
  refine ⟨y, ?_⟩
  have e:ZO (zr 2) (Jq ca f_c) ((j :: js).map fun (j:Nat)=>T.int ((lo:Int)+(j:Int))) [.vl (.tup [a,t,b,c]), .ow acc,x]=match Jq ca f_c [.vl (.tup [a,t,b,c]), .ow acc, .vl (.int ((lo:Int)+(j:Int)))] with
   | .nx ρ2=>ZO (zr 2) (Jq ca f_c) (js.map fun (j:Nat)=>T.int ((lo:Int)+(j:Int))) ρ2
   | .ct ρ2=>ZO (zr 2) (Jq ca f_c) (js.map fun (j:Nat)=>T.int ((lo:Int)+(j:Int))) ρ2
   | .bk ρ2=> .nx ρ2
   | r=>r:=rfl
  rw [e,eb]
  dsimp only
  rw [ih,List.flatMap_cons,List.append_assoc]
theorem Ye {ca:List T->R T} {a t:T} {lo hi:Nat} (h1:lo<=hi) (h2:hi<=3) {x:Sl} {acc:List T} {r:RS}
  (el:ZO (zr 2) (Jq ca f_c) ((List.range (hi+1 - lo)).map fun (j:Nat)=>T.int ((lo:Int)+(j:Int))) [.vl (.tup [a,t, .int (lo:Int), .int (hi:Int)]), .ow acc,x]=r):
  jk (Jl (zb ixT (vE 0) (cE (.int 2))) (zb zu (zb ixT (vE 0) (cE (.int 3))) (cE (.int 1)))) (zr 2) (Jq ca f_c) [.vl (.tup [a,t, .int (lo:Int), .int (hi:Int)]), .ow acc,x]=r:=by
 have hn:((hi:Int)+1 - (lo:Int)).toNat=hi+1 - lo:=by omega
 have hc: -1000000 < (lo:Int)/\(lo:Int) < 1000000/\ -1000000 < (hi:Int)+1/\(hi:Int)+1 < 1000000:=by omega
 have e:jk (Jl (zb ixT (vE 0) (cE (.int 2))) (zb zu (zb ixT (vE 0) (cE (.int 3))) (cE (.int 1)))) (zr 2) (Jq ca f_c) [.vl (.tup [a,t, .int (lo:Int), .int (hi:Int)]), .ow acc,x]=(Jl (zb ixT (vE 0) (cE (.int 2))) (zb zu (zb ixT (vE 0) (cE (.int 3))) (cE (.int 1))) [.vl (.tup [a,t, .int (lo:Int), .int (hi:Int)]), .ow acc,x]).s fun ts=>ZO (zr 2) (Jq ca f_c) ts [.vl (.tup [a,t, .int (lo:Int), .int (hi:Int)]), .ow acc,x]:=rfl
 rw [e,y1 YT (vW Qz) hc,ZC,hn]
 exact el
theorem vY {n L lo hi:Nat} (e:L=pw n lo hi) (h:L<=1000000):([]:List T).length+((List.range (hi+1 - lo)).map fun j=>n ^ (lo+j)).sum<=bnd:=by
 have h' :pw n lo hi<=bnd:=Nat.le_trans (e ▸ h) (by decide)
 unfold pw at h'
 rw [List.length_nil,Nat.zero_add]
 exact h'
theorem y2 {ca:List T->R T} (d:Nat) (lo hi:Int) (h:(Kd.whole lo hi).Ok (d+1)) (hl:(Kd.whole lo hi).all.length<=1000000) (H:∀ k' :Kd,k'.Ok d->ca [k'.t]= .ok (.lst k'.all)):zh (b_7 ca f_c (en0 3 [(Kd.whole lo hi).t]))= .ok (.lst (Kd.whole lo hi).all):=by
 have hb1:bnd=16777216:=rfl
 have e:zh (b_7 ca f_c (en0 3 [(Kd.whole lo hi).t]))=zh (b_7 ca f_c [.vl (Kd.whole lo hi).t, .un, .un]):=rfl
 rw [e,b_7,zT,ZN]
 obtain ⟨h1,h2,h3⟩:=h
 simp only [Kd.t]
 rw [cs0,ZC,show (("whole":Str) == "whole")=true from rfl,if_pos rfl,Zk,ZW,Jo,Jo,j5]
 unfold Ve
 rw [y1 Wl (vW YT) ⟨by omega,by omega,by omega,by omega⟩]
 rw [Kd.all]
 rfl
theorem Yf {ca:List T->R T} (d:Nat) (cs:List (Str×Int)) (h:(Kd.pick cs).Ok (d+1)) (hl:(Kd.pick cs).all.length<=1000000) (H:∀ k' :Kd,k'.Ok d->ca [k'.t]= .ok (.lst k'.all)):zh (b_7 ca f_c (en0 3 [(Kd.pick cs).t]))= .ok (.lst (Kd.pick cs).all):=by
 have hb1:bnd=16777216:=rfl
 have e:zh (b_7 ca f_c (en0 3 [(Kd.pick cs).t]))=zh (b_7 ca f_c [.vl (Kd.pick cs).t, .un, .un]):=rfl
 rw [e,b_7,zT,ZN]
 simp only [Kd.t]
 rw [cs0,ZC,show (("pick":Str) == "whole")=false from rfl,if_neg Bool.false_ne_true,Jw]
 dsimp only
 rw [zT,ZN,cs0,ZC,show (("pick":Str) == "pick")=true from rfl,if_pos rfl,Zk,ZW,Jo,Jo,j5,zE,Zv,Wl,bOk]
 have hc:cs.length<=4:=h.2.1
 have ec:zD (zQ 0 1) zO (vE 0) 2 [] [.vl (.tup [.str "pick", .tup (cs.map j7)]), .un, .un] (cs.map j7)= .ok (cs.map fun c=>T.str c.1):=by
  unfold zD
  rw [if_pos (by rw [List.length_map]; omega)]
  show quiet (zv (zQ 0 1) zO (vE 0) (cs.map j7) [.un, .un])=_
  rw [Wm]; rfl
 show zh (match ((((R.ok (cs.map j7)).bind fun ts=>(zD (zQ 0 1) zO (vE 0) 2 [] [.vl (.tup [.str "pick", .tup (cs.map j7)]), .un, .un] ts).bind fun vs=> .ok (.lst vs))).s fun t=> .rt t) with | .nx ρ' =>_ | r=>r)=_
 rw [bOk,ec]
 rw [Kd.all]
 rfl
theorem Qn {ca:List T->R T} (d:Nat) (ks:List Kd) (h:(Kd.row ks).Ok (d+1)) (hl:(Kd.row ks).all.length<=1000000) (H:∀ k' :Kd,k'.Ok d->ca [k'.t]= .ok (.lst k'.all)):zh (b_7 ca f_c (en0 3 [(Kd.row ks).t]))= .ok (.lst (Kd.row ks).all):=by
 have hb1:bnd=16777216:=rfl
 have e:zh (b_7 ca f_c (en0 3 [(Kd.row ks).t]))=zh (b_7 ca f_c [.vl (Kd.row ks).t, .un, .un]):=rfl
 rw [e,b_7,zT,ZN]
 obtain ⟨h1,h2,h3⟩:=h
 simp only [Kd.t]
 rw [cs0,ZC,show (("row":Str) == "whole")=false from rfl,if_neg Bool.false_ne_true,Jw]
 dsimp only
 rw [zT,ZN,cs0,ZC,show (("row":Str) == "pick")=false from rfl,if_neg Bool.false_ne_true,Jw]
 dsimp only
 rw [zT,ZN,cs0,ZC,show (("row":Str) == "row")=true from rfl,if_pos rfl,Zk,ZW,Jo,Jo,j5,zR,zE,Zv,Wl,bOk,Kd.ts_map]
 have ec:zD (zr 0) zO (za 1 ca (z3 (vE 0) (zc))) 1 [] [.vl (.tup [.str "row", .tup (ks.map Kd.t)]), .un, .un] (ks.map Kd.t)= .ok ((ks.map Kd.all).map T.lst):=by
  unfold zD
  rw [if_pos (by rw [List.length_map]; omega)]
  show quiet (zv (zr 0) zO _ (ks.map Kd.t) [.un])=_
  have:∀ (ks:List Kd) (x:Sl),(∀ k∈ks,k.Ok d)->zv (zr 0) zO (za 1 ca (z3 (vE 0) (zc))) (ks.map Kd.t) [x]= .ok ((ks.map Kd.all).map T.lst):=by
   intro ks
   induction ks with
   | nil=>intro _ _; rfl
   | cons k ks ih=>
    intro x hk
    have e1:zv (zr 0) zO (za 1 ca (z3 (vE 0) (zc))) ((k :: ks).map Kd.t) [x]=(za 1 ca (z3 (vE 0) (zc)) [.vl k.t]).bind fun v=>(zv (zr 0) zO (za 1 ca (z3 (vE 0) (zc))) (ks.map Kd.t) [.vl k.t]).bind fun vs=> .ok (v :: vs):=rfl
    rw [e1,zR,v0,bOk,H k (hk k List.mem_cons_self),bOk,ih _ fun k' hk' =>hk k' (List.mem_cons_of_mem _ hk')]
    rfl
  rw [this ks .un h3]; rfl
 have hrow:=JV ks
 have er:f_c [.lst ((ks.map Kd.all).map T.lst)]= .ok (.lst (Wk (ks.map Kd.all))):=UZ _ (by rw [List.length_map]; omega) (fun l hl=>by
  obtain ⟨k,hk,rfl⟩:=List.mem_map.mp hl
  exact J4 d k (h3 k hk)) (by
  rw [List.map_map]
  show prd (ks.map fun k=>k.all.length)<=bnd
  omega)
 show zh (match ((((R.ok (ks.map Kd.t)).bind fun ts=>(zD (zr 0) zO (za 1 ca (z3 (vE 0) (zc))) 1 [] [.vl (.tup [.str "row", .tup (ks.map Kd.t)]), .un, .un] ts).bind fun vs=> .ok (.lst vs)).bind fun x=>f_c [x]).s fun t=> .rt t) with | .nx ρ' =>_ | r=>r)=_
 rw [bOk,ec,bOk,bOk,er,Kd.all,Kd.alls_map]
 rfl
theorem Yg {ca:List T->R T} (d:Nat) (k:Kd) (lo hi:Nat) (h:(Kd.many k lo hi).Ok (d+1)) (hl:(Kd.many k lo hi).all.length<=1000000) (H:∀ k' :Kd,k'.Ok d->ca [k'.t]= .ok (.lst k'.all)):zh (b_7 ca f_c (en0 3 [(Kd.many k lo hi).t]))= .ok (.lst (Kd.many k lo hi).all):=by
 have hb1:bnd=16777216:=rfl
 have e:zh (b_7 ca f_c (en0 3 [(Kd.many k lo hi).t]))=zh (b_7 ca f_c [.vl (Kd.many k lo hi).t, .un, .un]):=rfl
 rw [e,b_7,zT,ZN]
 obtain ⟨h1,h2,h3⟩:=h
 have hml:=jC k lo hi
 simp only [Kd.t]
 rw [cs0,ZC,show (("many":Str) == "whole")=false from rfl,if_neg Bool.false_ne_true,Jw]
 dsimp only
 rw [zT,ZN,cs0,ZC,show (("many":Str) == "pick")=false from rfl,if_neg Bool.false_ne_true,Jw]
 dsimp only
 rw [zT,ZN,cs0,ZC,show (("many":Str) == "row")=false from rfl,if_neg Bool.false_ne_true,Jw]
 dsimp only
 have e0:uz 1 (zc) [.vl (.tup [.str "many",k.t, .int (lo:Int), .int (hi:Int)]), .un, .un]= .nx [.vl (.tup [.str "many",k.t, .int (lo:Int), .int (hi:Int)]), .ow [], .un]:=rfl
 rw [zT,e0]
 dsimp only
 obtain ⟨y,el⟩:=wS (k:=k) (lo:=lo) (H k h3) (J4 d k h3) (a:= .str "many") (b:= .int (lo:Int)) (c:= .int (hi:Int)) (List.range (hi+1 - lo)) [] .un (fun j hj=>by have:=List.mem_range.mp hj; omega) (vY hml hl)
 have e1:=Ye (ca:=ca) (t:=k.t) h1 h2 el
 rw [List.nil_append] at e1
 rw [zi e1,Kd.all]
 rfl
theorem Yh {ca:List T->R T} (d:Nat) (k:Kd) (h:k.Ok (d+1)) (hl:k.all.length<=1000000) (H:∀ k' :Kd,k'.Ok d->ca [k'.t]= .ok (.lst k'.all)):zh (b_7 ca f_c (en0 3 [k.t]))= .ok (.lst k.all):=by
 cases k with
 | whole lo hi=>exact y2 d lo hi h hl H
 | pick cs=>exact Yf d cs h hl H
 | row ks=>exact Qn d ks h hl H
 | many k lo hi=>exact Yg d k lo hi h hl H
theorem y3:∀ (d n:Nat),d<=n->d<=3->∀ k:Kd,k.Ok d->k.all.length<=1000000->S_7 n 0 [k.t]= .ok (.lst k.all)
 | 0,_,_,_,_,h,_=>h.elim
 | d+1,0,hn,_,_,_,_=>by omega
 | d+1,n+1,hn,hd,k,h,hl=>by
  have e:S_7 (n+1) 0 [k.t]=zh (b_7 (S_7 n 0) f_c (en0 3 [k.t])):=rfl
  rw [e]
  refine Yh d k h hl fun k' hk' =>y3 d n (by omega) (by omega) k' hk' ?_
  have h1:=Jx d k' hk'
  have:mx d<=1000000:=by
   have:d=0\/d=1\/d=2:=by omega
   rcases this with rfl | rfl | rfl <;> decide
  omega
theorem in2 {x a b:Str} {r:List T} {ρ:En}:Z8 inC (zb ixT (vE 0) (cE (.int 0))) (Z4 (z3 (cE (.str a)) (z3 (cE (.str b)) (zc)))) (.vl (.tup (.str x :: r)) :: ρ)=inC (.str x) (.tup [.str a, .str b]):=by
 rw [Zc,zk,v0,bOk,Zq,bOk,at0,bOk,Wg Zq Zq,bOk]
theorem uB {g:En->R Bool} {f1 f2:En->RS} {ρ:En} (h:g ρ= .ok true):ifS g f1 f2 ρ=f1 ρ:=by rw [ZN,h,ZC,if_pos rfl]
theorem xZ {g:En->R Bool} {f1 f2:En->RS} {ρ:En} (h:g ρ= .ok false):ifS g f1 f2 ρ=f2 ρ:=by rw [ZN,h,ZC,if_neg Bool.false_ne_true]
theorem ZR {g:En->R Bool} {f1:En->RS} {ρ:En} (h:g ρ= .ok false):ifS g f1 nxS ρ= .nx ρ:=by rw [xZ h]; rfl
theorem Zw {i:Nat} {f:En->R T} {ρ:En} {t:T} (h:f ρ= .ok t):Zy i f ρ= .nx (ρ.set i (.vl t)):=by rw [jW,h,ZC]
theorem zU {f:En->R T} {ρ:En} {t:T} (h:f (frz ρ)= .ok t):zW f ρ= .rt t:=by rw [Zk,h,ZC]
theorem Jy {g:T->En->R En} {fb:En->RS} {t:T} {ts:List T} {ρ ρ1 ρ2:En} (hg:g t ρ= .ok ρ1) (hb:fb ρ1= .nx ρ2):ZO g fb (t :: ts) ρ=ZO g fb ts ρ2:=by
 rw [ZO,hg]
 dsimp only
 rw [hb]
theorem ZP {f g:En->RS} {ρ:En} {t:T} (h:f ρ= .rt t):zC f g ρ= .rt t:=by rw [zT,h]
theorem YU {i j:Nat} (h:i < 2 ^ 60):zP (.int (i:Int)) (.int (j:Int))= .ok (.int ((i*j:Nat):Int)):=by
 rw [uv _ _ (.inl ⟨by omega,by omega⟩),Int.natCast_mul]
theorem x3 {d n:Nat} (h:n<=mx d) (hd:d<=3):n < 2 ^ 60:=by
 have:d=0\/d=1\/d=2\/d=3:=by omega
 have h3:mx 3 < 2 ^ 60:=by decide
 have h2:mx 2 < 2 ^ 60:=by decide
 have h1:mx 1 < 2 ^ 60:=by decide
 have h0:mx 0 < 2 ^ 60:=by decide
 rcases this with rfl | rfl | rfl | rfl <;> omega
theorem WT {a b:Sl}:∀ (ns:List Nat) (m:Nat) (x y:Sl),(∀ n∈ns,1<=n)->m*prd ns < 2 ^ 60->∃ x',ZO (zr 3) (Zy 2 (zb zP (vE 2) (vE 3))) (ns.map fun (n:Nat)=>T.int (n:Int)) [a,b, .vl (.int (m:Int)),x,y]= .nx [a,b, .vl (.int ((m*prd ns:Nat):Int)),x',y]
 | [],m,x,y,_,_=>⟨x,by simp [ZO,prd]⟩
 | n :: ns,m,x,y,hp,hb=>by
  have hpr:=JS (ns:=ns) fun k hk=>hp k (List.mem_cons_of_mem _ hk)
  have hn:=hp n List.mem_cons_self
  have hmm:m<=m*prd (n :: ns):=Nat.le_mul_of_pos_right _ (Nat.mul_pos hn hpr)
  have hb2:m < 2 ^ 60:=Nat.lt_of_le_of_lt hmm hb
  rw [prd,← Nat.mul_assoc] at hb
  obtain ⟨x',ih⟩:=WT (a:=a) (b:=b) ns (m*n) (.vl (.int (n:Int))) y (fun k hk=>hp k (List.mem_cons_of_mem _ hk)) hb
  refine ⟨x', ?_⟩
  have es:Zy 2 (zb zP (vE 2) (vE 3)) [a,b, .vl (.int (m:Int)), .vl (.int (n:Int)),y]= .nx [a,b, .vl (.int ((m*n:Nat):Int)), .vl (.int (n:Int)),y]:=by
   rw [jW,zk,v2,bOk,v3,bOk,YU hb2,ZC]; rfl
  have s3:zr 3 (T.int (n:Int)) [a,b, .vl (.int (m:Int)),x,y]= .ok [a,b, .vl (.int (m:Int)), .vl (.int (n:Int)),y]:=rfl
  rw [List.map_cons,Jy s3 es,prd,← Nat.mul_assoc]
  exact ih
theorem Yi:∀ (d:Nat) (lo hi:Int),(Kd.whole lo hi).Ok (d+1)->(Kd.whole lo hi).Ok 1
 | _,_,_,h=>h
theorem Yj:∀ (d:Nat) (cs:List (Str×Int)),(Kd.pick cs).Ok (d+1)->(Kd.pick cs).Ok 1
 | _,_,h=>h
theorem wT {cs:List T->R T} (k:Kd) (h:k.Ok 1) {x:Str} {r:List T} (ht:k.t= .tup (.str x :: r)) (hx:inC (.str x) (.tup [.str "whole", .str "pick"])= .ok true):zh (b_a (f_7 8) cs (en0 5 [k.t]))= .ok (.int (k.all.length:Int)):=by
 have ha:f_7 8 [k.t]= .ok (.lst k.all):=y3 1 8 (by omega) (by omega) k h (Nat.le_trans (Jx 1 k h) (by decide))
 have e:zh (b_a (f_7 8) cs (en0 5 [k.t]))=zh (b_a (f_7 8) cs [.vl k.t, .un, .un, .un, .un]):=rfl
 have e1:Z8 inC (zb ixT (vE 0) (cE (.int 0))) (Z4 (z3 (cE (.str "whole")) (z3 (cE (.str "pick")) (zc)))) [.vl k.t, .un, .un, .un, .un]= .ok true:=by
  rw [ht,in2,hx]
 have e2:zW (ap1 Jk (za 1 (f_7 8) (z3 (vE 0) (zc)))) [.vl k.t, .un, .un, .un, .un]= .rt (.int (k.all.length:Int)):=by
  refine zU ?_
  rw [ZW,j6,zR,v0,bOk,ha,bOk,vK]
 rw [e,b_a,ZP (by rw [uB e1,e2])]
 rfl
theorem x6 (b:Bool):b2 b=(iv b:Int):=by cases b <;> rfl
theorem Yk {cs:List T->R T} {d:Nat} (hd:d+1<=3) (ks:List Kd) (h:(Kd.row ks).Ok (d+1)) (H:∀ k:Kd,k.Ok d->cs [k.t]= .ok (.int (k.all.length:Int))):zh (b_a (f_7 8) cs (en0 5 [(Kd.row ks).t]))= .ok (.int ((Kd.row ks).all.length:Int)):=by
 have hlt:=x3 (Jx (d+1) (.row ks) h) hd
 rw [JV] at hlt ⊢
 obtain ⟨h1,h2,h3⟩:=h
 simp only [Kd.t,Kd.ts_map]
 have e:zh (b_a (f_7 8) cs (en0 5 [.tup [.str "row", .tup (ks.map Kd.t)]]))=zh (b_a (f_7 8) cs [.vl (.tup [.str "row", .tup (ks.map Kd.t)]), .un, .un, .un, .un]):=rfl
 have e1:Z8 inC (zb ixT (vE 0) (cE (.int 0))) (Z4 (z3 (cE (.str "whole")) (z3 (cE (.str "pick")) (zc)))) [.vl (.tup [.str "row", .tup (ks.map Kd.t)]), .un, .un, .un, .un]= .ok false:=by
  rw [in2]; rfl
 have ec:zD (zr 0) zO (za 1 cs (z3 (vE 0) (zc))) 1 [] [.vl (.tup [.str "row", .tup (ks.map Kd.t)]), .un, .un, .un, .un] (ks.map Kd.t)= .ok ((ks.map fun k=>k.all.length).map fun (n:Nat)=>T.int (n:Int)):=by
  unfold zD
  rw [if_pos (by rw [List.length_map]; exact Nat.le_trans h2 (by decide))]
  have:∀ (ks:List Kd) (x:Sl),(∀ k∈ks,k.Ok d)->zv (zr 0) zO (za 1 cs (z3 (vE 0) (zc))) (ks.map Kd.t) [x]= .ok ((ks.map fun k=>k.all.length).map fun (n:Nat)=>T.int (n:Int)):=by
   intro ks
   induction ks with
   | nil=>intro _ _; rfl
   | cons k ks ih=>
    intro x hk
    have e1:zv (zr 0) zO (za 1 cs (z3 (vE 0) (zc))) ((k :: ks).map Kd.t) [x]=(za 1 cs (z3 (vE 0) (zc)) [.vl k.t]).bind fun v=>(zv (zr 0) zO (za 1 cs (z3 (vE 0) (zc))) (ks.map Kd.t) [.vl k.t]).bind fun vs=> .ok (v :: vs):=rfl
    rw [e1,zR,v0,bOk,H k (hk k List.mem_cons_self),bOk,ih _ fun k' hk' =>hk k' (List.mem_cons_of_mem _ hk')]
    rfl
  show quiet (zv (zr 0) zO _ (ks.map Kd.t) [.un])=_
  rw [this ks .un h3]; rfl
 have e2:ifE (Z8 eqC (zb ixT (vE 0) (cE (.int 0))) (cE (.str "row"))) (zY (ZD (zb ixT (vE 0) (cE (.int 1)))) (zr 0) (zO) (za 1 cs (z3 (vE 0) (zc))) 1 []) (Jh (zc)) [.vl (.tup [.str "row", .tup (ks.map Kd.t)]), .un, .un, .un, .un]= .ok (.lst ((ks.map fun k=>k.all.length).map fun (n:Nat)=>T.int (n:Int))):=by
  unfold ifE
  rw [cs0,bOk,show (("row":Str) == "row")=true from rfl,if_pos rfl,zE,Zv,Wl,bOk]
  show ((R.ok (ks.map Kd.t)).bind _)=_
  rw [bOk,ec,bOk]
 obtain ⟨x',el⟩:=WT (a:= .vl (.tup [.str "row", .tup (ks.map Kd.t)])) (b:= .vl (.lst ((ks.map fun k=>k.all.length).map fun (n:Nat)=>T.int (n:Int)))) (ks.map fun k=>k.all.length) 1 .un .un (fun n hn=>by
  obtain ⟨k,hk,rfl⟩:=List.mem_map.mp hn
  exact J4 d k (h3 k hk)) (by rw [Nat.one_mul]; exact hlt)
 rw [Nat.one_mul] at el
 have e3:jk (ZD (vE 1)) (zr 3) (Zy 2 (zb zP (vE 2) (vE 3))) [.vl (.tup [.str "row", .tup (ks.map Kd.t)]), .vl (.lst ((ks.map fun k=>k.all.length).map fun (n:Nat)=>T.int (n:Int))), .vl (.int 1), .un, .un]=_:=el
 have e4:Z8 eqC (zb ixT (vE 0) (cE (.int 0))) (cE (.str "many")) [.vl (.tup [.str "row", .tup (ks.map Kd.t)]), .vl (.lst ((ks.map fun k=>k.all.length).map fun (n:Nat)=>T.int (n:Int))), .vl (.int ((prd (ks.map fun k=>k.all.length):Nat):Int)),x', .un]= .ok false:=by
  rw [cs0]; rfl
 rw [e,b_a,zi (ZR e1),zi (Zw e2)]
 have s1:([.vl (.tup [.str "row", .tup (ks.map Kd.t)]), .un, .un, .un, .un]:En).set 1 (.vl (.lst ((ks.map fun k=>k.all.length).map fun (n:Nat)=>T.int (n:Int))))=[.vl (.tup [.str "row", .tup (ks.map Kd.t)]), .vl (.lst ((ks.map fun k=>k.all.length).map fun (n:Nat)=>T.int (n:Int))), .un, .un, .un]:=rfl
 rw [s1,zi (Zw Zq)]
 have s2:([.vl (.tup [.str "row", .tup (ks.map Kd.t)]), .vl (.lst ((ks.map fun k=>k.all.length).map fun (n:Nat)=>T.int (n:Int))), .un, .un, .un]:En).set 2 (.vl (.int 1))=[.vl (.tup [.str "row", .tup (ks.map Kd.t)]), .vl (.lst ((ks.map fun k=>k.all.length).map fun (n:Nat)=>T.int (n:Int))), .vl (.int 1), .un, .un]:=rfl
 rw [s2,zi e3,zi (ZR e4)]
 rfl
theorem vZ {f g:En->R T} {ρ:En} {i j c:Int} (hf:f ρ= .ok (.int i)) (hg:g ρ= .ok (.int j)):chE leC leC f (cE (.int c)) g ρ= .ok (.bl (decide (i<=c) && decide (c<=j))):=by
 rw [vI,hf,bOk,Zq,bOk,vJ,bOk,hg]
 cases decide (i<=c) <;> rfl
theorem wU (a b:Nat):decide ((a:Int)<=(b:Int))=decide (a<=b):=by
 by_cases h:a<=b
 ·rw [decide_eq_true h]; exact decide_eq_true (by omega)
 ·rw [decide_eq_false h]; exact decide_eq_false (by omega)
theorem YV (a b:Nat):((a:Int) == (b:Int))=(a == b):=by
 by_cases h:a=b
 ·subst h; simp
 ·rw [beq_eq_false_iff_ne.mpr h,beq_eq_false_iff_ne]; omega
theorem Vh {f:En->R T} {ρ:En} {b:Bool} (h:f ρ= .ok (.bl b)):ap1 wb f ρ= .ok (.int ((iv b:Nat):Int)):=by
 rw [j6,h,bOk]
 show R.ok (T.int (b2 b))=_
 rw [x6]
theorem y6 {f g:En->R T} {ρ:En} {i j:Nat} (hf:f ρ= .ok (.int (i:Int))) (hg:g ρ= .ok (.int (j:Int))):zb zu f g ρ= .ok (.int ((i+j:Nat):Int)):=by
 rw [zk,hf,bOk,hg,bOk,Ze,Int.natCast_add]
theorem jm {f g:En->R T} {ρ:En} {i j:Nat} (h:i < 2 ^ 60) (hf:f ρ= .ok (.int (i:Int))) (hg:g ρ= .ok (.int (j:Int))):zb zP f g ρ= .ok (.int ((i*j:Nat):Int)):=by
 rw [zk,hf,bOk,hg,bOk,YU h]
theorem Qo {d n:Nat} (h:n<=mx d) (hd:d+1<=3) (h0:1<=d):n*n*n < 2 ^ 60/\n*n < 2 ^ 60/\n < 2 ^ 60:=by
 have h1:n<=70644:=by
  have:d=1\/d=2:=by omega
  have h2:mx 2=70644:=by decide
  have h1:mx 1=41:=by decide
  rcases this with rfl | rfl <;> omega
 have h2:n*n<=70644*70644:=Nat.mul_le_mul h1 h1
 have h3:n*n*n<=70644*70644*70644:=Nat.mul_le_mul h2 h1
 have h4:70644*70644*70644 < 2 ^ 60:=by decide
 have h5:70644*70644 < 2 ^ 60:=by decide
 have h6:70644 < 2 ^ 60:=by decide
 exact ⟨Nat.lt_of_le_of_lt h3 h4,Nat.lt_of_le_of_lt h2 h5,Nat.lt_of_le_of_lt h1 h6⟩
abbrev mt (t:T) (lo hi:Nat):T:= .tup [.str "many",t, .int (lo:Int), .int (hi:Int)]
theorem v4' {t:T} {a b c d:Sl} {ρ:En}:vE 4 (a :: b :: c :: d :: .vl t :: ρ)= .ok t:=rfl
theorem y9 {t:T} {a x:Sl} {lo hi n:Nat} (h3:n*n*n < 2 ^ 60) (h2:n*n < 2 ^ 60) (h1:n < 2 ^ 60):
  zC (Zy 2 (zb zu (ap1 wb (wX eqC (zb ixT (vE 0) (cE (.int 2))) (cE (.int 0)))) (zb zP (vE 4) (ap1 wb (chE leC leC (zb ixT (vE 0) (cE (.int 2))) (cE (.int 1)) (zb ixT (vE 0) (cE (.int 3))))))))
  (zC (Zy 2 (zb zu (vE 2) (zb zP (zb zP (vE 4) (vE 4)) (ap1 wb (chE leC leC (zb ixT (vE 0) (cE (.int 2))) (cE (.int 2)) (zb ixT (vE 0) (cE (.int 3))))))))
  (Zy 2 (zb zu (vE 2) (zb zP (zb zP (zb zP (vE 4) (vE 4)) (vE 4)) (ap1 wb (wX eqC (zb ixT (vE 0) (cE (.int 3))) (cE (.int 3))))))))
  [.vl (mt t lo hi),a, .vl (.int 1),x, .vl (.int (n:Int))]= .nx [.vl (mt t lo hi),a, .vl (.int ((iv (lo == 0)+n*iv (decide (lo<=1) && decide (1<=hi))+n*n*iv (decide (lo<=2) && decide (2<=hi))+n*n*n*iv (hi == 3):Nat):Int)),x, .vl (.int (n:Int))]:=by
 have le1:∀ {p q r s:Sl},ap1 wb (chE leC leC (zb ixT (vE 0) (cE (.int 2))) (cE (.int 1)) (zb ixT (vE 0) (cE (.int 3)))) [.vl (mt t lo hi),p,q,r,s]= .ok (.int ((iv (decide (lo<=1) && decide (1<=hi)):Nat):Int)):=fun {p q r s}=>Vh (by
  rw [vZ (c:=1) YT Qz]
  rw [show decide ((lo:Int)<=1)=decide (lo<=1) from wU lo 1,show decide ((1:Int)<=(hi:Int))=decide (1<=hi) from wU 1 hi])
 have le2:∀ {p q r s:Sl},ap1 wb (chE leC leC (zb ixT (vE 0) (cE (.int 2))) (cE (.int 2)) (zb ixT (vE 0) (cE (.int 3)))) [.vl (mt t lo hi),p,q,r,s]= .ok (.int ((iv (decide (lo<=2) && decide (2<=hi)):Nat):Int)):=fun {p q r s}=>Vh (by
  rw [vZ (c:=2) YT Qz]
  rw [show decide ((lo:Int)<=2)=decide (lo<=2) from wU lo 2,show decide ((2:Int)<=(hi:Int))=decide (2<=hi) from wU 2 hi])
 have eq0:∀ {p q r s:Sl},ap1 wb (wX eqC (zb ixT (vE 0) (cE (.int 2))) (cE (.int 0))) [.vl (mt t lo hi),p,q,r,s]= .ok (.int ((iv (lo == 0):Nat):Int)):=fun {p q r s}=>Vh (by
  rw [jV,YT,bOk,Zq,bOk,eqI,bOk,show ((lo:Int) == 0)=(lo == 0) from YV lo 0])
 have eq3:∀ {p q r s:Sl},ap1 wb (wX eqC (zb ixT (vE 0) (cE (.int 3))) (cE (.int 3))) [.vl (mt t lo hi),p,q,r,s]= .ok (.int ((iv (hi == 3):Nat):Int)):=fun {p q r s}=>Vh (by
  rw [jV,Qz,bOk,Zq,bOk,eqI,bOk,show ((hi:Int) == 3)=(hi == 3) from YV hi 3])
 have a1:=Zw (i:=2) (y6 (eq0 (p:=a) (q:= .vl (.int 1)) (r:=x) (s:= .vl (.int (n:Int)))) (jm h1 v4' le1))
 have a1:Zy 2 (zb zu (ap1 wb (wX eqC (zb ixT (vE 0) (cE (.int 2))) (cE (.int 0)))) (zb zP (vE 4) (ap1 wb (chE leC leC (zb ixT (vE 0) (cE (.int 2))) (cE (.int 1)) (zb ixT (vE 0) (cE (.int 3))))))) [.vl (mt t lo hi),a, .vl (.int 1),x, .vl (.int (n:Int))]= .nx [.vl (mt t lo hi),a, .vl (.int ((iv (lo == 0)+n*iv (decide (lo<=1) && decide (1<=hi)):Nat):Int)),x, .vl (.int (n:Int))]:=a1
 rw [zi a1]
 generalize iv (lo == 0)+n*iv (decide (lo<=1) && decide (1<=hi))=m1
 have a2:=Zw (i:=2) (y6 (v2 (t:= .int (m1:Int)) (a:= .vl (mt t lo hi)) (b:=a) (ρ:=[x, .vl (.int (n:Int))])) (jm h2 (jm h1 v4' v4') le2))
 have a2:Zy 2 (zb zu (vE 2) (zb zP (zb zP (vE 4) (vE 4)) (ap1 wb (chE leC leC (zb ixT (vE 0) (cE (.int 2))) (cE (.int 2)) (zb ixT (vE 0) (cE (.int 3))))))) [.vl (mt t lo hi),a, .vl (.int (m1:Int)),x, .vl (.int (n:Int))]= .nx [.vl (mt t lo hi),a, .vl (.int ((m1+n*n*iv (decide (lo<=2) && decide (2<=hi)):Nat):Int)),x, .vl (.int (n:Int))]:=a2
 rw [zi a2]
 generalize m1+n*n*iv (decide (lo<=2) && decide (2<=hi))=m2
 have a3:=Zw (i:=2) (y6 (v2 (t:= .int (m2:Int)) (a:= .vl (mt t lo hi)) (b:=a) (ρ:=[x, .vl (.int (n:Int))])) (jm h3 (jm h2 (jm h1 v4' v4') v4') eq3))
 exact a3
theorem ya {cs:List T->R T} {d:Nat} (hd:d+1<=3) (k:Kd) (lo hi:Nat) (h:(Kd.many k lo hi).Ok (d+1)) (H:∀ k:Kd,k.Ok d->cs [k.t]= .ok (.int (k.all.length:Int))):zh (b_a (f_7 8) cs (en0 5 [(Kd.many k lo hi).t]))= .ok (.int ((Kd.many k lo hi).all.length:Int)):=by
 obtain ⟨h1,h2,h3⟩:=h
 have hd0:1<=d:=by
  cases d with
  | zero=>exact h3.elim
  | succ d=>omega
 obtain ⟨c3,c2,c1⟩:=Qo (Jx d k h3) hd hd0
 rw [jC,Ql _ h1 h2]
 simp only [Kd.t]
 have hk:=H k h3
 generalize k.all.length=n at*
 generalize k.t=t at*
 have e:zh (b_a (f_7 8) cs (en0 5 [mt t lo hi]))=zh (b_a (f_7 8) cs [.vl (mt t lo hi), .un, .un, .un, .un]):=rfl
 have e1:Z8 inC (zb ixT (vE 0) (cE (.int 0))) (Z4 (z3 (cE (.str "whole")) (z3 (cE (.str "pick")) (zc)))) [.vl (mt t lo hi), .un, .un, .un, .un]= .ok false:=by
  rw [in2]; rfl
 have e2:ifE (Z8 eqC (zb ixT (vE 0) (cE (.int 0))) (cE (.str "row"))) (zY (ZD (zb ixT (vE 0) (cE (.int 1)))) (zr 0) (zO) (za 1 cs (z3 (vE 0) (zc))) 1 []) (Jh (zc)) [.vl (mt t lo hi), .un, .un, .un, .un]= .ok (.lst []):=by
  unfold ifE
  rw [cs0,bOk,show (("many":Str) == "row")=false from rfl,if_neg Bool.false_ne_true]
  rfl
 have s1:([.vl (mt t lo hi), .un, .un, .un, .un]:En).set 1 (.vl (.lst []))=[.vl (mt t lo hi), .vl (.lst []), .un, .un, .un]:=rfl
 have s2:([.vl (mt t lo hi), .vl (.lst []), .un, .un, .un]:En).set 2 (.vl (.int 1))=[.vl (mt t lo hi), .vl (.lst []), .vl (.int 1), .un, .un]:=rfl
 have e3:jk (ZD (vE 1)) (zr 3) (Zy 2 (zb zP (vE 2) (vE 3))) [.vl (mt t lo hi), .vl (.lst []), .vl (.int 1), .un, .un]= .nx [.vl (mt t lo hi), .vl (.lst []), .vl (.int 1), .un, .un]:=rfl
 have e4:Z8 eqC (zb ixT (vE 0) (cE (.int 0))) (cE (.str "many")) [.vl (mt t lo hi), .vl (.lst []), .vl (.int 1), .un, .un]= .ok true:=by
  rw [cs0]; rfl
 have e5:za 1 cs (z3 (zb ixT (vE 0) (cE (.int 1))) (zc)) [.vl (mt t lo hi), .vl (.lst []), .vl (.int 1), .un, .un]= .ok (.int (n:Int)):=by
  rw [zR,Wl,bOk,hk]
 have s5:([.vl (mt t lo hi), .vl (.lst []), .vl (.int 1), .un, .un]:En).set 4 (.vl (.int (n:Int)))=[.vl (mt t lo hi), .vl (.lst []), .vl (.int 1), .un, .vl (.int (n:Int))]:=rfl
 have e6:=y9 (t:=t) (a:= .vl (.lst [])) (x:= .un) (lo:=lo) (hi:=hi) c3 c2 c1
 rw [e,b_a,zi (ZR e1),zi (Zw e2),s1,zi (Zw Zq),s2,zi e3]
 have e7:∀ (P:En->RS),ifS (Z8 eqC (zb ixT (vE 0) (cE (.int 0))) (cE (.str "many"))) (zC (Zy 4 (za 1 cs (z3 (zb ixT (vE 0) (cE (.int 1))) (zc)))) P) nxS [.vl (mt t lo hi), .vl (.lst []), .vl (.int 1), .un, .un]=P [.vl (mt t lo hi), .vl (.lst []), .vl (.int 1), .un, .vl (.int (n:Int))]:=fun P=>by
  rw [uB e4,zi (Zw e5),s5]
 rw [zi (Eq.trans (e7 _) e6)]
 rfl
theorem yb:∀ (d n:Nat),d<=n->d<=3->∀ k:Kd,k.Ok d->S_a n 0 [k.t]= .ok (.int (k.all.length:Int))
 | 0,_,_,_,_,h=>h.elim
 | d+1,0,hn,_,_,_=>by omega
 | d+1,n+1,hn,hd,k,h=>by
  have e:S_a (n+1) 0 [k.t]=zh (b_a (f_7 8) (S_a n 0) (en0 5 [k.t])):=rfl
  rw [e]
  have H:∀ k:Kd,k.Ok d->S_a n 0 [k.t]= .ok (.int (k.all.length:Int)):=fun k' hk' =>yb d n (by omega) (by omega) k' hk'
  cases k with
  | whole lo hi=>exact wT (.whole lo hi) (Yi d lo hi h) (x:="whole") (r:=[.int lo, .int hi]) (by simp only [Kd.t]) rfl
  | pick cs=>exact wT (.pick cs) (Yj d cs h) (x:="pick") (r:=[.tup (cs.map j7)]) (by simp only [Kd.t]) rfl
  | row ks=>exact Yk (by omega) ks h H
  | many k lo hi=>exact ya (by omega) k lo hi h H
theorem Ok.mono:∀ (d:Nat) (k:Kd),k.Ok d->k.Ok (d+1)
 | 0,_,h=>h.elim
 | d+1, .whole _ _,h=>h
 | d+1, .pick _,h=>h
 | d+1, .row ks,h=>⟨h.1,h.2.1,fun k hk=>Ok.mono d k (h.2.2 k hk)⟩
 | d+1, .many k _ _,h=>⟨h.1,h.2.1,Ok.mono d k h.2.2⟩
theorem Qp (j:Int):zP (.int 700) (.int j)= .ok (.int (700*j)):=uv _ _ (.inl ⟨by decide,by decide⟩)
theorem Qq (ns:List Int) (d:Nat) (h1:1<=d) (h8:d<=8) (k:Int) (h0:0<=k):∃ q:Kd,f_9 8 [scr ns, .int k, .int (d:Int)]= .ok q.t/\q.Ok d:=by
 obtain ⟨t,ht,hi⟩:=Wh ns d 8 h8 h1 k h0
 obtain ⟨q,rfl,hq⟩:=Wj d t hi
 exact ⟨q,ht,hq⟩
abbrev smB:En->RS:=zC (ifS (Z8 leC (za 1 (f_a 8) (z3 (vE 3) (zc))) (vB 2)) (zW (vE 3)) (nxS))
  (Zy 3 (za 3 (f_9 8) (z3 (vE 0) (z3 (zb zu (zb zu (vE 1) (cE (.int 500))) (zb zP (cE (.int 700)) (vE 4))) (z3 (cE (.int 2)) (zc))))))
abbrev en5 (ns:List Int) (a:Int) (m:Nat) (k:Kd) (x:Sl):En:=[.vl (scr ns), .vl (.int a), .vl (.int (m:Int)), .vl k.t,x]
theorem yc {ns:List Int} {a:Int} {m:Nat} {k:Kd} {x:Sl} (hk:k.Ok 3):Z8 leC (za 1 (f_a 8) (z3 (vE 3) (zc))) (vB 2) (en5 ns a m k x)= .ok (decide (k.all.length<=m)):=by
 have e:f_a 8 [k.t]= .ok (.int (k.all.length:Int)):=yb 3 8 (by omega) (by omega) k hk
 rw [Zc,zR,v3,bOk,e,bOk,w2,bOk,vJ,wU]
theorem Qr (ns:List Int) {a:Int} {m:Nat} (ha:0<=a) {k:Kd} (hk:k.Ok 3) (j:Nat):(k.all.length<=m/\smB (en5 ns a m k (.vl (.int (0+(j:Int)))))= .rt k.t)\/∃ k' :Kd,k'.Ok 3/\smB (en5 ns a m k (.vl (.int (0+(j:Int)))))= .nx (en5 ns a m k' (.vl (.int (0+(j:Int))))):=by
 by_cases h:k.all.length<=m
 ·refine .inl ⟨h, ?_⟩
  unfold smB
  refine ZP ?_
  rw [uB (by rw [yc hk,decide_eq_true h])]
  exact zU rfl
 ·obtain ⟨q,hq,ho⟩:=Qq ns 2 (by omega) (by omega) (a+500+700*(0+(j:Int))) (by omega)
  refine .inr ⟨q,Ok.mono 2 q ho, ?_⟩
  unfold smB
  rw [zi (ZR (by rw [yc hk,decide_eq_false h]))]
  have hq:f_9 8 [scr ns, .int (a+500+700*(0+(j:Int))), .int 2]= .ok q.t:=hq
  have e:za 3 (f_9 8) (z3 (vE 0) (z3 (zb zu (zb zu (vE 1) (cE (.int 500))) (zb zP (cE (.int 700)) (vE 4))) (z3 (cE (.int 2)) (zc)))) (en5 ns a m k (.vl (.int (0+(j:Int)))))= .ok q.t:=by
   rw [ZF,v0,bOk,zk,zk,v1,bOk,Zq,bOk,Ze,bOk,zk,Zq,bOk,v4,bOk,Qp,bOk,Ze,bOk,Zq,bOk,hq]
  rw [Zw e]
  rfl
theorem V0 {g:T->En->R En} {fb:En->RS} {t:T} {ts:List T} {ρ ρ1:En} {r:T} (hg:g t ρ= .ok ρ1) (hb:fb ρ1= .rt r):ZO g fb (t :: ts) ρ= .rt r:=by
 rw [ZO,hg]
 dsimp only
 rw [hb]
theorem yd (ns:List Int) {a:Int} {m:Nat} (ha:0<=a):∀ (js:List Nat) (k:Kd) (x:Sl),k.Ok 3->(∃ k' :Kd,k'.Ok 3/\k'.all.length<=m/\ZO (zr 4) smB (js.map fun (j:Nat)=>T.int (0+(j:Int))) (en5 ns a m k x)= .rt k'.t)\/
  ∃ (k' :Kd) (x' :Sl),k'.Ok 3/\ZO (zr 4) smB (js.map fun (j:Nat)=>T.int (0+(j:Int))) (en5 ns a m k x)= .nx (en5 ns a m k' x')
 | [],k,x,hk=> .inr ⟨k,x,hk,rfl⟩
 | j :: js,k,x,hk=>by
  have s3:zr 4 (T.int (0+(j:Int))) (en5 ns a m k x)= .ok (en5 ns a m k (.vl (.int (0+(j:Int))))):=rfl
  rw [List.map_cons]
  rcases Qr ns ha (m:=m) hk j with ⟨h1,h2⟩ | ⟨k',h1,h2⟩
  ·exact .inl ⟨k,hk,h1,V0 s3 h2⟩
  ·rw [Jy s3 h2]
   exact yd ns ha js k' _ h1
theorem Yl (ns:List Int) (a:Int) (ha:0<=a) (m:Nat) (hm:4<=m):∃ k:Kd,k.Ok 3/\k.all.length<=m/\f_l [scr ns, .int a, .int (m:Int)]= .ok k.t:=by
 obtain ⟨q,hq,ho⟩:=Qq ns 3 (by omega) (by omega) a ha
 have hq:f_9 8 [scr ns, .int a, .int 3]= .ok q.t:=hq
 have e:f_l [scr ns, .int a, .int (m:Int)]=zh (b_l (f_9 8) (f_a 8) [.vl (scr ns), .vl (.int a), .vl (.int (m:Int)), .un, .un]):=rfl
 have e1:za 3 (f_9 8) (z3 (vE 0) (z3 (vE 1) (z3 (cE (.int 3)) (zc)))) [.vl (scr ns), .vl (.int a), .vl (.int (m:Int)), .un, .un]= .ok q.t:=by
  rw [ZF,v0,bOk,v1,bOk,Zq,bOk,hq]
 have s1:([.vl (scr ns), .vl (.int a), .vl (.int (m:Int)), .un, .un]:En).set 3 (.vl q.t)=en5 ns a m q .un:=rfl
 rw [e,b_l,zi (Zw e1),s1]
 rcases yd ns ha (m:=m) (List.range 3) q .un ho with ⟨k,h1,h2,h3⟩ | ⟨k,x,h1,h3⟩
 ·refine ⟨k,h1,h2, ?_⟩
  have e2:jk (jf (cE (.int 3))) (zr 4) smB (en5 ns a m q .un)= .rt k.t:=h3
  rw [ZP e2]
  rfl
 ·have e2:jk (jf (cE (.int 3))) (zr 4) smB (en5 ns a m q .un)= .nx (en5 ns a m k x):=h3
  rw [zi e2]
  have ec:Z8 leC (za 1 (f_a 8) (z3 (vE 3) (zc))) (vB 2) (frz (en5 ns a m k x))= .ok (decide (k.all.length<=m)):=yc (x:=xt x) h1
  by_cases h:k.all.length<=m
  ·refine ⟨k,h1,h, ?_⟩
   rw [zU (t:=k.t)]
   ·rfl
   ·unfold ifE
    rw [ec,bOk,decide_eq_true h,if_pos rfl]
    rfl
  ·refine ⟨.whole (-1) 2,⟨by omega,by omega,by omega⟩,by rw [J0]; exact hm, ?_⟩
   rw [zU (t:=(Kd.whole (-1) 2).t)]
   ·rfl
   ·unfold ifE
    rw [ec,bOk,decide_eq_false h,if_neg Bool.false_ne_true,Kd.t]
    rfl
mutual
def Kd.has:Kd->T->Bool
 | .whole lo hi=>fun t=>inR lo hi t
 | .pick cs=>fun t=>match t with | .str x=>cs.any fun c=>c.1 == x | _=>false
 | .row ks=>fun t=>match t with | .tup xs=>xs.length == ks.length && Kd.hass ks xs | _=>false
 | .many k lo hi=>fun t=>match t with | .tup xs=>decide (lo<=xs.length) && decide (xs.length<=hi) && xs.all k.has | _=>false
def Kd.hass:List Kd->List T->Bool
 | []=>fun _=>true
 | k :: ks=>fun xs=>match xs with | []=>true | x :: xs=>k.has x && Kd.hass ks xs
end
theorem WU:∀ (ks:List Kd) (xs:List T),Kd.hass ks xs=(ks.zip xs).all fun q=>q.1.has q.2
 | [],_=>by simp [Kd.hass]
 | k :: ks,[]=>by simp [Kd.hass]
 | k :: ks,x :: xs=>by simp [Kd.hass,WU ks xs]
def ux:List (List T)->List T->Prop
 | [],[]=>True
 | l :: ls,x :: xs=>x∈l/\ux ls xs
 | _,_=>False
theorem J6:∀ (ls made:List (List T)) (xs:List T),xs∈Jp made ls↔∃ a∈made,∃ b,ux ls b/\xs=a++b
 | [],made,xs=>by
  rw [Jp]
  constructor
  ·exact fun h=>⟨xs,h,[],trivial,by simp⟩
  ·rintro ⟨a,ha,b,hb,rfl⟩
   cases b with
   | nil=>simpa using ha
   | cons=>exact hb.elim
 | l :: ls,made,xs=>by
  rw [Jp,J6 ls]
  constructor
  ·rintro ⟨a',ha',b,hb,rfl⟩
   obtain ⟨a,ha,hx⟩:=List.mem_flatMap.mp ha'
   obtain ⟨x,hl,e⟩:=List.mem_map.mp hx
   exact ⟨a,ha,x :: b,⟨hl,hb⟩,by rw [← e]; simp⟩
  ·rintro ⟨a,ha,b,hb,rfl⟩
   cases b with
   | nil=>exact hb.elim
   | cons x b=>exact ⟨a++[x],List.mem_flatMap.mpr ⟨a,ha,List.mem_map.mpr ⟨x,hb.1,rfl⟩⟩,b,hb.2,by simp⟩
theorem JW (ls:List (List T)) (t:T):t∈Wk ls↔∃ xs,ux ls xs/\t= .tup xs:=by
 unfold Wk
 rw [List.mem_map]
 constructor
 ·rintro ⟨xs,h,rfl⟩
  obtain ⟨a,ha,b,hb,rfl⟩:=(J6 ls [[]] xs).mp h
  rw [List.mem_singleton.mp ha]
  exact ⟨b,hb,rfl⟩
 ·rintro ⟨xs,h,rfl⟩
  exact ⟨xs,(J6 ls [[]] xs).mpr ⟨[],List.mem_singleton.mpr rfl,xs,h,rfl⟩,rfl⟩
theorem JX (l:List T):∀ (m:Nat) (xs:List T),ux (List.replicate m l) xs↔xs.length=m/\∀ x∈xs,x∈l
 | 0,[]=>by simp [ux]
 | 0,x :: xs=>by simp [ux]
 | m+1,[]=>by simp [ux,List.replicate_succ]
 | m+1,x :: xs=>by
  rw [List.replicate_succ]
  show x∈l/\ux _ xs↔_
  rw [JX l m xs]
  simp
  constructor
  ·rintro ⟨a,b,c⟩; exact ⟨b,a,c⟩
  ·rintro ⟨a,b,c⟩; exact ⟨b,a,c⟩
theorem wV:∀ (ks:List Kd),(∀ k∈ks,∀ x,x∈k.all↔k.has x=true)->∀ xs,ux (ks.map Kd.all) xs↔(xs.length == ks.length && Kd.hass ks xs)=true
 | [],_,[]=>by simp [ux,Kd.hass]
 | [],_,x :: xs=>by simp [ux]
 | k :: ks,h,[]=>by simp [ux]
 | k :: ks,h,x :: xs=>by
  show x∈k.all/\ux (ks.map Kd.all) xs↔_
  rw [wV ks (fun k' hk' =>h k' (List.mem_cons_of_mem _ hk')) xs,h k List.mem_cons_self x]
  simp [Kd.hass]
  constructor
  ·rintro ⟨a,b,c⟩; exact ⟨b,a,c⟩
  ·rintro ⟨a,b,c⟩; exact ⟨b,a,c⟩
mutual
theorem ZX:∀ (k:Kd) (x:T),x∈k.all↔k.has x=true
 | .whole lo hi,x=>by
  rw [Kd.all,Kd.has,List.mem_map]
  constructor
  ·rintro ⟨i,hi',rfl⟩
   rw [List.mem_range] at hi'
   simp [inR]; omega
  ·intro h
   obtain ⟨i,rfl⟩:=UX h
   simp [inR] at h
   exact ⟨(i - lo).toNat,by rw [List.mem_range]; omega,by congr 1; omega⟩
 | .pick cs,x=>by
  rw [Kd.all,Kd.has,List.mem_map]
  constructor
  ·rintro ⟨c,hc,rfl⟩
   simp only [List.any_eq_true]
   exact ⟨c,hc,by simp⟩
  ·intro h
   dsimp only at h
   split at h
   ·rw [List.any_eq_true] at h
    obtain ⟨c,hc,e⟩:=h
    exact ⟨c,hc,by rw [eq_of_beq e]⟩
   ·cases h
 | .row ks,x=>by
  rw [Kd.all,Kd.has,JW,Kd.alls_map]
  have:=wV ks (WV ks)
  constructor
  ·rintro ⟨xs,h,rfl⟩
   exact (this xs).mp h
  ·intro h
   dsimp only at h
   split at h
   ·rename_i xs
    exact ⟨xs,(this xs).mpr h,rfl⟩
   ·cases h
 | .many k lo hi,x=>by
  rw [Kd.all,Kd.has,List.mem_flatMap]
  constructor
  ·rintro ⟨i,hi',h⟩
   rw [JW] at h
   obtain ⟨xs,h,rfl⟩:=h
   rw [JX] at h
   rw [List.mem_range] at hi'
   simp only [Bool.and_eq_true,decide_eq_true_eq,List.all_eq_true]
   exact ⟨⟨by omega,by omega⟩,fun y hy=>(ZX k y).mp (h.2 y hy)⟩
  ·intro h
   dsimp only at h
   split at h
   ·rename_i xs
    simp only [Bool.and_eq_true,decide_eq_true_eq,List.all_eq_true] at h
    refine ⟨xs.length - lo,by rw [List.mem_range]; omega, ?_⟩
    rw [JW]
    exact ⟨xs,(JX _ _ _).mpr ⟨by omega,fun y hy=>(ZX k y).mpr (h.2 y hy)⟩,rfl⟩
   ·cases h
theorem WV:∀ (ks:List Kd),∀ k∈ks,∀ x,x∈k.all↔k.has x=true
 | [],_,h=>nomatch h
 | k :: ks,k',h=>by
  rcases List.mem_cons.mp h with e | h
  ·intro x
   rw [e]
   exact ZX k x
  ·exact WV ks k' h
end
theorem Ym (cs:List (Str×Int)) (h:cs.length<=4):f_n [(Kd.pick cs).t]= .ok (.lst (cs.map fun c=>T.str c.1)):=by
 have e:f_n [(Kd.pick cs).t]=zh (b_n [.vl (.tup [.str "pick", .tup (cs.map j7)])]):=by rw [Kd.t]; rfl
 have hb:(cs.map j7).length<=bnd:=by rw [List.length_map]; exact Nat.le_trans h (by decide)
 have ec:zD (zr 0) zO (zb ixT (vE 0) (cE (.int 0))) 1 [] [.vl (.tup [.str "pick", .tup (cs.map j7)])] (cs.map j7)= .ok ((cs.map j7).map fun c=>match c with | .tup (w :: _)=>w | _=>c):=
  zN _ hb fun t ht=>by
   obtain ⟨c,_,rfl⟩:=List.mem_map.mp ht
   rfl
 rw [e,b_n,zU (t:= .lst (cs.map fun c=>T.str c.1))]
 ·rfl
 ·show zY _ _ _ _ _ _ [.vl (.tup [.str "pick", .tup (cs.map j7)])]=_
  rw [zE,Zv,Wl,bOk]
  show ((zD _ _ _ _ _ _ (cs.map j7)).bind _)=_
  rw [ec,bOk,List.map_map]
  rfl
theorem ye:∀ (d:Nat) (k:Kd),k.Ok d->isK d k.t=true
 | 0,_,h=>h.elim
 | d+1, .whole lo hi,h=>by
  have e:isK (d+1) (Kd.whole lo hi).t=(decide (-20<=lo) && decide (lo<=hi) && decide (hi<=20)):=by rw [Kd.t]; rfl
  obtain ⟨h1,h2,h3⟩:=h
  rw [e]; simp; omega
 | d+1, .pick cs,h=>by
  have e:isK (d+1) (Kd.pick cs).t=(decide (1<=(cs.map j7).length) && decide ((cs.map j7).length<=4) && (cs.map j7).all zq && decide ((dd [] ((cs.map j7).map Z0)).length=(cs.map j7).length)):=by rw [Kd.t]; rfl
  obtain ⟨h1,h2,h3,h4⟩:=h
  have e1:(cs.map j7).map Z0=cs.map (·.1):=by rw [List.map_map]; rfl
  have e2:=(JQ (cs.map (·.1)) []).mpr fun k w hw=>by simpa using h4 k w hw
  rw [e,e1,e2,List.length_map,List.length_map]
  simp only [Bool.and_eq_true,decide_eq_true_eq,List.all_eq_true]
  refine ⟨⟨⟨h1,h2⟩,fun c hc=> ?_⟩,by simp⟩
  obtain ⟨p,hp,rfl⟩:=List.mem_map.mp hc
  obtain ⟨a,b,c⟩:=h3 p hp
  show (Zu (.str p.1) && decide (1<=p.2) && decide (p.2<=20))=true
  rw [a]; simp; omega
 | d+1, .row ks,h=>by
  have e:isK (d+1) (Kd.row ks).t=(decide (1<=(ks.map Kd.t).length) && decide ((ks.map Kd.t).length<=3) && (ks.map Kd.t).all (isK d)):=by rw [Kd.t,Kd.ts_map]; rfl
  obtain ⟨h1,h2,h3⟩:=h
  rw [e,List.length_map]
  simp only [Bool.and_eq_true,decide_eq_true_eq,List.all_eq_true]
  refine ⟨⟨h1,h2⟩,fun c hc=> ?_⟩
  obtain ⟨k,hk,rfl⟩:=List.mem_map.mp hc
  exact ye d k (h3 k hk)
 | d+1, .many k lo hi,h=>by
  have e:isK (d+1) (Kd.many k lo hi).t=((decide ((0:Int)<=(lo:Int)) && decide ((lo:Int)<=(hi:Int)) && decide ((hi:Int)<=3)) && isK d k.t):=by rw [Kd.t]; rfl
  obtain ⟨h1,h2,h3⟩:=h
  rw [e,ye d k h3]; simp; omega
theorem wW (t:T) (ht:sOk t):f_f [t]=if isK 3 t=true then .ok .non else .ex 0:=by
 have e:f_f [t]=zh (b_f f_3 [.vl t]):=rfl
 have ec:yU (yw (za 1 f_3 (z3 (vE 0) (zc)))) [.vl t]= .ok (!isK 3 t):=by
  rw [UR,US,zR,v0,bOk,ut t ht,bOk,WM,bOk]
 rw [e,b_f,ZN,ec,ZC]
 cases isK 3 t <;> rfl
theorem yf {α:Type} {xs:List α} {i:Nat} (h:i < xs.length):∃ x,xs[i]? =some x:=⟨_,List.getElem?_eq_getElem h⟩
theorem JB (k:Kd) (m:Nat):((List.replicate m k).map fun k=>k.all.length)=List.replicate m k.all.length:=by rw [List.map_replicate]
def Pl:Nat->T->Prop
 | 0,_=>False
 | n+1, .tup xs=>∀ x∈xs,Pl n x
 | n+1, .lst xs=>∀ x∈xs,Pl n x
 | _+1, .fz _=>False
 | _+1,_=>True
theorem Zl {f:T->T->Option Bool}:∀ (xs:List T),(∀ x∈xs,f x x=some true)->eqL f xs xs=some true
 | [],_=>rfl
 | x :: xs,h=>by
  unfold eqL
  rw [h x List.mem_cons_self,Zl xs fun z hz=>h z (List.mem_cons_of_mem _ hz)]
  rfl
theorem Z7:∀ (n:Nat) (y:T),Pl n y->eqF n y y=some true
 | 0,_,h=>h.elim
 | n+1,y,h=>by
  cases y with
  | tup xs=>rw [eqF]; exact Zl xs fun z hz=>Z7 n z ((show ∀ x∈xs,Pl n x from h) z hz)
  | lst xs=>rw [eqF]; exact Zl xs fun z hz=>Z7 n z ((show ∀ x∈xs,Pl n x from h) z hz)
  | fz xs=>exact h.elim
  | non=>rfl
  | bl b=>show some (b == b)=_; simp
  | int i=>show some (i == i)=_; simp
  | str i=>show some (i == i)=_; simp
theorem Pl.up:∀ (n:Nat) (y:T),Pl n y->Pl (n+1) y
 | 0,_,h=>h.elim
 | n+1,y,h=>by
  cases y with
  | tup xs=>exact fun z hz=>Pl.up n z ((show ∀ x∈xs,Pl n x from h) z hz)
  | lst xs=>exact fun z hz=>Pl.up n z ((show ∀ x∈xs,Pl n x from h) z hz)
  | fz xs=>exact h.elim
  | _=>exact trivial
theorem Pl.le {n m:Nat} {y:T} (hm:n<=m) (h:Pl n y):Pl m y:=by
 obtain ⟨j,rfl⟩:∃ j,m=n+j:=⟨m - n,by omega⟩
 clear hm
 induction j with
 | zero=>exact h
 | succ j ih=>exact Pl.up _ _ ih
theorem yg {t:T} (h:Pl 30 t):neC t t= .ok false:=by unfold neC; rw [Z7 30 t h]; rfl
theorem Wn {f:En->R T} {ρ:En} {t:T} (h:f ρ= .ok t):ue f ρ= .nx ρ:=by unfold ue; rw [h,ZC]
theorem x9 {i:Int}:neC (.int i) (.int i)= .ok false:=by show R.ok (!(i == i))=_; simp
theorem JY {lo hi:Int} {x:T}:inR lo hi x=true↔∃ i,x= .int i/\lo<=i/\i<=hi:=by
 constructor
 ·intro h
  obtain ⟨i,rfl⟩:=UX h
  simp [inR] at h
  exact ⟨i,rfl,h⟩
 ·rintro ⟨i,rfl,h⟩
  simp [inR]; exact h
theorem JZ {cs:List (Str×Int)} {x:T}:(Kd.pick cs).has x=true↔∃ w,x= .str w/\w∈cs.map (·.1):=by
 have key:∀ w:Str,(cs.any fun c=>c.1 == w)=true↔w∈cs.map (·.1):=fun w=>by
  rw [List.any_eq_true,List.mem_map]
  exact ⟨fun ⟨c,a,b⟩=>⟨c,a,beq_iff_eq.mp b⟩,fun ⟨c,a,b⟩=>⟨c,a,beq_iff_eq.mpr b⟩⟩
 constructor
 ·intro h
  cases x with
  | str w=>exact ⟨w,rfl,(key w).mp h⟩
  | _=>cases h
 ·rintro ⟨w,rfl,h⟩
  exact (key w).mpr h
def Hs (ks:List Kd) (xs:List T):Prop:=xs.length=ks.length/\∀ (i:Nat) (k:Kd) (x:T),ks[i]? =some k->xs[i]? =some x->k.has x=true
theorem Wo {k:Kd} {ks:List Kd} {x:T} {xs:List T}:Hs (k :: ks) (x :: xs)↔k.has x=true/\Hs ks xs:=by
 constructor
 ·rintro ⟨h1,h2⟩
  exact ⟨h2 0 k x rfl rfl,by simpa using h1,fun i k' x' a b=>h2 (i+1) k' x' (by simpa using a) (by simpa using b)⟩
 ·rintro ⟨h0,h1,h2⟩
  refine ⟨by simp [h1],fun i k' x' a b=> ?_⟩
  cases i with
  | zero=>simp at a b; subst a b; exact h0
  | succ i=>exact h2 i k' x' (by simpa using a) (by simpa using b)
theorem J7 {α:Type} {l:List α} {i:Nat} {a:α} (h:l[i]? =some a):a∈l:=List.mem_of_getElem? h
theorem YW {ks:List Kd} {xs:List T}:(xs.length == ks.length && Kd.hass ks xs)=true↔Hs ks xs:=by
 rw [Bool.and_eq_true,beq_iff_eq,WU,List.all_eq_true]
 constructor
 ·rintro ⟨h1,h2⟩
  refine ⟨h1,fun i k x a b=>h2 (k,x) (List.mem_of_getElem? (i:=i) ?_)⟩
  rw [List.getElem?_zip_eq_some]; exact ⟨a,b⟩
 ·rintro ⟨h1,h2⟩
  refine ⟨h1,fun q hq=> ?_⟩
  obtain ⟨i,hi⟩:=List.mem_iff_getElem?.mp hq
  obtain ⟨a,b⟩:=List.getElem?_zip_eq_some.mp hi
  exact h2 i q.1 q.2 a b
theorem yh {k:Kd} {xs:List T}:xs.all k.has=true↔Hs (List.replicate xs.length k) xs:=by
 rw [List.all_eq_true]
 constructor
 ·intro h
  refine ⟨by simp,fun i k' x a b=> ?_⟩
  obtain rfl:k=k' :=(List.mem_replicate.mp (J7 a)).2.symm
  exact h x (J7 b)
 ·rintro ⟨_,h⟩ x hx
  obtain ⟨i,hi⟩:=List.mem_iff_getElem?.mp hx
  have hl:=(List.getElem?_eq_some_iff.mp hi).1
  exact h i k x (by rw [List.getElem?_replicate,if_pos hl]) hi
theorem yi {ks:List Kd} {t:T} (h:(Kd.row ks).has t=true):∃ xs,t= .tup xs/\Hs ks xs:=by
 simp only [Kd.has] at h
 split at h
 ·exact ⟨_,rfl,YW.mp h⟩
 ·cases h
theorem WW {k:Kd} {lo hi:Nat} {t:T} (h:(Kd.many k lo hi).has t=true):∃ xs,t= .tup xs/\lo<=xs.length/\xs.length<=hi/\Hs (List.replicate xs.length k) xs:=by
 simp only [Kd.has] at h
 split at h
 ·rw [Bool.and_eq_true,Bool.and_eq_true,decide_eq_true_eq,decide_eq_true_eq] at h
  exact ⟨_,rfl,h.1.1,h.1.2,yh.mp h.2⟩
 ·cases h
theorem yj {ks:List Kd} {xs:List T} (h:Hs ks xs):(Kd.row ks).has (.tup xs)=true:=by simp only [Kd.has]; exact YW.mpr h
theorem Yn {k:Kd} {lo hi:Nat} {xs:List T} (h1:lo<=xs.length) (h2:xs.length<=hi) (h:Hs (List.replicate xs.length k) xs):(Kd.many k lo hi).has (.tup xs)=true:=by
 simp only [Kd.has]; rw [Bool.and_eq_true,Bool.and_eq_true,decide_eq_true_eq,decide_eq_true_eq]; exact ⟨⟨h1,h2⟩,yh.mpr h⟩
theorem jD {α:Type} (g:α->Int):∀ l:List α,zZ (l.map fun a=>T.int (g a))=some (l.map g)
 | []=>rfl
 | a :: l=>by
  show (match zZ (l.map fun a=>T.int (g a)) with | some l' =>some (g a :: l') | none=>none)=_
  rw [jD g l]; rfl
theorem Wp {α:Type} (g:α->Int) (l:List α):vA (.lst (l.map fun a=>T.int (g a)))= .ok (.int (l.map g).sum):=by
 show (match zZ (l.map fun a=>T.int (g a)) with | some l=>_ | none=>_)=_
 rw [jD]
theorem YX {g:En->R Bool} {f f' :En->R T} {ρ:En} (h:g ρ= .ok true):ifE g f f' ρ=f ρ:=by unfold ifE; rw [h]; rfl
theorem YY {g:En->R Bool} {f f' :En->R T} {ρ:En} (h:g ρ= .ok false):ifE g f f' ρ=f' ρ:=by unfold ifE; rw [h]; rfl
theorem Wq:∀ (l:List Int) (i:Int),Za (fun a b=>decide (a < b)) i l∈i :: l/\∀ x∈i :: l,Za (fun a b=>decide (a < b)) i l<=x
 | [],i=>⟨List.mem_cons_self,fun x h=>by simp at h; subst h; exact Int.le_refl _⟩
 | j :: r,i=>by
  unfold Za
  by_cases hj:j < i
  ·simp only [hj,decide_true,if_true]
   obtain ⟨h1,h2⟩:=Wq r j
   refine ⟨List.mem_cons_of_mem _ h1,fun x hx=> ?_⟩
   rcases List.mem_cons.mp hx with rfl | hx
   ·exact Int.le_trans (h2 j List.mem_cons_self) (Int.le_of_lt hj)
   ·exact h2 x hx
  ·simp only [hj,decide_false,Bool.false_eq_true,if_false]
   obtain ⟨h1,h2⟩:=Wq r i
   refine ⟨?_,fun x hx=> ?_⟩
   ·rcases List.mem_cons.mp h1 with h | h
    ·rw [h]; exact List.mem_cons_self
    ·exact List.mem_cons_of_mem _ (List.mem_cons_of_mem _ h)
   ·rcases List.mem_cons.mp hx with rfl | hx
    ·exact h2 x List.mem_cons_self
    ·rcases List.mem_cons.mp hx with rfl | hx
     ·exact Int.le_trans (h2 i List.mem_cons_self) (Int.not_lt.mp hj)
     ·exact h2 x (List.mem_cons_of_mem _ hx)
theorem Wr:∀ (l:List Int) (i:Int),Za (fun a b=>decide (b < a)) i l∈i :: l/\∀ x∈i :: l,x<=Za (fun a b=>decide (b < a)) i l
 | [],i=>⟨List.mem_cons_self,fun x h=>by simp at h; subst h; exact Int.le_refl _⟩
 | j :: r,i=>by
  unfold Za
  by_cases hj:i < j
  ·simp only [hj,decide_true,if_true]
   obtain ⟨h1,h2⟩:=Wr r j
   refine ⟨List.mem_cons_of_mem _ h1,fun x hx=> ?_⟩
   rcases List.mem_cons.mp hx with rfl | hx
   ·exact Int.le_trans (Int.le_of_lt hj) (h2 j List.mem_cons_self)
   ·exact h2 x hx
  ·simp only [hj,decide_false,Bool.false_eq_true,if_false]
   obtain ⟨h1,h2⟩:=Wr r i
   refine ⟨?_,fun x hx=> ?_⟩
   ·rcases List.mem_cons.mp h1 with h | h
    ·rw [h]; exact List.mem_cons_self
    ·exact List.mem_cons_of_mem _ (List.mem_cons_of_mem _ h)
   ·rcases List.mem_cons.mp hx with rfl | hx
    ·exact h2 x List.mem_cons_self
    ·rcases List.mem_cons.mp hx with rfl | hx
     ·exact Int.le_trans (Int.not_lt.mp hj) (h2 i List.mem_cons_self)
     ·exact h2 x (List.mem_cons_of_mem _ hx)
theorem Qs {α:Type} {g:α->Int} {l:List α} {m:Int} (h:∃ a∈l,g a=m) (hm:∀ a∈l,m<=g a):Us (.lst (l.map fun a=>T.int (g a)))= .ok (.int m):=by
 show (match zZ (l.map fun a=>T.int (g a)) with | some (i :: l)=>_ | _=>_)=_
 rw [jD]
 cases l with
 | nil=>obtain ⟨a,ha,_⟩:=h; cases ha
 | cons b l=>
  rw [List.map_cons]
  obtain ⟨h1,h2⟩:=Wq (l.map g) (g b)
  have e:Za (fun a b=>decide (a < b)) (g b) (l.map g)=m:=by
   obtain ⟨a,ha,e⟩:=h
   refine Int.le_antisymm ?_ ?_
   ·rw [← e]; refine h2 _ ?_; rw [← List.map_cons]; exact List.mem_map.mpr ⟨a,ha,rfl⟩
   ·rw [← List.map_cons (f:=g)] at h1; obtain ⟨c,hc,ec⟩:=List.mem_map.mp h1
    rw [← ec]; exact hm c hc
  show R.ok (T.int (Za _ (g b) (l.map g)))=_
  rw [e]
theorem Ws {α:Type} {g:α->Int} {l:List α} {m:Int} (h:∃ a∈l,g a=m) (hm:∀ a∈l,g a<=m):uf (.lst (l.map fun a=>T.int (g a)))= .ok (.int m):=by
 show (match zZ (l.map fun a=>T.int (g a)) with | some (i :: l)=>_ | _=>_)=_
 rw [jD]
 cases l with
 | nil=>obtain ⟨a,ha,_⟩:=h; cases ha
 | cons b l=>
  rw [List.map_cons]
  obtain ⟨h1,h2⟩:=Wr (l.map g) (g b)
  have e:Za (fun a b=>decide (b < a)) (g b) (l.map g)=m:=by
   obtain ⟨a,ha,e⟩:=h
   refine Int.le_antisymm ?_ ?_
   ·rw [← List.map_cons (f:=g)] at h1; obtain ⟨c,hc,ec⟩:=List.mem_map.mp h1
    rw [← ec]; exact hm c hc
   ·rw [← e]; refine h2 _ ?_; rw [← List.map_cons]; exact List.mem_map.mpr ⟨a,ha,rfl⟩
  show R.ok (T.int (Za _ (g b) (l.map g)))=_
  rw [e]
mutual
def Kd.dp:Kd->Int
 | .whole _ _=>1
 | .pick _=>1
 | .row ks=>1+Kd.dpm ks
 | .many k _ _=>1+k.dp
def Kd.dpm:List Kd->Int
 | []=>0
 | k :: ks=>if Kd.dpm ks < k.dp then k.dp else Kd.dpm ks
end
mutual
def Kd.wds:Kd->List Str
 | .whole _ _=>[]
 | .pick cs=>cs.map (·.1)
 | .row ks=>Kd.wdss ks
 | .many k _ _=>k.wds
def Kd.wdss:List Kd->List Str
 | []=>[]
 | k :: ks=>k.wds++Kd.wdss ks
end
mutual
def Kd.rlo:Kd->Int
 | .whole lo _=>lo
 | .pick _=>0
 | .row ks=>Kd.rlos ks
 | .many k lo hi=>if (hi:Int)*k.rlo < (lo:Int)*k.rlo then (hi:Int)*k.rlo else (lo:Int)*k.rlo
def Kd.rlos:List Kd->Int
 | []=>0
 | k :: ks=>k.rlo+Kd.rlos ks
end
mutual
def Kd.rhi:Kd->Int
 | .whole _ hi=>hi
 | .pick _=>0
 | .row ks=>Kd.rhis ks
 | .many k lo hi=>if (hi:Int)*k.rhi > (lo:Int)*k.rhi then (hi:Int)*k.rhi else (lo:Int)*k.rhi
def Kd.rhis:List Kd->Int
 | []=>0
 | k :: ks=>k.rhi+Kd.rhis ks
end
mutual
def sm:T->Int
 | .int i=>i
 | .tup xs=>sms xs
 | _=>0
def sms:List T->Int
 | []=>0
 | x :: xs=>sm x+sms xs
end
theorem yk:∀ xs:List T,sms xs=(xs.map sm).sum
 | []=>by simp [sms]
 | x :: xs=>by simp only [sms,List.map_cons,List.sum_cons,yk xs]
theorem WX:∀ ks:List Kd,Kd.rlos ks=(ks.map Kd.rlo).sum
 | []=>by simp [Kd.rlos]
 | k :: ks=>by simp only [Kd.rlos,List.map_cons,List.sum_cons,WX ks]
theorem WY:∀ ks:List Kd,Kd.rhis ks=(ks.map Kd.rhi).sum
 | []=>by simp [Kd.rhis]
 | k :: ks=>by simp only [Kd.rhis,List.map_cons,List.sum_cons,WY ks]
theorem J8:∀ ks:List Kd,Kd.wdss ks=ks.flatMap Kd.wds
 | []=>by simp [Kd.wdss]
 | k :: ks=>by simp only [Kd.wdss,List.flatMap_cons,J8 ks]
theorem J9:∀ ks:List Kd,(∀ k∈ks,1<=k.dp)->0<=Kd.dpm ks/\(∀ k∈ks,k.dp<=Kd.dpm ks)/\(ks ≠ []->∃ k∈ks,k.dp=Kd.dpm ks)
 | [],_=>⟨by simp [Kd.dpm],fun k h=>(by cases h),fun h=>absurd rfl h⟩
 | k :: ks,h=>by
  obtain ⟨h0,h1,h2⟩:=J9 ks fun q hq=>h q (List.mem_cons_of_mem _ hq)
  have hk:=h k List.mem_cons_self
  simp only [Kd.dpm]
  by_cases e:Kd.dpm ks < k.dp
  ·rw [if_pos e]
   refine ⟨by omega,fun q hq=> ?_,fun _=>⟨k,List.mem_cons_self,rfl⟩⟩
   rcases List.mem_cons.mp hq with rfl | hq
   ·omega
   ·have:=h1 q hq; omega
  ·rw [if_neg e]
   refine ⟨h0,fun q hq=> ?_,fun _=> ?_⟩
   ·rcases List.mem_cons.mp hq with rfl | hq
    ·omega
    ·exact h1 q hq
   ·by_cases hn:ks=[]
    ·subst hn; simp only [Kd.dpm] at e; omega
    ·obtain ⟨q,hq,e'⟩:=h2 hn
     exact ⟨q,List.mem_cons_of_mem _ hq,e'⟩
theorem Ja:∀ (d:Nat) (k:Kd),k.Ok d->1<=k.dp
 | 0,_,h=>h.elim
 | d+1, .whole lo hi,_=>by simp [Kd.dp]
 | d+1, .pick cs,_=>by simp [Kd.dp]
 | d+1, .row ks,h=>by
  have:=(J9 ks fun k hk=>Ja d k (h.2.2 k hk)).1
  simp only [Kd.dp]; omega
 | d+1, .many k lo hi,h=>by
  have:=Ja d k h.2.2
  simp only [Kd.dp]; omega
theorem Qt:∀ (d:Nat) (k:Kd),k.Ok d->∀ m:Nat,k.dp<=(m:Int)->k.Ok m
 | 0,_,h,_,_=>h.elim
 | d+1,k,h,0,hm=>by have:=Ja (d+1) k h; omega
 | d+1, .whole lo hi,h,m+1,_=>h
 | d+1, .pick cs,h,m+1,_=>h
 | d+1, .row ks,h,m+1,hm=>by
  refine ⟨h.1,h.2.1,fun k hk=>Qt d k (h.2.2 k hk) m ?_⟩
  have:=(J9 ks fun k hk=>Ja d k (h.2.2 k hk)).2.1 k hk
  simp only [Kd.dp] at hm; omega
 | d+1, .many k lo hi,h,m+1,hm=>by
  refine ⟨h.1,h.2.1,Qt d k h.2.2 m ?_⟩
  simp only [Kd.dp] at hm; omega
structure Rch (k:Kd):Prop where
 bd:∀ x,k.has x=true->k.rlo<=sm x/\sm x<=k.rhi
 lo:∃ x,k.has x=true/\sm x=k.rlo
 hi:∃ x,k.has x=true/\sm x=k.rhi
theorem jb:∀ (ks:List Kd),(∀ k∈ks,Rch k)->(∀ xs,Hs ks xs->Kd.rlos ks<=sms xs/\sms xs<=Kd.rhis ks)/\(∃ xs,Hs ks xs/\sms xs=Kd.rlos ks)/\∃ xs,Hs ks xs/\sms xs=Kd.rhis ks
 | [],_=>by
  have h0:Hs [] []:=⟨rfl,fun i k x a=>by simp at a⟩
  refine ⟨fun xs h=> ?_,⟨[],h0,rfl⟩,⟨[],h0,rfl⟩⟩
  rw [List.eq_nil_of_length_eq_zero h.1]; simp [Kd.rlos,Kd.rhis,sms]
 | k :: ks,h=>by
  obtain ⟨i1,⟨xl,l1,l2⟩,⟨xh,u1,u2⟩⟩:=jb ks fun q hq=>h q (List.mem_cons_of_mem _ hq)
  have R:=h k List.mem_cons_self
  obtain ⟨a,a1,a2⟩:=R.lo
  obtain ⟨b,b1,b2⟩:=R.hi
  refine ⟨fun xs hx=> ?_,⟨a :: xl,Wo.mpr ⟨a1,l1⟩,by simp only [sms,Kd.rlos,a2,l2]⟩,⟨b :: xh,Wo.mpr ⟨b1,u1⟩,by simp only [sms,Kd.rhis,b2,u2]⟩⟩
  cases xs with
  | nil=>simp [Hs] at hx
  | cons x xs=>
   obtain ⟨h0,h1⟩:=Wo.mp hx
   have p:=R.bd x h0
   have q:=i1 xs h1
   simp only [sms,Kd.rlos,Kd.rhis]; omega
theorem j4 (k:Kd):∀ n:Nat,Kd.rlos (List.replicate n k)=(n:Int)*k.rlo/\Kd.rhis (List.replicate n k)=(n:Int)*k.rhi
 | 0=>by simp [Kd.rlos,Kd.rhis]
 | n+1=>by
  obtain ⟨a,b⟩:=j4 k n
  simp only [List.replicate_succ,Kd.rlos,Kd.rhis,a,b]
  rw [show ((n+1:Nat):Int)=(n:Int)+1 by omega,Int.add_mul,Int.add_mul]; omega
theorem Jb {a lo n hi:Int} (h1:lo<=n) (h2:n<=hi):(lo*a<=n*a/\n*a<=hi*a)\/(hi*a<=n*a/\n*a<=lo*a):=by
 rcases Int.le_total 0 a with h | h
 ·exact .inl ⟨Int.mul_le_mul_of_nonneg_right h1 h,Int.mul_le_mul_of_nonneg_right h2 h⟩
 ·exact .inr ⟨Int.mul_le_mul_of_nonpos_right h2 h,Int.mul_le_mul_of_nonpos_right h1 h⟩
theorem Yo {k:Kd} {lo hi:Nat} (hlh:lo<=hi) (R:Rch k):Rch (.many k lo hi):=by
 have hr:∀ n,∀ q∈List.replicate n k,Rch q:=fun n q hq=>by obtain rfl:=(List.mem_replicate.mp hq).2; exact R
 have len:∀ n xs,Hs (List.replicate n k) xs->xs.length=n:=fun n xs h=>by have:=h.1; simpa using this
 have mem:∀ n xs,lo<=n->n<=hi->Hs (List.replicate n k) xs->(Kd.many k lo hi).has (.tup xs)=true:=fun n xs a b h=>by
  have:=len n xs h
  subst this
  exact Yn a b h
 refine ⟨fun x hx=> ?_, ?_, ?_⟩
 ·obtain ⟨xs,rfl,h1,h2,hs⟩:=WW hx
  obtain ⟨p1,p2⟩:=(jb _ (hr xs.length)).1 xs hs
  obtain ⟨e1,e2⟩:=j4 k xs.length
  rw [e1] at p1; rw [e2] at p2
  simp only [sm,Kd.rlo,Kd.rhi]
  have q1:=Jb (a:=k.rlo) (lo:=(lo:Int)) (n:=(xs.length:Int)) (hi:=(hi:Int)) (by omega) (by omega)
  have q2:=Jb (a:=k.rhi) (lo:=(lo:Int)) (n:=(xs.length:Int)) (hi:=(hi:Int)) (by omega) (by omega)
  constructor
  ·split <;> omega
  ·split <;> omega
 ·simp only [Kd.rlo]
  split
  ·obtain ⟨xs,a,b⟩:=(jb _ (hr hi)).2.1
   exact ⟨.tup xs,mem hi xs hlh (Nat.le_refl _) a,by simp only [sm]; rw [b,(j4 k hi).1]⟩
  ·obtain ⟨xs,a,b⟩:=(jb _ (hr lo)).2.1
   exact ⟨.tup xs,mem lo xs (Nat.le_refl _) hlh a,by simp only [sm]; rw [b,(j4 k lo).1]⟩
 ·simp only [Kd.rhi]
  split
  ·obtain ⟨xs,a,b⟩:=(jb _ (hr hi)).2.2
   exact ⟨.tup xs,mem hi xs hlh (Nat.le_refl _) a,by simp only [sm]; rw [b,(j4 k hi).2]⟩
  ·obtain ⟨xs,a,b⟩:=(jb _ (hr lo)).2.2
   exact ⟨.tup xs,mem lo xs (Nat.le_refl _) hlh a,by simp only [sm]; rw [b,(j4 k lo).2]⟩
theorem rch:∀ (d:Nat) (k:Kd),k.Ok d->Rch k
 | 0,_,h=>h.elim
 | d+1, .whole lo hi,h=>by
  have hh:=h.2.1
  refine ⟨fun x hx=> ?_,⟨.int lo, ?_,rfl⟩,⟨.int hi, ?_,rfl⟩⟩
  ·simp only [Kd.has] at hx
   obtain ⟨i,rfl,h1,h2⟩:=JY.mp hx
   simp only [sm,Kd.rlo,Kd.rhi]; exact ⟨h1,h2⟩
  ·simp only [Kd.has]; exact JY.mpr ⟨lo,rfl,by omega,hh⟩
  ·simp only [Kd.has]; exact JY.mpr ⟨hi,rfl,hh,by omega⟩
 | d+1, .pick cs,h=>by
  obtain ⟨c,hc⟩:=yf (show 0 < cs.length from h.1)
  have hm:(Kd.pick cs).has (.str c.1)=true:=JZ.mpr ⟨c.1,rfl,List.mem_map.mpr ⟨c,J7 hc,rfl⟩⟩
  refine ⟨fun x hx=> ?_,⟨_,hm,rfl⟩,⟨_,hm,rfl⟩⟩
  obtain ⟨w,rfl,_⟩:=JZ.mp hx
  simp [sm,Kd.rlo,Kd.rhi]
 | d+1, .row ks,h=>by
  obtain ⟨i1,⟨xl,l1,l2⟩,⟨xh,u1,u2⟩⟩:=jb ks fun k hk=>rch d k (h.2.2 k hk)
  refine ⟨fun x hx=> ?_,⟨.tup xl,yj l1,by simp only [sm,Kd.rlo,l2]⟩,⟨.tup xh,yj u1,by simp only [sm,Kd.rhi,u2]⟩⟩
  obtain ⟨xs,rfl,hs⟩:=yi hx
  simp only [sm,Kd.rlo,Kd.rhi]; exact i1 xs hs
 | d+1, .many k lo hi,h=>Yo h.1 (rch d k h.2.2)
theorem WZ {t:T} {x:Str} {r:List T} (ht:t= .tup (.str x :: r)) (h1:(x == "row")=false) (h2:(x == "many")=false):f_8 [t]= .ok (.tup []):=by
 subst ht
 show zh (b_8 [.vl (.tup (.str x :: r))])=_
 rw [b_8,zi (ZR (by rw [cs0,h1])),zi (ZR (by rw [cs0,h2])),zU (t:= .tup [])]
 ·rfl
 ·rfl
def ZI:Kd->List Kd
 | .row ks=>ks
 | .many k _ _=>[k]
 | _=>[]
theorem YZ (k:Kd):f_8 [k.t]= .ok (.tup ((ZI k).map Kd.t)):=by
 cases k with
 | whole lo hi=>exact WZ (x:="whole") (by rw [Kd.t]) rfl rfl
 | pick cs=>exact WZ (x:="pick") (by rw [Kd.t]) rfl rfl
 | row ks=>
  have e:f_8 [(Kd.row ks).t]=zh (b_8 [.vl (.tup [.str "row", .tup (ks.map Kd.t)])]):=by rw [Kd.t,Kd.ts_map]; rfl
  rw [e,b_8,ZP (t:= .tup (ks.map Kd.t))]
  ·rfl
  ·rw [uB (by rw [cs0,beq_self_eq_true]),zU]
   show zb _ _ _ [.vl (.tup [.str "row", .tup (ks.map Kd.t)])]=_
   rw [Wl]
 | many k lo hi=>
  have e:f_8 [(Kd.many k lo hi).t]=zh (b_8 [.vl (mt k.t lo hi)]):=by rw [Kd.t]; rfl
  rw [e,b_8,zi (ZR (by rw [cs0]; rfl)),ZP (t:= .tup [k.t])]
  ·rfl
  ·rw [uB (by rw [cs0,beq_self_eq_true]),zU]
   show Z4 _ [.vl (mt k.t lo hi)]=_
   rw [VY Wl]
theorem w8 {d:Nat} {k:Kd} (h:k.Ok (d+1)):(ZI k).length<=3/\∀ q∈ZI k,q.Ok d:=by
 cases k with
 | whole lo hi=>exact ⟨by simp [ZI],fun q hq=>by cases hq⟩
 | pick cs=>exact ⟨by simp [ZI],fun q hq=>by cases hq⟩
 | row ks=>exact ⟨h.2.1,h.2.2⟩
 | many k lo hi=>exact ⟨by simp [ZI],fun q hq=>by rw [List.mem_singleton.mp hq]; exact h.2.2⟩
theorem yl {d:Nat} {k:Kd} (h:k.Ok (d+1)):k.dp=1+Kd.dpm (ZI k):=by
 cases k with
 | whole lo hi=>simp [Kd.dp,ZI,Kd.dpm]
 | pick cs=>simp [Kd.dp,ZI,Kd.dpm]
 | row ks=>simp [Kd.dp,ZI]
 | many k lo hi=>
  have h1:=Ja d k h.2.2
  have h0:Kd.dpm []=0:=by simp only [Kd.dpm]
  have e:Kd.dpm [k]=k.dp:=by rw [Kd.dpm,if_pos (by omega)]
  show (Kd.many k lo hi).dp=1+Kd.dpm [k]
  rw [e,Kd.dp]
theorem Qu {ks:List Kd} (h:∀ k∈ks,1<=k.dp) {f g:En->R T} {ρ:En} (hf:f ρ= .ok (.lst (ks.map fun k=>T.int k.dp))) (hg:g ρ= .ok (.int 0)):Y6 f g ρ= .ok (.int (Kd.dpm ks)):=by
 unfold Y6
 rw [hf,bOk,hg,bOk]
 cases ks with
 | nil=>simp only [Kd.dpm]; rfl
 | cons k r=>
  obtain ⟨h0,h1,h2⟩:=J9 (k :: r) h
  obtain ⟨q,hq,e⟩:=h2 (by simp)
  exact Ws (g:=Kd.dp) ⟨q,hq,e⟩ h1
theorem ym:∀ (d n:Nat),d<=n->∀ k:Kd,k.Ok d->S_g n 0 [k.t]= .ok (.int k.dp)
 | 0,_,_,_,h=>h.elim
 | d+1,n+1,hn,k,h=>by
  obtain ⟨h3,hk⟩:=w8 h
  have e:S_g (n+1) 0 [k.t]=zh (b_g f_8 (S_g n 0) [.vl k.t]):=by rw [S_g]; rfl
  have ec:zD (zr 0) zO (za 1 (S_g n 0) (z3 (vE 0) (zc))) 1 [] [.vl k.t] ((ZI k).map Kd.t)= .ok ((ZI k).map fun q=>T.int q.dp):=by
   have:=zN (fe:=za 1 (S_g n 0) (z3 (vE 0) (zc))) (k:=1) (js:=[]) (ρ:=[.vl k.t]) (h:=fun t=>match S_g n 0 [t] with | .ok u=>u | _=> .non) ((ZI k).map Kd.t) (by rw [List.length_map]; exact Nat.le_trans h3 (by decide)) fun t ht=>by
    obtain ⟨q,hq,rfl⟩:=List.mem_map.mp ht
    show za 1 _ _ [.vl q.t]=_
    rw [zR,v0,bOk,ym d n (by omega) q (hk q hq)]
   rw [this,List.map_map]
   exact congrArg R.ok (List.map_congr_left fun q hq=>by
    show (match S_g n 0 [q.t] with | .ok u=>u | _=> .non)=_
    rw [ym d n (by omega) q (hk q hq)])
  rw [e,b_g,zU (t:= .int (1+Kd.dpm (ZI k)))]
  ·rw [yl h]; rfl
  ·show zb _ _ _ [.vl k.t]=_
   rw [zk,Zq,bOk,Qu (ks:=ZI k) (fun q hq=>Ja d q (hk q hq)),bOk,Ze]
   ·rw [zE,Zv,zR,v0,bOk,YZ,bOk]
    show (R.bind (R.ok ((ZI k).map Kd.t)) _)=_
    rw [bOk]; exact (by rw [ec,bOk])
   ·rfl
theorem jE {k:Kd} (h:∀ cs,k ≠ .pick cs):k.wds=(ZI k).flatMap Kd.wds:=by
 cases k with
 | whole lo hi=>simp [Kd.wds,ZI]
 | pick cs=>exact absurd rfl (h cs)
 | row ks=>simp only [Kd.wds,ZI,J8]
 | many k lo hi=>simp [Kd.wds,ZI]
theorem yn {α β:Type} {f:α->List β} {m:Nat}:∀ {l:List α},(∀ a∈l,(f a).length<=m)->(l.flatMap f).length<=l.length*m
 | [],_=>by simp
 | a :: l,h=>by
  have x:=h a List.mem_cons_self
  have y:=yn (l:=l) fun b hb=>h b (List.mem_cons_of_mem _ hb)
  rw [List.flatMap_cons,List.length_append,List.length_cons,Nat.succ_mul]; omega
theorem Jc:∀ (d:Nat) (k:Kd),k.Ok (d+1)->k.wds.length<=4*3 ^ d
 | d, .whole lo hi,_=>by simp [Kd.wds]
 | d, .pick cs,h=>by
  have:1<=3 ^ d:=Nat.pos_of_ne_zero (by simp)
  have:=h.2.1
  simp only [Kd.wds,List.length_map]; omega
 | 0, .row ks,h=>by
  have h1:=h.1
  obtain ⟨k,hk⟩:=yf (show 0 < ks.length from h1)
  exact (h.2.2 k (J7 hk)).elim
 | d+1, .row ks,h=>by
  simp only [Kd.wds,J8]
  have a:=yn (f:=Kd.wds) (m:=4*3 ^ d) fun k hk=>Jc d k (h.2.2 k hk)
  have b:ks.length*(4*3 ^ d)<=3*(4*3 ^ d):=Nat.mul_le_mul_right _ h.2.1
  rw [Nat.pow_succ]; omega
 | 0, .many k lo hi,h=>h.2.2.elim
 | d+1, .many k lo hi,h=>by
  have:=Jc d k h.2.2
  simp only [Kd.wds]
  rw [Nat.pow_succ]; omega
theorem qa {i:Nat} {f:En->R T} {ρ:En} {ts us:List T} (hi:ρ[i]? =some (.ow ts)) (h:f ρ= .ok (.lst us)) (hl:ts.length+us.length<=bnd):W0 i f ρ= .nx (ρ.set i (.ow (ts++us))):=by
 unfold W0
 rw [hi]
 dsimp only
 rw [h,ZC]
 dsimp only
 rw [if_pos hl]
theorem yo {c:List T->R T} {K:Sl}:∀ (ks:List Kd) (acc:List T) (x:Sl),(∀ k∈ks,c [k.t]= .ok (.lst (k.wds.map T.str)))->acc.length+(ks.flatMap Kd.wds).length<=bnd->∃ x',ZO (zr 2) (W0 1 (za 1 c (z3 (vE 2) (zc)))) (ks.map Kd.t) [K, .ow acc,x]= .nx [K, .ow (acc++(ks.flatMap Kd.wds).map T.str),x']
 | [],acc,x,_,_=>⟨x,by show RS.nx _=RS.nx _; rw [List.flatMap_nil,List.map_nil,List.append_nil]⟩
 | k :: ks,acc,x,h,hb=>by
  rw [List.flatMap_cons,List.length_append] at hb
  obtain ⟨x',ih⟩:=yo (K:=K) ks (acc++k.wds.map T.str) (.vl k.t) (fun q hq=>h q (List.mem_cons_of_mem _ hq)) (by rw [List.length_append,List.length_map]; omega)
  refine ⟨x', ?_⟩
  have e:W0 1 (za 1 c (z3 (vE 2) (zc))) [K, .ow acc, .vl k.t]= .nx [K, .ow (acc++k.wds.map T.str), .vl k.t]:=
   qa (i:=1) (ts:=acc) rfl (by rw [zR,v2,bOk,h k List.mem_cons_self]) (by simp; omega)
  rw [List.map_cons,Jy rfl e,ih,List.flatMap_cons,List.map_append,List.append_assoc]
theorem Jd:∀ (d n:Nat),d<=n->d<=3->∀ k:Kd,k.Ok d->S_5 n 0 [k.t]= .ok (.lst (k.wds.map T.str))
 | 0,_,_,_,_,h=>h.elim
 | d+1,n+1,hn,hd,k,h=>by
  have hb1:bnd=16777216:=rfl
  obtain ⟨h3,hk⟩:=w8 h
  have e:S_5 (n+1) 0 [k.t]=zh (b_5 f_n f_8 (S_5 n 0) [.vl k.t, .un, .un]):=by rw [S_5]; rfl
  rw [e,b_5]
  by_cases hp:∃ cs,k= .pick cs
  ·obtain ⟨cs,rfl⟩:=hp
   rw [ZP (t:= .lst (cs.map fun c=>T.str c.1))]
   ·simp only [Kd.wds,List.map_map]; rfl
   ·rw [uB (by rw [Kd.t,cs0,beq_self_eq_true]),zU]
    show za 1 _ _ [.vl (Kd.pick cs).t, .un, .un]=_
    rw [zR,v0,bOk,Ym cs h.2.1]
  ·have hp' :∀ cs,k ≠ .pick cs:=fun cs e=>hp ⟨cs,e⟩
   have hf:Z8 eqC (zb ixT (vE 0) (cE (.int 0))) (cE (.str "pick")) [.vl k.t, .un, .un]= .ok false:=by
    cases k with
    | pick cs=>exact absurd rfl (hp' cs)
    | whole lo hi=>rw [Kd.t,cs0]; rfl
    | row ks=>rw [Kd.t,cs0]; rfl
    | many k lo hi=>rw [Kd.t,cs0]; rfl
   have hlen:((ZI k).flatMap Kd.wds).length<=36:=by
    rw [← jE hp']
    have:=Jc d k h
    have:3 ^ d<=3 ^ 2:=Nat.pow_le_pow_right (by omega) (by omega)
    omega
   obtain ⟨x',hL⟩:=yo (c:=S_5 n 0) (K:= .vl k.t) (ZI k) [] .un (fun q hq=>Jd d n (by omega) (by omega) q (hk q hq)) (by rw [List.length_nil]; omega)
   have e1:uz 1 zc [.vl k.t, .un, .un]= .nx [.vl k.t, .ow [], .un]:=rfl
   have e2:jk (ZD (za 1 f_8 (z3 (vE 0) (zc)))) (zr 2) (W0 1 (za 1 (S_5 n 0) (z3 (vE 2) (zc)))) [.vl k.t, .ow [], .un]= .nx [.vl k.t, .ow ([]++((ZI k).flatMap Kd.wds).map T.str),x']:=by
    have ei:ZD (za 1 f_8 (z3 (vE 0) (zc))) [.vl k.t, .ow [], .un]= .ok ((ZI k).map Kd.t):=by
     rw [Zv,zR,v0,bOk,YZ,bOk]; rfl
    unfold jk
    rw [ei,ZC]; exact hL
   rw [zi (ZR hf),zi e1,zi e2,zU (t:= .lst (k.wds.map T.str))]
   ·rfl
   ·rw [jE hp']; rfl
theorem xv {c:List T->R T} {ks:List Kd} {h:Kd->T} {ρ:En} {js:List Nat} (hl:ks.length<=3) (H:∀ k∈ks,c [k.t]= .ok (h k)) (hρ:∀ t,(Wa 1 js ρ).set 0 (.vl t)= .vl t :: (Wa 1 js ρ).tail):zD (zr 0) zO (za 1 c (z3 (vE 0) (zc))) 1 js ρ (ks.map Kd.t)= .ok (ks.map h):=by
 have:=zN (fe:=za 1 c (z3 (vE 0) (zc))) (k:=1) (js:=js) (ρ:=ρ) (h:=fun t=>match c [t] with | .ok u=>u | _=> .non) (ks.map Kd.t) (by rw [List.length_map]; exact Nat.le_trans hl (by decide)) fun t ht=>by
  obtain ⟨q,hq,rfl⟩:=List.mem_map.mp ht
  rw [hρ,zR,v0,bOk,H q hq]
 rw [this,List.map_map]
 exact congrArg R.ok (List.map_congr_left fun q hq=>by
  show (match c [q.t] with | .ok u=>u | _=> .non)=_
  rw [H q hq])
theorem pr0 {α:Type} {a b:α->T}:∀ (qs:List α) (x y:Sl),zv (zQ 0 1) zO (vE 0) (qs.map fun q=>T.tup [a q,b q]) [x,y]= .ok (qs.map a)
 | [],_,_=>rfl
 | q :: qs,x,y=>by
  have e:zv (zQ 0 1) zO (vE 0) ((q :: qs).map fun q=>T.tup [a q,b q]) [x,y]=(zv (zQ 0 1) zO (vE 0) (qs.map fun q=>T.tup [a q,b q]) [.vl (a q), .vl (b q)]).bind fun vs=> .ok (a q :: vs):=rfl
  rw [e,pr0 qs]; rfl
theorem pr1 {α:Type} {a b:α->T}:∀ (qs:List α) (x y:Sl),zv (zQ 0 1) zO (vE 1) (qs.map fun q=>T.tup [a q,b q]) [x,y]= .ok (qs.map b)
 | [],_,_=>rfl
 | q :: qs,x,y=>by
  have e:zv (zQ 0 1) zO (vE 1) ((q :: qs).map fun q=>T.tup [a q,b q]) [x,y]=(zv (zQ 0 1) zO (vE 1) (qs.map fun q=>T.tup [a q,b q]) [.vl (a q), .vl (b q)]).bind fun vs=> .ok (b q :: vs):=rfl
  rw [e,pr1 qs]; rfl
theorem xw {α:Type} {a b:α->T} {qs:List α} {ρ:En} (hl:qs.length<=1000):zD (zQ 0 1) zO (vE 0) 2 [] ρ (qs.map fun q=>T.tup [a q,b q])= .ok (qs.map a):=by
 unfold zD
 rw [if_pos (by rw [List.length_map]; exact Nat.le_trans hl (by decide))]
 show quiet (zv _ _ _ _ [.un, .un])=_
 rw [pr0]; rfl
theorem X0 {α:Type} {a b:α->T} {qs:List α} {ρ:En} (hl:qs.length<=1000):zD (zQ 0 1) zO (vE 1) 2 [] ρ (qs.map fun q=>T.tup [a q,b q])= .ok (qs.map b):=by
 unfold zD
 rw [if_pos (by rw [List.length_map]; exact Nat.le_trans hl (by decide))]
 show quiet (zv _ _ _ _ [.un, .un])=_
 rw [pr1]; rfl
abbrev rT (k:Kd):T:= .tup [.int k.rlo, .int k.rhi]
theorem Yp {i j:Int} (h1:0<=i) (h2:i<=3):zP (.int i) (.int j)= .ok (.int (i*j)):=uv _ _ (.inl ⟨by omega,by omega⟩)
theorem V1 (i j:Int):Q7 (.int i) (.int j)= .ok (.int (if j > i then j else i)):=rfl
theorem Yq {c:List T->R T} {k:Kd} {lo hi:Nat} (h:lo<=hi) (h3:hi<=3) (hc:c [k.t]= .ok (rT k)):zh (b_t c (en0 2 [(Kd.many k lo hi).t]))= .ok (rT (.many k lo hi)):=by
 have e:en0 2 [(Kd.many k lo hi).t]=[.vl (mt k.t lo hi), .un]:=by rw [Kd.t]; rfl
 have e1:Zy 1 (za 1 c (z3 (zb ixT (vE 0) (cE (.int 1))) (zc))) [.vl (mt k.t lo hi), .un]= .nx [.vl (mt k.t lo hi), .vl (rT k)]:=by
  rw [Zw (t:=rT k)]
  ·rfl
  ·rw [zR,Wl,bOk,hc]
 have a0:zb ixT (vE 1) (cE (.int 0)) [.vl (mt k.t lo hi), .vl (rT k)]= .ok (.int k.rlo):=by rw [zk,v1,bOk,Zq,bOk,at0]
 have a1:zb ixT (vE 1) (cE (.int 1)) [.vl (mt k.t lo hi), .vl (rT k)]= .ok (.int k.rhi):=by rw [zk,v1,bOk,Zq,bOk,at1]
 rw [e,b_t,zi e1,zU (t:=rT (.many k lo hi))]
 ·rfl
 ·show Z4 _ [.vl (mt k.t lo hi), .vl (rT k)]=_
  rw [Wg (x:= .int (Kd.many k lo hi).rlo) (y:= .int (Kd.many k lo hi).rhi)]
  ·rw [zk,zk,YT,bOk,a0,bOk,Yp (by omega) (by omega),bOk,zk,Qz,bOk,a0,bOk,Yp (by omega) (by omega),bOk,UW]
   simp only [Kd.rlo]
  ·rw [zk,zk,YT,bOk,a1,bOk,Yp (by omega) (by omega),bOk,zk,Qz,bOk,a1,bOk,Yp (by omega) (by omega),bOk,V1]
   simp only [Kd.rhi]
theorem Je:∀ (d n:Nat),2*d<=n->∀ k:Kd,k.Ok d->S_2 n 0 [k.t]= .ok (rT k)
 | 0,_,_,_,h=>h.elim
 | d+1,n+2,hn,k,h=>by
  have ih:=Je d
  have e:S_2 (n+2) 0 [k.t]=zh (b_2 (S_2 (n+1) 0) (S_2 (n+1) 1) (en0 2 [k.t])):=by rw [S_2]
  have e1:∀ s,S_2 (n+1) 1 [s]=zh (b_t (S_2 n 0) (en0 2 [s])):=fun s=>by rw [S_2]; intro h; cases h
  rw [e]
  cases k with
  | whole lo hi=>
   have e:en0 2 [(Kd.whole lo hi).t]=[.vl (.tup [.str "whole", .int lo, .int hi]), .un]:=by rw [Kd.t]; rfl
   rw [e,b_2,ZP (t:=rT (.whole lo hi))]
   ·rfl
   ·rw [uB (by rw [cs0,beq_self_eq_true]),zU]
    show Z4 _ [.vl (.tup [.str "whole", .int lo, .int hi]), .un]=_
    rw [Wg Wl YT]; simp only [rT,Kd.rlo,Kd.rhi]
  | pick cs=>
   have e:en0 2 [(Kd.pick cs).t]=[.vl (.tup [.str "pick", .tup (cs.map j7)]), .un]:=by rw [Kd.t]; rfl
   rw [e,b_2,zi (ZR (by rw [cs0]; rfl)),ZP (t:=rT (.pick cs))]
   ·rfl
   ·rw [uB (by rw [cs0,beq_self_eq_true]),zU]
    simp only [rT,Kd.rlo,Kd.rhi]; rfl
  | row ks=>
   have e:en0 2 [(Kd.row ks).t]=[.vl (.tup [.str "row", .tup (ks.map Kd.t)]), .un]:=by rw [Kd.t,Kd.ts_map]; rfl
   have ec:zD (zr 0) zO (za 1 (S_2 (n+1) 0) (z3 (vE 0) (zc))) 1 [] [.vl (.tup [.str "row", .tup (ks.map Kd.t)]), .un] (ks.map Kd.t)= .ok (ks.map rT):=xv h.2.1 (fun k hk=>ih (n+1) (by omega) k (h.2.2 k hk)) fun t=>rfl
   have e1:Zy 1 (zY (ZD (zb ixT (vE 0) (cE (.int 1)))) (zr 0) (zO) (za 1 (S_2 (n+1) 0) (z3 (vE 0) (zc))) 1 []) [.vl (.tup [.str "row", .tup (ks.map Kd.t)]), .un]= .nx [.vl (.tup [.str "row", .tup (ks.map Kd.t)]), .vl (.lst (ks.map rT))]:=by
    rw [Zw (t:= .lst (ks.map rT))]
    ·rfl
    ·rw [zE,Zv,Wl,bOk]
     show (R.bind (R.ok (ks.map Kd.t)) _)=_
     rw [bOk,ec,bOk]
   have hl:ks.length<=1000:=Nat.le_trans h.2.1 (by decide)
   rw [e,b_2,zi (ZR (by rw [cs0]; rfl)),zi (ZR (by rw [cs0]; rfl)),ZP (t:=rT (.row ks))]
   ·rfl
   ·rw [uB (by rw [cs0,beq_self_eq_true]),zi e1,zU]
    show Z4 _ [.vl (.tup [.str "row", .tup (ks.map Kd.t)]), .vl (.lst (ks.map rT))]=_
    rw [Wg (x:= .int (Kd.row ks).rlo) (y:= .int (Kd.row ks).rhi)]
    ·rw [j6,zE]
     show (R.bind (R.bind (R.ok (ks.map fun k=>T.tup [T.int k.rlo,T.int k.rhi])) _) _)=_
     rw [bOk,xw (a:=fun k:Kd=>T.int k.rlo) (b:=fun k:Kd=>T.int k.rhi) hl,bOk,bOk,Wp]
     simp only [Kd.rlo,WX]
    ·rw [j6,zE]
     show (R.bind (R.bind (R.ok (ks.map fun k=>T.tup [T.int k.rlo,T.int k.rhi])) _) _)=_
     rw [bOk,X0 (a:=fun k:Kd=>T.int k.rlo) (b:=fun k:Kd=>T.int k.rhi) hl,bOk,bOk,Wp]
     simp only [Kd.rhi,WY]
  | many k lo hi=>
   have hm:=Yq (c:=S_2 n 0) h.1 h.2.1 (ih n (by omega) k h.2.2)
   rw [← e1] at hm
   have e:en0 2 [(Kd.many k lo hi).t]=[.vl (mt k.t lo hi), .un]:=by rw [Kd.t]; rfl
   rw [Kd.t] at hm
   rw [e,b_2,zi (ZR (by rw [cs0]; rfl)),zi (ZR (by rw [cs0]; rfl)),zi (ZR (by rw [cs0]; rfl)),zU (t:=rT (.many k lo hi))]
   ·rfl
   ·show za 1 _ _ [.vl (mt k.t lo hi), .un]=_
    rw [zR,v0,bOk,hm]
abbrev dT (k:Kd):T:= .tup [.int k.dp, .lst (k.wds.map T.str)]
theorem yq {K S:Sl}:∀ (ks:List Kd) (acc:List T) (x y:Sl),acc.length+(ks.flatMap Kd.wds).length<=bnd->∃ x' y',ZO (zQ 3 4) (W0 2 (vE 4)) (ks.map dT) [K,S, .ow acc,x,y]= .nx [K,S, .ow (acc++(ks.flatMap Kd.wds).map T.str),x',y']
 | [],acc,x,y,_=>⟨x,y,by show RS.nx _=RS.nx _; rw [List.flatMap_nil,List.map_nil,List.append_nil]⟩
 | k :: ks,acc,x,y,hb=>by
  rw [List.flatMap_cons,List.length_append] at hb
  obtain ⟨x',y',ih⟩:=yq (K:=K) (S:=S) ks (acc++k.wds.map T.str) (.vl (.int k.dp)) (.vl (.lst (k.wds.map T.str))) (by rw [List.length_append,List.length_map]; omega)
  refine ⟨x',y', ?_⟩
  have e:W0 2 (vE 4) [K,S, .ow acc, .vl (.int k.dp), .vl (.lst (k.wds.map T.str))]= .nx [K,S, .ow (acc++k.wds.map T.str), .vl (.int k.dp), .vl (.lst (k.wds.map T.str))]:=qa (i:=2) (ts:=acc) rfl rfl (by rw [List.length_map]; omega)
  rw [List.map_cons,Jy rfl e,ih,List.flatMap_cons,List.map_append,List.append_assoc]
theorem yr {c:List T->R T} {d:Nat} (hd:d+1<=3) {k:Kd} (h:k.Ok (d+1)) (hp:∀ cs,k ≠ .pick cs) (hne:ZI k ≠ []) (hin:Z8 inC (zb ixT (vE 0) (cE (.int 0))) (Z4 (z3 (cE (.str "whole")) (z3 (cE (.str "pick")) (zc)))) [.vl k.t, .un, .un, .un, .un]= .ok false)
  (hit:ZD (ifE (Z8 eqC (zb ixT (vE 0) (cE (.int 0))) (cE (.str "row"))) (zb ixT (vE 0) (cE (.int 1))) (Jh (z3 (zb ixT (vE 0) (cE (.int 1))) (zc)))) [.vl k.t, .un, .un, .un, .un]= .ok ((ZI k).map Kd.t)) (H:∀ q∈ZI k,c [q.t]= .ok (dT q)):zh (b_d c (en0 5 [k.t]))= .ok (dT k):=by
 have hb1:bnd=16777216:=rfl
 obtain ⟨h3,hk⟩:=w8 h
 have ec:zD (zr 0) zO (za 1 c (z3 (vE 0) (zc))) 1 [] [.vl k.t, .un, .un, .un, .un] ((ZI k).map Kd.t)= .ok ((ZI k).map dT):=xv h3 H fun t=>rfl
 have e1:Zy 1 (zY (ZD (ifE (Z8 eqC (zb ixT (vE 0) (cE (.int 0))) (cE (.str "row"))) (zb ixT (vE 0) (cE (.int 1))) (Jh (z3 (zb ixT (vE 0) (cE (.int 1))) (zc))))) (zr 0) (zO) (za 1 c (z3 (vE 0) (zc))) 1 []) [.vl k.t, .un, .un, .un, .un]= .nx [.vl k.t, .vl (.lst ((ZI k).map dT)), .un, .un, .un]:=by
  rw [Zw (t:= .lst ((ZI k).map dT))]
  ·rfl
  ·rw [zE,hit,bOk,ec,bOk]
 have hlen:((ZI k).flatMap Kd.wds).length<=36:=by
  rw [← jE hp]
  have:=Jc d k h
  have:3 ^ d<=3 ^ 2:=Nat.pow_le_pow_right (by omega) (by omega)
  omega
 obtain ⟨x',y',hL⟩:=yq (K:= .vl k.t) (S:= .vl (.lst ((ZI k).map dT))) (ZI k) [] .un .un (by rw [List.length_nil]; omega)
 have e2:uz 2 zc [.vl k.t, .vl (.lst ((ZI k).map dT)), .un, .un, .un]= .nx [.vl k.t, .vl (.lst ((ZI k).map dT)), .ow [], .un, .un]:=rfl
 have e3:jk (ZD (vE 1)) (zQ 3 4) (W0 2 (vE 4)) [.vl k.t, .vl (.lst ((ZI k).map dT)), .ow [], .un, .un]= .nx [.vl k.t, .vl (.lst ((ZI k).map dT)), .ow ([]++((ZI k).flatMap Kd.wds).map T.str),x',y']:=by
  unfold jk
  show (R.ok ((ZI k).map dT)).s _=_
  rw [ZC]; exact hL
 have e:en0 5 [k.t]=[.vl k.t, .un, .un, .un, .un]:=rfl
 rw [e,b_d,zi (ZR hin),zi e1,zi e2,zi e3,zU (t:=dT k)]
 ·rfl
 ·rw [Wg (x:= .int k.dp) (y:= .lst (k.wds.map T.str))]
  ·obtain ⟨m0,m1,m2⟩:=J9 (ZI k) fun q hq=>Ja d q (hk q hq)
   obtain ⟨q,hq,eq⟩:=m2 hne
   rw [zk,Zq,bOk,j6,zE]
   show (R.bind (R.bind (R.bind (R.ok ((ZI k).map fun q=>T.tup [T.int q.dp,T.lst (q.wds.map T.str)])) _) _) _)=_
   rw [bOk,xw (a:=fun q:Kd=>T.int q.dp) (b:=fun q:Kd=>T.lst (q.wds.map T.str)) (by omega),bOk,bOk,Ws (g:=Kd.dp) ⟨q,hq,eq⟩ m1,bOk,Ze,yl h]
  ·rw [jE hp]; rfl
theorem u0:∀ (d n:Nat),d<=n->d<=3->∀ k:Kd,k.Ok d->S_d n 0 [k.t]= .ok (dT k)
 | 0,_,_,_,_,h=>h.elim
 | d+1,n+1,hn,hd,k,h=>by
  have ih:=u0 d n (by omega) (by omega)
  have e:S_d (n+1) 0 [k.t]=zh (b_d (S_d n 0) (en0 5 [k.t])):=by rw [S_d]
  obtain ⟨h3,hk⟩:=w8 h
  rw [e]
  cases k with
  | whole lo hi=>
   have e:en0 5 [(Kd.whole lo hi).t]=[.vl (.tup [.str "whole", .int lo, .int hi]), .un, .un, .un, .un]:=by rw [Kd.t]; rfl
   rw [e,b_d,ZP (t:=dT (.whole lo hi))]
   ·rfl
   ·rw [uB (by rw [in2]; rfl),zU]
    show Z4 _ [.vl (.tup [.str "whole", .int lo, .int hi]), .un, .un, .un, .un]=_
    rw [Wg (x:= .int 1) (y:= .lst []) rfl]
    ·simp only [dT,Kd.dp,Kd.wds,List.map_nil]
    ·rw [YY (by rw [cs0]; rfl)]; rfl
  | pick cs=>
   have e:en0 5 [(Kd.pick cs).t]=[.vl (.tup [.str "pick", .tup (cs.map j7)]), .un, .un, .un, .un]:=by rw [Kd.t]; rfl
   have ec:zD (zQ 0 1) zO (vE 0) 2 [] [.vl (.tup [.str "pick", .tup (cs.map j7)]), .un, .un, .un, .un] (cs.map j7)= .ok (cs.map fun c=>T.str c.1):=by
    unfold zD
    rw [if_pos (by rw [List.length_map]; exact Nat.le_trans h.2.1 (by decide))]
    show quiet (zv (zQ 0 1) zO (vE 0) (cs.map j7) [.un, .un])=_
    rw [Wm]; rfl
   rw [e,b_d,ZP (t:=dT (.pick cs))]
   ·rfl
   ·rw [uB (by rw [in2]; rfl),zU]
    show Z4 _ [.vl (.tup [.str "pick", .tup (cs.map j7)]), .un, .un, .un, .un]=_
    rw [Wg (x:= .int 1) (y:= .lst (cs.map fun c=>T.str c.1)) rfl]
    ·simp only [dT,Kd.dp,Kd.wds,List.map_map]; rfl
    ·rw [YX (by rw [cs0,beq_self_eq_true]),zE,Zv,Wl,bOk]
     show (R.bind (R.ok (cs.map j7)) _)=_
     rw [bOk,ec,bOk]
  | row ks=>
   refine yr hd h (fun cs z=>nomatch z) (fun e=> ?_) (by rw [Kd.t,in2]; rfl) ?_ fun q hq=>ih q (hk q hq)
   ·have:ks.length=0:=by rw [show ks=[] from e]; rfl
    have:=h.1; omega
   ·rw [Zv,YX (by rw [Kd.t,cs0,beq_self_eq_true]),Kd.t,Kd.ts_map,Wl,bOk]; rfl
  | many k lo hi=>
   refine yr hd h (fun cs z=>nomatch z) (fun e=>nomatch e) (by rw [Kd.t,in2]; rfl) ?_ fun q hq=>ih q (hk q hq)
   rw [Zv,YY (by rw [Kd.t,cs0]; rfl),Kd.t,xu Wl,bOk]; rfl
theorem yt:∀ (d n:Nat),d<=n->∀ (k:Kd) (x:T),k.Ok d->k.has x=true->S_e n 0 [x]= .ok (.int (sm x))
 | 0,_,_,_,_,h,_=>h.elim
 | d+1,n+1,hn,k,x,h,hx=>by
  have ih:=yt d n (by omega)
  have e:S_e (n+1) 0 [x]=zh (b_e (S_e n 0) [.vl x]):=by rw [S_e]; rfl
  have tp:∀ xs:List T,xs.length<=3->(∀ y∈xs,S_e n 0 [y]= .ok (.int (sm y)))->zh (b_e (S_e n 0) [.vl (.tup xs)])= .ok (.int (sm (.tup xs))):=fun xs hl H=>by
   have ec:=zN (fe:=za 1 (S_e n 0) (z3 (vE 0) (zc))) (k:=1) (js:=[]) (ρ:=[.vl (.tup xs)]) (h:=fun t=> .int (sm t)) xs (Nat.le_trans hl (by decide)) fun t ht=>by
    show za 1 _ _ [.vl t]=_
    rw [zR,v0,bOk,H t ht]
   rw [b_e,ZP (t:= .int (sm (.tup xs)))]
   ·rfl
   ·rw [uB (by rfl),zU]
    show ap1 _ _ [.vl (.tup xs)]=_
    rw [j6,zE]
    show (R.bind (R.bind (R.ok xs) _) _)=_
    rw [bOk,ec,bOk,bOk,Wp]
    simp only [sm,yk]
  rw [e]
  cases k with
  | whole lo hi=>
   simp only [Kd.has] at hx
   obtain ⟨i,rfl,_⟩:=JY.mp hx
   rfl
  | pick cs=>
   obtain ⟨w,rfl,_⟩:=JZ.mp hx
   rfl
  | row ks=>
   obtain ⟨xs,rfl,hs⟩:=yi hx
   refine tp xs (by rw [hs.1]; exact h.2.1) fun y hy=> ?_
   obtain ⟨i,hi⟩:=List.mem_iff_getElem?.mp hy
   have hl:=(List.getElem?_eq_some_iff.mp hi).1
   obtain ⟨q,hq⟩:=yf (show i < ks.length by rw [← hs.1]; exact hl)
   exact ih q y (h.2.2 q (J7 hq)) (hs.2 i q y hq hi)
  | many k lo hi=>
   obtain ⟨xs,rfl,h1,h2,hs⟩:=WW hx
   exact tp xs (Nat.le_trans h2 h.2.1) fun y hy=>ih k y h.2.2 (List.all_eq_true.mp (yh.mpr hs) y hy)
theorem w9 {k:Kd} (hk:k.Ok 3):f_f [k.t]= .ok .non:=by
 have hi:=ye 3 k hk
 rw [wW k.t (JR 3 k.t hi).1,if_pos hi]
theorem Yr {k:Kd} (hk:k.Ok 3):f_6 [k.t]= .ok (.int k.dp):=by
 have h:f_g 8 [k.t]= .ok (.int k.dp):=ym 3 8 (by omega) k hk
 show zh (b_6 f_f (f_g 8) [.vl k.t])=_
 rw [b_6,zi (Wn (t:= .non) (by rw [zR,v0,bOk,w9 hk])),zU (t:= .int k.dp)]
 ·rfl
 ·show za _ _ _ [.vl k.t]=_
  rw [zR,v0,bOk,h]
theorem ji {k:Kd} (hk:k.Ok 3):f_1 [k.t]= .ok (rT k):=by
 have h:f_2 8 [k.t]= .ok (rT k):=Je 3 8 (by omega) k hk
 show zh (b_1 f_f (f_2 8) [.vl k.t])=_
 rw [b_1,zi (Wn (t:= .non) (by rw [zR,v0,bOk,w9 hk])),zU (t:=rT k)]
 ·rfl
 ·show za _ _ _ [.vl k.t]=_
  rw [zR,v0,bOk,h]
theorem u3:∀ ws:List Str,JI (ws.map T.str)=some ws
 | []=>rfl
 | w :: ws=>by
  show (match JI (ws.map T.str) with | some r=>some (w :: r) | none=>none)=_
  rw [u3 ws]
abbrev ssW (k:Kd):T:= .lst ((ug (dd [] k.wds)).map T.str)
theorem yu {k:Kd} (hk:k.Ok 3):uh (.lst (k.wds.map T.str))= .ok (ssW k):=by
 have hl:=Jc 2 k hk
 unfold uh
 dsimp only
 rw [u3]
 dsimp only
 rw [if_pos (by rw [List.length_map]; omega)]
theorem Wt {k:Kd} (hk:k.Ok 3):f_q [k.t]= .ok (ssW k):=by
 have h:f_5 8 [k.t]= .ok (.lst (k.wds.map T.str)):=Jd 3 8 (by omega) (by omega) k hk
 show zh (b_q f_f (f_5 8) [.vl k.t])=_
 rw [b_q,zi (Wn (t:= .non) (by rw [zR,v0,bOk,w9 hk])),zU (t:=ssW k)]
 ·rfl
 ·show ap1 _ _ [.vl k.t]=_
  rw [j6,zR,v0,bOk,h,bOk,yu hk]
theorem xa (k:Kd):neC (ssW k) (ssW k)= .ok false:=yg (Pl.le (n:=4) (by omega) (fun y hy=>by
 obtain ⟨w,_,rfl⟩:=List.mem_map.mp hy
 trivial))
theorem xx (a b:Int):neC (.tup [.int a, .int b]) (.tup [.int a, .int b])= .ok false:=yg (Pl.le (n:=4) (by omega) (fun y hy=>by
 rcases List.mem_cons.mp hy with rfl | hy
 ·trivial
 ·rw [List.mem_singleton.mp hy]; trivial))
abbrev enD (ns:List Int) (k b:Kd) (c d e f g h:Sl):En:=[.vl (scr ns), .vl k.t, .vl b.t,c,d,e,f,g,h]
abbrev dB:En->RS:=zC (YG (za 1 (f_d 8) (z3 (vE 3) (zc))) (zQ 4 5))
  (ifS (orT (Z8 neC (za 1 f_6 (z3 (vE 3) (zc))) (vB 4)) (Z8 neC (za 1 f_q (z3 (vE 3) (zc))) (ap1 uh (vB 5)))) (zW (cE (.bl false))) (nxS))
theorem qb (ns:List Int) {k b q:Kd} (hq:q.Ok 3) (d e f g h:Sl):dB (enD ns k b (.vl q.t) d e f g h)= .nx (enD ns k b (.vl q.t) (.vl (.int q.dp)) (.vl (.lst (q.wds.map T.str))) f g h):=by
 have hd:f_d 8 [q.t]= .ok (dT q):=u0 3 8 (by omega) (by omega) q hq
 have v3' :∀ d' e',vE 3 (enD ns k b (.vl q.t) d' e' f g h)= .ok q.t:=fun _ _=>rfl
 have e1:YG (za 1 (f_d 8) (z3 (vE 3) (zc))) (zQ 4 5) (enD ns k b (.vl q.t) d e f g h)= .nx (enD ns k b (.vl q.t) (.vl (.int q.dp)) (.vl (.lst (q.wds.map T.str))) f g h):=by
  unfold YG
  rw [zR,v3',bOk,hd,ZC]; rfl
 have w4:vB 4 (enD ns k b (.vl q.t) (.vl (.int q.dp)) (.vl (.lst (q.wds.map T.str))) f g h)= .ok (.int q.dp):=rfl
 have w5:vB 5 (enD ns k b (.vl q.t) (.vl (.int q.dp)) (.vl (.lst (q.wds.map T.str))) f g h)= .ok (.lst (q.wds.map T.str)):=rfl
 unfold dB
 rw [zi e1,ZR]
 rw [UQ,Zc,zR,v3',bOk,Yr hq,bOk,w4,bOk,x9,bOk,if_neg Bool.false_ne_true,Zc,zR,v3',bOk,Wt hq,bOk,j6,w5,bOk,yu hq,bOk,xa]
theorem Qv {b:Kd} (h:b.Ok 2):(Kd.row [b,b]).Ok 3:=⟨Nat.le_add_left 1 1,Nat.le_add_right 2 1,fun q hq=>by
 rcases List.mem_cons.mp hq with rfl | hq
 ·exact h
 ·rw [List.mem_singleton.mp hq]; exact h⟩
theorem xy (ns:List Int) (h:ns.length<=63):f_0 [.fz (ns.map T.int)]= .ok (.bl true):=by
 have hb1:bnd=16777216:=rfl
 obtain ⟨k,hk,h100,hs⟩:=Yl ns 0 (by omega) 100 (by omega)
 have hs:f_l [scr ns, .int 0, .int 100]= .ok k.t:=hs
 obtain ⟨b,hb,hbk⟩:=Qq ns 3 (by omega) (by omega) 3000 (by omega)
 have hb:f_9 8 [scr ns, .int 3000, .int 3]= .ok b.t:=hb
 have ha:f_7 8 [k.t]= .ok (.lst k.all):=y3 3 8 (by omega) (by omega) k hk (by omega)
 have Rk:=rch 3 k hk
 have Rb:=rch 3 b hbk
 have e:f_0 [.fz (ns.map T.int)]=zh (b_0 (f_9 8) (f_7 8) f_l f_6 f_q f_1 (f_d 8) (f_e 8) [.vl (scr ns), .un, .un, .un, .un, .un, .un, .un, .un]):=rfl
 have e1:Zy 1 (za 3 f_l (z3 (vE 0) (z3 (cE (.int 0)) (z3 (cE (.int 100)) (zc))))) [.vl (scr ns), .un, .un, .un, .un, .un, .un, .un, .un]= .nx [.vl (scr ns), .vl k.t, .un, .un, .un, .un, .un, .un, .un]:=by
  rw [Zw (t:=k.t)]
  ·rfl
  ·rw [ZF,v0,bOk,Zq,bOk,Zq,bOk,hs]
 have e2:Zy 2 (za 3 (f_9 8) (z3 (vE 0) (z3 (cE (.int 3000)) (z3 (cE (.int 3)) (zc))))) [.vl (scr ns), .vl k.t, .un, .un, .un, .un, .un, .un, .un]= .nx (enD ns k b .un .un .un .un .un .un):=by
  rw [Zw (t:=b.t)]
  ·rfl
  ·rw [ZF,v0,bOk,Zq,bOk,Zq,bOk,hb]
 have e3:jk (ZD (Z4 (z3 (vE 1) (z3 (vE 2) (zc))))) (zr 3) dB (enD ns k b .un .un .un .un .un .un)= .nx (enD ns k b (.vl b.t) (.vl (.int b.dp)) (.vl (.lst (b.wds.map T.str))) .un .un .un):=by
  unfold jk
  have ei:ZD (Z4 (z3 (vE 1) (z3 (vE 2) (zc)))) (enD ns k b .un .un .un .un .un .un)= .ok [k.t,b.t]:=by
   rw [Zv,Wg (x:=k.t) (y:=b.t) rfl rfl,bOk]; rfl
  rw [ei,ZC,Jy rfl (qb ns hk .un .un .un .un .un),Jy rfl (qb ns hbk _ _ .un .un .un)]
  rfl
 have c4:zD (zr 0) zO (za 1 (f_e 8) (z3 (vE 0) (zc))) 1 [] (enD ns k b (.vl b.t) (.vl (.int b.dp)) (.vl (.lst (b.wds.map T.str))) .un .un .un) k.all= .ok (k.all.map fun x=>T.int (sm x)):=
  zN _ (by omega) fun x hx=>by
   have hsu:f_e 8 [x]= .ok (.int (sm x)):=yt 3 8 (by omega) k x hk ((ZX k x).mp hx)
   show za 1 _ _ [.vl x]=_
   rw [zR,v0,bOk,hsu]
 have e4:Zy 6 (zY (ZD (za 1 (f_7 8) (z3 (vE 1) (zc)))) (zr 0) (zO) (za 1 (f_e 8) (z3 (vE 0) (zc))) 1 []) (enD ns k b (.vl b.t) (.vl (.int b.dp)) (.vl (.lst (b.wds.map T.str))) .un .un .un)= .nx (enD ns k b (.vl b.t) (.vl (.int b.dp)) (.vl (.lst (b.wds.map T.str))) (.vl (.lst (k.all.map fun x=>T.int (sm x)))) .un .un):=by
  rw [Zw (t:= .lst (k.all.map fun x=>T.int (sm x)))]
  ·rfl
  ·rw [zE,Zv,zR,v1,bOk,ha,bOk]
   show (R.bind (R.ok k.all) _)=_
   rw [bOk,c4,bOk]
 generalize hr:(enD ns k b (.vl b.t) (.vl (.int b.dp)) (.vl (.lst (b.wds.map T.str))) (.vl (.lst (k.all.map fun x=>T.int (sm x)))) .un .un)=r4 at e4
 have w1' :vE 1 r4= .ok k.t:=by rw [← hr]; rfl
 have w2' :vE 2 r4= .ok b.t:=by rw [← hr]; rfl
 have w6' :vB 6 r4= .ok (.lst (k.all.map fun x=>T.int (sm x))):=by rw [← hr]; rfl
 have mn:Us (.lst (k.all.map fun x=>T.int (sm x)))= .ok (.int k.rlo):=by
  obtain ⟨x,hx,ex⟩:=Rk.lo
  exact Qs ⟨x,(ZX k x).mpr hx,ex⟩ fun a ha=>(Rk.bd a ((ZX k a).mp ha)).1
 have mx' :uf (.lst (k.all.map fun x=>T.int (sm x)))= .ok (.int k.rhi):=by
  obtain ⟨x,hx,ex⟩:=Rk.hi
  exact Ws ⟨x,(ZX k x).mpr hx,ex⟩ fun a ha=>(Rk.bd a ((ZX k a).mp ha)).2
 have t5:Z8 neC (za 1 f_1 (z3 (vE 1) (zc))) (Z4 (z3 (ap1 Us (vB 6)) (z3 (ap1 uf (vB 6)) (zc)))) r4= .ok false:=by
  rw [Zc,zR,w1',bOk,ji hk,bOk,Wg (x:= .int k.rlo) (y:= .int k.rhi) (by rw [j6,w6',bOk,mn]) (by rw [j6,w6',bOk,mx']),bOk,xx]
 have e6:YG (za 1 f_1 (z3 (vE 2) (zc))) (zQ 7 8) r4= .nx (enD ns k b (.vl b.t) (.vl (.int b.dp)) (.vl (.lst (b.wds.map T.str))) (.vl (.lst (k.all.map fun x=>T.int (sm x)))) (.vl (.int b.rlo)) (.vl (.int b.rhi))):=by
  unfold YG
  rw [zR,w2',bOk,ji hbk,ZC,← hr]; rfl
 generalize hr6:(enD ns k b (.vl b.t) (.vl (.int b.dp)) (.vl (.lst (b.wds.map T.str))) (.vl (.lst (k.all.map fun x=>T.int (sm x)))) (.vl (.int b.rlo)) (.vl (.int b.rhi)))=r6 at e6
 have x2:vE 2 r6= .ok b.t:=by rw [← hr6]; rfl
 have x4:vB 4 r6= .ok (.int b.dp):=by rw [← hr6]; rfl
 have x7:vE 7 r6= .ok (.int b.rlo):=by rw [← hr6]; rfl
 have x8:vE 8 r6= .ok (.int b.rhi):=by rw [← hr6]; rfl
 have y7:vB 7 r6= .ok (.int b.rlo):=by rw [← hr6]; rfl
 have y8:vB 8 r6= .ok (.int b.rhi):=by rw [← hr6]; rfl
 have hle:b.rlo<=b.rhi:=by
  obtain ⟨x,hx,ex⟩:=Rb.lo
  have:=(Rb.bd x hx).2; omega
 have t7:orT (Z8 gtC (vB 7) (vB 8)) (Va (Z8 ltC (vB 4) (cE (.int 3))) (Z8 neC (za 1 f_1 (z3 (Z4 (z3 (cE (.str "row")) (z3 (zb zP (Z4 (z3 (vE 2) (zc))) (cE (.int 2))) (zc)))) (zc))) (Z4 (z3 (zb zP (cE (.int 2)) (vE 7)) (z3 (zb zP (cE (.int 2)) (vE 8)) (zc)))))) r6= .ok false:=by
  rw [UQ,Zc,y7,bOk,y8,bOk,gtI,decide_eq_false (by omega),bOk,if_neg Bool.false_ne_true,Qi,Zc,x4,bOk,Zq,bOk,ltI,bOk]
  by_cases hd:b.dp < 3
  ·rw [decide_eq_true hd,if_pos rfl]
   have hr2:=ji (Qv (Qt 3 b hbk 2 (by omega)))
   have em:zb zP (Z4 (z3 (vE 2) (zc))) (cE (.int 2)) r6= .ok (.tup [b.t,b.t]):=by rw [zk,VY x2,bOk,Zq,bOk]; rfl
   have er:(Kd.row [b,b]).t= .tup [.str "row", .tup [b.t,b.t]]:=by rw [Kd.t,Kd.ts_map]; rfl
   rw [er] at hr2
   rw [Zc,zR,Wg (x:= .str "row") (y:= .tup [b.t,b.t]) rfl em,bOk,hr2,bOk,Wg (x:= .int (2*b.rlo)) (y:= .int (2*b.rhi)) (by rw [zk,Zq,bOk,x7,bOk,vU]) (by rw [zk,Zq,bOk,x8,bOk,vU]),bOk]
   have a1:(Kd.row [b,b]).rlo=2*b.rlo:=by simp only [Kd.rlo,Kd.rlos]; omega
   have a2:(Kd.row [b,b]).rhi=2*b.rhi:=by simp only [Kd.rhi,Kd.rhis]; omega
   unfold rT
   rw [a1,a2,xx]
  ·rw [decide_eq_false hd,if_neg Bool.false_ne_true]
 have m1:=ji (k:= .many (.whole (-2) 3) 0 3) ⟨by decide,by decide,by decide,by decide,by decide⟩
 have m2:=ji (k:= .many (.whole 1 2) 2 3) ⟨by decide,by decide,by decide,by decide,by decide⟩
 rw [Kd.t,Kd.t] at m1 m2
 have r1:rT (.many (.whole (-2) 3) 0 3)= .tup [.int (-6), .int 9]:=by simp only [rT,Kd.rlo,Kd.rhi]; rfl
 have r2:rT (.many (.whole 1 2) 2 3)= .tup [.int 2, .int 6]:=by simp only [rT,Kd.rlo,Kd.rhi]; rfl
 rw [r1] at m1
 rw [r2] at m2
 rw [e,b_0,zi e1,zi e2,zi e3,zi e4,zi (ZR t5),zi e6,zi (ZR t7),zU (t:= .bl true)]
 ·rfl
 ·generalize frz r6=ρ
  rw [WL,jV,zR]
  show Qy (R.bind (R.bind (R.ok (T.tup [.str "many", .tup [.str "whole", .int (-2), .int 3], .int 0, .int 3])) _) _) _=_
  rw [bOk,show f_1 [T.tup [.str "many", .tup [.str "whole", .int (-2), .int 3], .int 0, .int 3]]= .ok (.tup [.int (-6), .int 9]) from m1]
  show Qy (.ok (.bl true)) _=_
  rw [ZH,if_pos rfl,jV,zR]
  show (R.bind (R.bind (R.ok (T.tup [.str "many", .tup [.str "whole", .int 1, .int 2], .int 2, .int 3])) _) _)=_
  rw [bOk,show f_1 [T.tup [.str "many", .tup [.str "whole", .int 1, .int 2], .int 2, .int 3]]= .ok (.tup [.int 2, .int 6]) from m2]
  rfl
end G
namespace G
open PySem PySem.Spec PyProof.Rows L2 PV
def top (i:Nat):Stmt:=PySem.Challenge.pw_worthkinds_k03_whole_shapes.main.body.getD i (.Pass ⟨0,0,0,0⟩)
abbrev s_u:Stmt:=top 26
abbrev N_u:List Str:=["_law_script","_law_k"]
theorem X1:zf N_u ["_law_script","_law_k"] (z9 s_u):=by refine ⟨rfl,rfl,rfl, ?_,rfl, ?_, ?_⟩ <;> decide+kernel
abbrev s_4:Stmt:=top 27
abbrev N_4:List Str:=["_law_script","_law_k","_law_many","_law_drawn"]
theorem xz:zf N_4 ["_law_script","_law_k","_law_many"] (z9 s_4):=by refine ⟨rfl,rfl,rfl, ?_,rfl, ?_, ?_⟩ <;> decide+kernel
abbrev s_m:Stmt:=top 28
abbrev N_m:List Str:=["_law_script","_law_at","_law_letters"]
theorem xA:zf N_m ["_law_script","_law_at"] (z9 s_m):=by refine ⟨rfl,rfl,rfl, ?_,rfl, ?_, ?_⟩ <;> decide+kernel
abbrev s_j:Stmt:=top 29
abbrev N_j:List Str:=["_law_script","_law_at","_law_low","_law_words","_law_k","_law_word"]
theorem QA:zf N_j ["_law_script","_law_at"] (z9 s_j):=by refine ⟨rfl,rfl,rfl, ?_,rfl, ?_, ?_⟩ <;> decide+kernel
abbrev s_9:Stmt:=top 30
abbrev N_9:List Str:=["_law_script","_law_at","_law_deep_here","_law_way","_law_some","_law_low"]
theorem Vi:zf N_9 ["_law_script","_law_at","_law_deep_here"] (z9 s_9):=by refine ⟨rfl,rfl,rfl, ?_,rfl, ?_, ?_⟩ <;> decide+kernel
abbrev s_c:Stmt:=top 32
abbrev N_c:List Str:=["_law_lists","_law_made","_law_some","_law_longer","_law_ahead"]
theorem QB:zf N_c ["_law_lists"] (z9 s_c):=by refine ⟨rfl,rfl,rfl, ?_,rfl, ?_, ?_⟩ <;> decide+kernel
abbrev s_7:Stmt:=top 31
abbrev N_7:List Str:=["_law_kind_here","_law_made","_law_size_here"]
theorem xb:zf N_7 ["_law_kind_here"] (z9 s_7):=by refine ⟨rfl,rfl,rfl, ?_,rfl, ?_, ?_⟩ <;> decide+kernel
abbrev s_a:Stmt:=top 33
abbrev N_a:List Str:=["_law_kind_here","_law_sizes","_law_made","_law_size_here","_law_inner"]
theorem Ys:zf N_a ["_law_kind_here"] (z9 s_a):=by refine ⟨rfl,rfl,rfl, ?_,rfl, ?_, ?_⟩ <;> decide+kernel
abbrev s_l:Stmt:=top 34
abbrev N_l:List Str:=["_law_script","_law_at","_law_most","_law_kind_here","_law_k"]
theorem Vj:zf N_l ["_law_script","_law_at","_law_most"] (z9 s_l):=by refine ⟨rfl,rfl,rfl, ?_,rfl, ?_, ?_⟩ <;> decide+kernel
abbrev s_i:Stmt:=top 7
abbrev N_i:List Str:=["thing"]
theorem X2:zf N_i ["thing"] (z9 s_i):=by refine ⟨rfl,rfl,rfl, ?_,rfl, ?_, ?_⟩ <;> decide+kernel
abbrev s_r:Stmt:=top 10
abbrev N_r:List Str:=["low","high","least","most"]
theorem X3:zf N_r ["low","high","least","most"] (z9 s_r):=by refine ⟨rfl,rfl,rfl, ?_,rfl, ?_, ?_⟩ <;> decide+kernel
abbrev s_h:Stmt:=top 8
abbrev N_h:List Str:=["thing","least","most"]
theorem X4:zf N_h ["thing","least","most"] (z9 s_h):=by refine ⟨rfl,rfl,rfl, ?_,rfl, ?_, ?_⟩ <;> decide+kernel
abbrev s_p:Stmt:=top 9
abbrev N_p:List Str:=["thing"]
theorem X5:zf N_p ["thing"] (z9 s_p):=by refine ⟨rfl,rfl,rfl, ?_,rfl, ?_, ?_⟩ <;> decide+kernel
abbrev s_o:Stmt:=top 13
abbrev N_o:List Str:=["thing"]
theorem X6:zf N_o ["thing"] (z9 s_o):=by refine ⟨rfl,rfl,rfl, ?_,rfl, ?_, ?_⟩ <;> decide+kernel
abbrev s_k:Stmt:=top 12
abbrev N_k:List Str:=["thing","words"]
theorem xB:zf N_k ["thing"] (z9 s_k):=by refine ⟨rfl,rfl,rfl, ?_,rfl, ?_, ?_⟩ <;> decide+kernel
abbrev s_b:Stmt:=top 11
abbrev N_b:List Str:=["thing","levels"]
theorem X7:zf N_b ["thing","levels"] (z9 s_b):=by refine ⟨rfl,rfl,rfl, ?_,rfl, ?_, ?_⟩ <;> decide+kernel
abbrev s_s:Stmt:=top 14
abbrev N_s:List Str:=["thing","levels"]
theorem X8:zf N_s ["thing","levels"] (z9 s_s):=by refine ⟨rfl,rfl,rfl, ?_,rfl, ?_, ?_⟩ <;> decide+kernel
abbrev s_3:Stmt:=top 5
abbrev N_3:List Str:=["thing"]
theorem X9:zf N_3 ["thing"] (z9 s_3):=by refine ⟨rfl,rfl,rfl, ?_,rfl, ?_, ?_⟩ <;> decide+kernel
abbrev s_f:Stmt:=top 6
abbrev N_f:List Str:=["kind"]
theorem Xa:zf N_f ["kind"] (z9 s_f):=by refine ⟨rfl,rfl,rfl, ?_,rfl, ?_, ?_⟩ <;> decide+kernel
abbrev s_2:Stmt:=top 23
abbrev N_2:List Str:=["kind","reaches"]
theorem xC:zf N_2 ["kind"] (z9 s_2):=by refine ⟨rfl,rfl,rfl, ?_,rfl, ?_, ?_⟩ <;> decide+kernel
abbrev s_t:Stmt:=top 24
abbrev N_t:List Str:=["kind","part"]
theorem xD:zf N_t ["kind"] (z9 s_t):=by refine ⟨rfl,rfl,rfl, ?_,rfl, ?_, ?_⟩ <;> decide+kernel
abbrev s_1:Stmt:=top 19
abbrev N_1:List Str:=["kind"]
theorem Xb:zf N_1 ["kind"] (z9 s_1):=by refine ⟨rfl,rfl,rfl, ?_,rfl, ?_, ?_⟩ <;> decide+kernel
abbrev s_d:Stmt:=top 35
abbrev N_d:List Str:=["_law_kind_here","_law_some","_law_words","_law_deep_here","_law_more"]
theorem Vk:zf N_d ["_law_kind_here"] (z9 s_d):=by refine ⟨rfl,rfl,rfl, ?_,rfl, ?_, ?_⟩ <;> decide+kernel
abbrev s_e:Stmt:=top 36
abbrev N_e:List Str:=["_law_worth"]
theorem Xc:zf N_e ["_law_worth"] (z9 s_e):=by refine ⟨rfl,rfl,rfl, ?_,rfl, ?_, ?_⟩ <;> decide+kernel
abbrev s_8:Stmt:=top 20
abbrev N_8:List Str:=["kind"]
theorem Xd:zf N_8 ["kind"] (z9 s_8):=by refine ⟨rfl,rfl,rfl, ?_,rfl, ?_, ?_⟩ <;> decide+kernel
abbrev s_g:Stmt:=top 21
abbrev N_g:List Str:=["kind"]
theorem Xe:zf N_g ["kind"] (z9 s_g):=by refine ⟨rfl,rfl,rfl, ?_,rfl, ?_, ?_⟩ <;> decide+kernel
abbrev s_6:Stmt:=top 17
abbrev N_6:List Str:=["kind"]
theorem Xf:zf N_6 ["kind"] (z9 s_6):=by refine ⟨rfl,rfl,rfl, ?_,rfl, ?_, ?_⟩ <;> decide+kernel
abbrev s_n:Stmt:=top 15
abbrev N_n:List Str:=["kind"]
theorem Xg:zf N_n ["kind"] (z9 s_n):=by refine ⟨rfl,rfl,rfl, ?_,rfl, ?_, ?_⟩ <;> decide+kernel
abbrev s_5:Stmt:=top 22
abbrev N_5:List Str:=["kind","words","part"]
theorem xf:zf N_5 ["kind"] (z9 s_5):=by refine ⟨rfl,rfl,rfl, ?_,rfl, ?_, ?_⟩ <;> decide+kernel
abbrev s_q:Stmt:=top 18
abbrev N_q:List Str:=["kind"]
theorem Xh:zf N_q ["kind"] (z9 s_q):=by refine ⟨rfl,rfl,rfl, ?_,rfl, ?_, ?_⟩ <;> decide+kernel
abbrev s_0:Stmt:=top 37
abbrev N_0:List Str:=["_law_script","_law_kind_here","_law_big","_law_one","_law_deep_here","_law_words","_law_sums","_law_low","_law_high"]
theorem Qw:zf N_0 ["_law_script"] (z9 s_0):=by refine ⟨rfl,rfl,rfl, ?_,rfl, ?_, ?_⟩ <;> decide+kernel
structure Fn (K:PySem.W.Frag) (mg:Str->Option Value) (x:Str) (st:Stmt) (ps:List Str) (f:Addr) (fd:FuncData):Prop where
 F:Fun K x x st f fd
 b:L2.Binds K fd ps []
 m:mg x=some (.ref f)
abbrev xE:List Value:=[.type "ValueError", .type "Exception", .type "BaseException", .type "object"]
set_option genInjectivity false in
set_option genSizeOf false in
structure Tx (K:PySem.W.Frag) (mg:Str->Option Value) where
 a_u:Addr
 d_u:FuncData
 C_u:Fn K mg "_law_cell" s_u ["_law_script","_law_k"] a_u d_u
 a_4:Addr
 d_4:FuncData
 C_4:Fn K mg "_law_pick" s_4 ["_law_script","_law_k","_law_many"] a_4 d_4
 a_m:Addr
 d_m:FuncData
 C_m:Fn K mg "_law_word_of" s_m ["_law_script","_law_at"] a_m d_m
 a_j:Addr
 d_j:FuncData
 C_j:Fn K mg "_law_leaf_kind" s_j ["_law_script","_law_at"] a_j d_j
 a_9:Addr
 d_9:FuncData
 C_9:Fn K mg "_law_kind" s_9 ["_law_script","_law_at","_law_deep_here"] a_9 d_9
 a_c:Addr
 d_c:FuncData
 C_c:Fn K mg "_law_rows_of" s_c ["_law_lists"] a_c d_c
 a_7:Addr
 d_7:FuncData
 C_7:Fn K mg "_law_all" s_7 ["_law_kind_here"] a_7 d_7
 a_a:Addr
 d_a:FuncData
 C_a:Fn K mg "_law_size" s_a ["_law_kind_here"] a_a d_a
 a_l:Addr
 d_l:FuncData
 C_l:Fn K mg "_law_small" s_l ["_law_script","_law_at","_law_most"] a_l d_l
 a_i:Addr
 d_i:FuncData
 C_i:Fn K mg "is_whole" s_i ["thing"] a_i d_i
 a_r:Addr
 d_r:FuncData
 C_r:Fn K mg "is_span" s_r ["low","high","least","most"] a_r d_r
 a_h:Addr
 d_h:FuncData
 C_h:Fn K mg "is_tuple_of" s_h ["thing","least","most"] a_h d_h
 a_p:Addr
 d_p:FuncData
 C_p:Fn K mg "is_word" s_p ["thing"] a_p d_p
 a_o:Addr
 d_o:FuncData
 C_o:Fn K mg "is_choice" s_o ["thing"] a_o d_o
 a_k:Addr
 d_k:FuncData
 C_k:Fn K mg "are_choices" s_k ["thing"] a_k d_k
 a_b:Addr
 d_b:FuncData
 C_b:Fn K mg "is_kind_within" s_b ["thing","levels"] a_b d_b
 a_s:Addr
 d_s:FuncData
 C_s:Fn K mg "are_kinds_within" s_s ["thing","levels"] a_s d_s
 a_3:Addr
 d_3:FuncData
 C_3:Fn K mg "is_kind" s_3 ["thing"] a_3 d_3
 a_f:Addr
 d_f:FuncData
 C_f:Fn K mg "need_kind" s_f ["kind"] a_f d_f
 a_2:Addr
 d_2:FuncData
 C_2:Fn K mg "reach_of" s_2 ["kind"] a_2 d_2
 a_t:Addr
 d_t:FuncData
 C_t:Fn K mg "reach_of_many" s_t ["kind"] a_t d_t
 a_1:Addr
 d_1:FuncData
 C_1:Fn K mg "reach" s_1 ["kind"] a_1 d_1
 a_d:Addr
 d_d:FuncData
 C_d:Fn K mg "_law_deep" s_d ["_law_kind_here"] a_d d_d
 a_e:Addr
 d_e:FuncData
 C_e:Fn K mg "_law_sum" s_e ["_law_worth"] a_e d_e
 a_8:Addr
 d_8:FuncData
 C_8:Fn K mg "kinds_within" s_8 ["kind"] a_8 d_8
 a_g:Addr
 d_g:FuncData
 C_g:Fn K mg "depth_of" s_g ["kind"] a_g d_g
 a_6:Addr
 d_6:FuncData
 C_6:Fn K mg "depth" s_6 ["kind"] a_6 d_6
 a_n:Addr
 d_n:FuncData
 C_n:Fn K mg "words_of_pick" s_n ["kind"] a_n d_n
 a_5:Addr
 d_5:FuncData
 C_5:Fn K mg "words_of" s_5 ["kind"] a_5 d_5
 a_q:Addr
 d_q:FuncData
 C_q:Fn K mg "words_in" s_q ["kind"] a_q d_q
 a_0:Addr
 d_0:FuncData
 C_0:Fn K mg "law" s_0 ["_law_script"] a_0 d_0
 z_all:mg "all"=none
 z_bool:mg "bool"=none
 z_enumerate:mg "enumerate"=none
 z_int:mg "int"=none
 z_isinstance:mg "isinstance"=none
 z_len:mg "len"=none
 z_list:mg "list"=none
 z_max:mg "max"=none
 z_min:mg "min"=none
 z_range:mg "range"=none
 z_set:mg "set"=none
 z_sorted:mg "sorted"=none
 z_str:mg "str"=none
 z_sum:mg "sum"=none
 z_tuple:mg "tuple"=none
 c_DEEPEST:∃ u,mg "DEEPEST"=some u/\∃ t,u=Value.int 3 t
set_option genInjectivity false in
set_option genSizeOf false in
structure Tq (K:PySem.W.Frag) (mg:Str->Option Value) (base:Heap) (cl:Nat->Value) where
 q_NoKind:Addr
 l_NoKind:cl 0= .ref q_NoKind
 o_NoKind:OwnCls "NoKind" q_NoKind xE "ValueError.__new__" mg base
section
variable (P:Program) (w:World) {K:PySem.W.Frag} {mg:Str->Option Value} (base:Heap) (cl:Nat->Value) (tx:Tx K mg) (k:Nat) (c:List T->R T)
abbrev Q_u:Prop:=ZA P w K mg base CX0 k tx.a_u tx.d_u ["_law_script","_law_k"] (spP cl 2 c)
abbrev Q_4:Prop:=ZA P w K mg base CX0 k tx.a_4 tx.d_4 ["_law_script","_law_k","_law_many"] (spP cl 3 c)
abbrev Q_m:Prop:=ZA P w K mg base CX0 k tx.a_m tx.d_m ["_law_script","_law_at"] (spP cl 2 c)
abbrev Q_j:Prop:=ZA P w K mg base CX0 k tx.a_j tx.d_j ["_law_script","_law_at"] (spP cl 2 c)
abbrev Q_9:Prop:=ZA P w K mg base CX0 k tx.a_9 tx.d_9 ["_law_script","_law_at","_law_deep_here"] (spP cl 3 c)
abbrev Q_c:Prop:=ZA P w K mg base CX0 k tx.a_c tx.d_c ["_law_lists"] (spP cl 1 c)
abbrev Q_7:Prop:=ZA P w K mg base CX0 k tx.a_7 tx.d_7 ["_law_kind_here"] (spP cl 1 c)
abbrev Q_a:Prop:=ZA P w K mg base CX0 k tx.a_a tx.d_a ["_law_kind_here"] (spP cl 1 c)
abbrev Q_l:Prop:=ZA P w K mg base CX0 k tx.a_l tx.d_l ["_law_script","_law_at","_law_most"] (spP cl 3 c)
abbrev Q_i:Prop:=ZA P w K mg base CX0 k tx.a_i tx.d_i ["thing"] (spP cl 1 c)
abbrev Q_r:Prop:=ZA P w K mg base CX0 k tx.a_r tx.d_r ["low","high","least","most"] (spP cl 4 c)
abbrev Q_h:Prop:=ZA P w K mg base CX0 k tx.a_h tx.d_h ["thing","least","most"] (spP cl 3 c)
abbrev Q_p:Prop:=ZA P w K mg base CX0 k tx.a_p tx.d_p ["thing"] (spP cl 1 c)
abbrev Q_o:Prop:=ZA P w K mg base CX0 k tx.a_o tx.d_o ["thing"] (spP cl 1 c)
abbrev Q_k:Prop:=ZA P w K mg base CX0 k tx.a_k tx.d_k ["thing"] (spP cl 1 c)
abbrev Q_b:Prop:=ZA P w K mg base CX0 k tx.a_b tx.d_b ["thing","levels"] (spP cl 2 c)
abbrev Q_s:Prop:=ZA P w K mg base CX0 k tx.a_s tx.d_s ["thing","levels"] (spP cl 2 c)
abbrev Q_3:Prop:=ZA P w K mg base CX0 k tx.a_3 tx.d_3 ["thing"] (spP cl 1 c)
abbrev Q_f:Prop:=ZA P w K mg base (CX1 P w) k tx.a_f tx.d_f ["kind"] (spP cl 1 c)
abbrev Q_2:Prop:=ZA P w K mg base CX0 k tx.a_2 tx.d_2 ["kind"] (spP cl 1 c)
abbrev Q_t:Prop:=ZA P w K mg base CX0 k tx.a_t tx.d_t ["kind"] (spP cl 1 c)
abbrev Q_1:Prop:=ZA P w K mg base (CX1 P w) k tx.a_1 tx.d_1 ["kind"] (spP cl 1 c)
abbrev Q_d:Prop:=ZA P w K mg base CX0 k tx.a_d tx.d_d ["_law_kind_here"] (spP cl 1 c)
abbrev Q_e:Prop:=ZA P w K mg base CX0 k tx.a_e tx.d_e ["_law_worth"] (spP cl 1 c)
abbrev Q_8:Prop:=ZA P w K mg base CX0 k tx.a_8 tx.d_8 ["kind"] (spP cl 1 c)
abbrev Q_g:Prop:=ZA P w K mg base CX0 k tx.a_g tx.d_g ["kind"] (spP cl 1 c)
abbrev Q_6:Prop:=ZA P w K mg base (CX1 P w) k tx.a_6 tx.d_6 ["kind"] (spP cl 1 c)
abbrev Q_n:Prop:=ZA P w K mg base CX0 k tx.a_n tx.d_n ["kind"] (spP cl 1 c)
abbrev Q_5:Prop:=ZA P w K mg base CX0 k tx.a_5 tx.d_5 ["kind"] (spP cl 1 c)
abbrev Q_q:Prop:=ZA P w K mg base (CX1 P w) k tx.a_q tx.d_q ["kind"] (spP cl 1 c)
abbrev Q_0:Prop:=ZA P w K mg base (CX1 P w) k tx.a_0 tx.d_0 ["_law_script"] (spP cl 1 c)
end
theorem cZ {X:Cx} {Y:Fx} {cl:Nat->Value} {k j n:Nat} {f:Addr} {fd:FuncData} {ps:List Str} {g:List T->R T} {x:Str} {st:Stmt} {a:Expr} {es:List Expr} {ga:En->R (List T)} {p pos:Pos} (hy:Y.cl=cl) (F:ZA X.prog X.w X.K X.mg X.base CX0 j f fd ps (spP cl n g)) (hr:ju k X.A) (C:Fn X.K X.mg x st ps f fd) (ha:WD X Y (a :: es) ga) (hj:j<=k:=by omega) (gl:Gl X x:=by rfl) (hd:(x == ("__debug__":Str))=false:=by decide)
  (hs:starEach (a :: es) X.env=(false,eval a X.env) :: starEach es X.env:=by exact zV rfl) (hz:((backTo pos (starEach es X.env)).any fun x=>x.fst)=false:=by exact ZM rfl):Snd X Y (.Call (.Name x p) (a :: es) [] pos) (za n g ga):=Q0 hy F hr hj gl C.m C.F.kp C.b ha hd hs hz
theorem cX {X:Cx} {Y:Fx} {cl:Nat->Value} {k j n:Nat} {f:Addr} {fd:FuncData} {ps:List Str} {g:List T->R T} {x:Str} {st:Stmt} {a:Expr} {es:List Expr} {ga:En->R (List T)} {p pos:Pos} (hy:Y.cl=cl) (hp:jH (CX1 X.prog X.w) X Y.E) (F:ZA X.prog X.w X.K X.mg X.base (CX1 X.prog X.w) j f fd ps (spP cl n g)) (hr:ju k X.A) (C:Fn X.K X.mg x st ps f fd) (ha:WD X Y (a :: es) ga) (hj:j<=k:=by omega) (gl:Gl X x:=by rfl) (hd:(x == ("__debug__":Str))=false:=by decide)
  (hs:starEach (a :: es) X.env=(false,eval a X.env) :: starEach es X.env:=by exact zV rfl) (hz:((backTo pos (starEach es X.env)).any fun x=>x.fst)=false:=by exact ZM rfl):Snd X Y (.Call (.Name x p) (a :: es) [] pos) (za n g ga):=Q3 hy hp F hr hj gl C.m C.F.kp C.b ha hd hs hz
section
variable {P:Program} {w:World} {K:PySem.W.Frag} {mg:Str->Option Value} {base:Heap} {cl:Nat->Value} {tx:Tx K mg}
theorem Xi:Q_u P w base cl tx 1 (fun ts=>zh (b_u  (en0 2 ts))):=by
 refine Zo tx.C_u.F X1 rfl (fun cdv A outer s H E Y hy hr=> ?_) (fun ts h=>rfl)
 refine ze ?_ ?_
 refine Z2 ?_ ?_ ?_
 exact zM yP WF (zl 1 (pv 1)) (Snd.b (jL (by rfl) tx.z_len (zl 0 (pv 0)))) (zj _)
 exact zg (zn (zX (z7 0 (pv 0)) (z7 1 (pv 1))))
 exact Z1
 refine ze ?_ ?_
 refine Z2 ?_ ?_ ?_
 exact zM Z9 (zx hr.units) (zl 0 (pv 0)) (Snd.b (wt zd)) (zj _)
 exact zg (zn z8)
 exact Z1
 refine zg ?_
 refine zn ?_
 refine zF ?_ ?_
 refine Zx ?_ ?_
 exact zX (z7 0 (pv 0)) (yN (z7 1 (pv 1)) (jL (by rfl) tx.z_len (zl 0 (pv 0))))
 exact z8
 exact z7 1 (pv 1)
theorem Xj {c_u:List T->R T} (O_u:Q_u P w base cl tx 1 c_u):Q_4 P w base cl tx 2 (fun ts=>zh (b_4 c_u (en0 4 ts))):=by
 refine Zo tx.C_4.F xz rfl (fun cdv A outer s H E Y hy hr=> ?_) (fun ts h=>rfl)
 refine ze ?_ ?_
 refine ZK (i:=3) xz.nd (by rfl) (.inl (by rfl)) ?_
 refine yN ?_ ?_
 refine Zx ?_ ?_
 refine zF ?_ ?_
 exact cZ hy O_u hr tx.C_u (z4 (z7 0 (pv 0)) (z4 (z7 1 (pv 1)) zd))
 exact Zx z8 (zF (z7 1 (pv 1)) z8)
 exact z8
 exact z8
 refine zg ?_
 refine zn ?_
 refine yN ?_ ?_
 refine yN ?_ ?_
 exact zF (Zx (z7 3 (pv 3)) (z7 3 (pv 3))) (vh (z7 3 (pv 3)) z8)
 exact z8
 exact z7 2 (pv 2)
theorem Xk {c_4:List T->R T} (O_4:Q_4 P w base cl tx 2 c_4):Q_m P w base cl tx 3 (fun ts=>zh (b_m c_4 (en0 3 ts))):=by
 refine Zo tx.C_m.F xA rfl (fun cdv A outer s H E Y hy hr=> ?_) (fun ts h=>rfl)
 refine ze ?_ ?_
 exact ZK (i:=2) xA.nd (by rfl) (.inr (by rfl)) zH
 refine ze ?_ ?_
 refine Z2 ?_ ?_ ?_
 refine zM qJ U1 ?_ ?_ (zj _)
 refine Snd.b ?_
 refine cZ hy O_4 hr tx.C_4 ?_
 exact z4 (z7 0 (pv 0)) (z4 (z7 1 (pv 1)) (z4 z8 zd))
 exact Snd.b z8
 refine zg ?_
 refine zn ?_
 refine zX ?_ ?_
 refine wt ?_
 refine z4 ?_ ?_
 exact zH
 exact z4 zH (z4 zH (z4 zH zd))
 refine cZ hy O_4 hr tx.C_4 ?_
 refine z4 ?_ ?_
 exact z7 0 (pv 0)
 exact z4 (zF (z7 1 (pv 1)) z8) (z4 z8 zd)
 exact Z1
 refine zg ?_
 refine zn ?_
 refine vx ?_
 refine Snd.b ?_
 refine Zt (Z6 ["_law_k","_law_script","_law_at","_law_letters"] N_m (z9 s_m) (by rfl) (by rfl) (by decide+kernel) (by rfl) ?_ (fun _ _ _ _ _ _=>zm (show List.Nodup (["_law_k","_law_script","_law_at","_law_letters"]:List Str) by decide+kernel) (by rfl) (.inl (by rfl)) (.inr (by rfl))) (zJ 0) (zK 0) (fun Y' hy' _ _ _ _ _ _=> ?_) (fun Y' hy' _ _ _ _ _ _=> ?_))
 refine WG (by rfl) tx.z_range ?_
 refine zF ?_ ?_
 exact z8
 refine cZ hy O_4 hr tx.C_4 ?_
 refine z4 ?_ ?_
 exact z7 0 (pv 0)
 exact z4 (zF (z7 1 (pv 1)) z8) (z4 z8 zd)
 exact Z5
 refine zX ?_ ?_
 exact z7 3 (pv 3)
 refine cZ (hy'.trans hy) O_4 hr tx.C_4 ?_
 refine z4 ?_ ?_
 exact z7 1 (pv 1)
 refine z4 ?_ ?_
 exact zF (zF (z7 2 (pv 2)) z8) (z7 0 (pv 0))
 exact z4 z8 zd
theorem Xl {c_4 c_m:List T->R T} (O_4:Q_4 P w base cl tx 2 c_4) (O_m:Q_m P w base cl tx 3 c_m):Q_j P w base cl tx 4 (fun ts=>zh (b_j c_4 c_m (en0 6 ts))):=by
 refine Zo tx.C_j.F QA rfl (fun cdv A outer s H E Y hy hr=> ?_) (fun ts h=>rfl)
 refine ze ?_ ?_
 refine Z2 ?_ ?_ ?_
 refine zM qJ U1 ?_ ?_ (zj _)
 refine Snd.b ?_
 refine cZ hy O_4 hr tx.C_4 ?_
 exact z4 (z7 0 (pv 0)) (z4 (z7 1 (pv 1)) (z4 z8 zd))
 exact Snd.b z8
 refine ze ?_ ?_
 refine ZK (i:=2) QA.nd (by rfl) (.inl (by rfl)) ?_
 refine uZ ?_ ?_
 refine cZ hy O_4 hr tx.C_4 ?_
 refine z4 ?_ ?_
 exact z7 0 (pv 0)
 exact z4 (zF (z7 1 (pv 1)) z8) (z4 z8 zd)
 exact z8
 refine ze ?_ ?_
 refine Z2 ?_ ?_ ?_
 refine zM Z9 (zx hr.units) ?_ ?_ (zj _)
 refine Snd.b ?_
 refine cZ hy O_4 hr tx.C_4 ?_
 refine z4 ?_ ?_
 exact z7 0 (pv 0)
 exact z4 (zF (z7 1 (pv 1)) z8) (z4 z8 zd)
 exact Snd.b z8
 refine zg ?_
 refine ZK (i:=2) QA.nd (by rfl) (.inl (by rfl)) ?_
 refine zX ?_ ?_
 refine wt ?_
 refine z4 ?_ ?_
 exact U0 z8
 exact z4 z8 (z4 z8 zd)
 refine cZ hy O_4 hr tx.C_4 ?_
 refine z4 ?_ ?_
 exact z7 0 (pv 0)
 exact z4 (zF (z7 1 (pv 1)) z8) (z4 z8 zd)
 exact Z1
 refine zg ?_
 refine zn ?_
 refine Zh ?_
 refine z4 ?_ ?_
 exact zH
 refine z4 ?_ ?_
 exact z7 2 (pv 2)
 refine z4 ?_ ?_
 refine U8 (by rfl) (by rfl) tx.z_min ?_ ?_
 exact z8
 refine zF ?_ ?_
 exact z7 2 (pv 2)
 refine cZ hy O_4 hr tx.C_4 ?_
 refine z4 ?_ ?_
 exact z7 0 (pv 0)
 exact z4 (zF (z7 1 (pv 1)) z8) (z4 z8 zd)
 exact zd
 exact Z1
 refine ze ?_ ?_
 exact wA (i:=3) QA.nd (by rfl) (.inl (by rfl)) zd
 refine ze ?_ ?_
 refine JF PassesOwn.never (by rfl) ?_ ?_ ?_
 refine WG (by rfl) tx.z_range ?_
 refine zF ?_ ?_
 exact z8
 refine cZ hy O_4 hr tx.C_4 ?_
 refine z4 ?_ ?_
 exact z7 0 (pv 0)
 exact z4 (zF (z7 1 (pv 1)) z8) (z4 z8 zd)
 exact jn (i:=4) QA.nd (by rfl) (.inl (by rfl))
 refine ze ?_ ?_
 refine ZK (i:=5) QA.nd (by rfl) (.inl (by rfl)) ?_
 refine cZ hy O_m hr tx.C_m ?_
 refine z4 ?_ ?_
 exact z7 0 (pv 0)
 refine z4 ?_ ?_
 exact zF (zF (z7 1 (pv 1)) z8) (Zx z8 (z7 4 (pv 4)))
 exact zd
 refine zg ?_
 refine Z2 ?_ ?_ ?_
 exact zM vi (qL hr.units) (zl 5 (pv 5)) (zl 3 (pv 3)) (by rfl)
 exact zg (VQ (i:=3) (pv 3) (z7 5 (pv 5)))
 exact Z1
 refine zg ?_
 refine zn ?_
 refine Zh ?_
 refine z4 ?_ ?_
 exact zH
 refine z4 ?_ ?_
 refine U5 (by rfl) tx.z_tuple ?_
 refine Zt (Z6 ["_law_k","_law_word","_law_script","_law_at"] N_j (z9 s_j) (by rfl) (by rfl) (by decide+kernel) (by rfl) ?_ (fun _ _ _ _ _ _=>jG (by rfl) (zS (zm (show List.Nodup (["_law_k","_law_word","_law_script","_law_at"]:List Str) by decide+kernel) (by rfl) (.inl (by rfl)) (.inr (by rfl))) (zS (zm (show List.Nodup (["_law_k","_law_word","_law_script","_law_at"]:List Str) by decide+kernel) (by rfl) (.inl (by rfl)) (.inr (by rfl))) j8))) (j1 _ 0 1) (j2 0 1) (fun Y' hy' _ _ _ _ _ _=> ?_) (fun Y' hy' _ _ _ _ _ _=> ?_))
 exact vv (by rfl) tx.z_enumerate (z7 3 (pv 3))
 exact Z5
 refine Zh ?_
 refine z4 ?_ ?_
 exact z7 1 (pv 1)
 refine z4 ?_ ?_
 refine zF ?_ ?_
 exact z8
 refine cZ (hy'.trans hy) O_4 hr tx.C_4 ?_
 refine z4 ?_ ?_
 exact z7 2 (pv 2)
 refine z4 ?_ ?_
 exact zF (zF (z7 3 (pv 3)) z8) (z7 0 (pv 0))
 exact z4 z8 zd
 exact zd
 exact zd
theorem Xm {j:Nat} (hj:4<=j) {c_4 c_j c_9:List T->R T} (O_4:Q_4 P w base cl tx 2 c_4) (O_j:Q_j P w base cl tx 4 c_j) (O_9:Q_9 P w base cl tx j c_9):Q_9 P w base cl tx (j+1) (fun ts=>zh (b_9 c_4 c_j c_9 (en0 6 ts))):=by
 refine Zo tx.C_9.F Vi rfl (fun cdv A outer s H E Y hy hr=> ?_) (fun ts h=>rfl)
 refine ze ?_ ?_
 refine ZK (i:=3) Vi.nd (by rfl) (.inl (by rfl)) ?_
 refine cZ hy O_4 hr tx.C_4 ?_
 exact z4 (z7 0 (pv 0)) (z4 (z7 1 (pv 1)) (z4 z8 zd))
 refine ze ?_ ?_
 refine Z2 ?_ ?_ ?_
 refine wy.t ?_
 refine qO ?_ ?_
 exact zM Z9 (zx hr.units) (zl 2 (pv 2)) (Snd.b z8) (zj _)
 exact ub (zM yP WF (zl 3 (pv 3)) (Snd.b z8) (zj _))
 refine zg ?_
 refine zn ?_
 refine cZ hy O_j hr tx.C_j ?_
 exact z4 (z7 0 (pv 0)) (z4 (zF (z7 1 (pv 1)) z8) zd)
 exact Z1
 refine ze ?_ ?_
 refine Z2 ?_ ?_ ?_
 exact zM yP WF (zl 3 (pv 3)) (Snd.b z8) (zj _)
 refine ze ?_ ?_
 refine wC (i:=4) (Z6 ["_law_k","_law_script","_law_at","_law_deep_here"] N_9 (z9 s_9) (by rfl) (by rfl) (by decide+kernel) (by rfl) ?_ (fun _ _ _ _ _ _=>zm (show List.Nodup (["_law_k","_law_script","_law_at","_law_deep_here"]:List Str) by decide+kernel) (by rfl) (.inl (by rfl)) (.inr (by rfl))) (zJ 0) (zK 0) (fun Y' hy' _ _ _ _ _ _=> ?_) (fun Y' hy' _ _ _ _ _ _=> ?_)) Vi.nd (by rfl) (.inl (by rfl)) (by rfl)
 refine WG (by rfl) tx.z_range ?_
 refine zF ?_ ?_
 exact z8
 refine cZ hy O_4 hr tx.C_4 ?_
 refine z4 ?_ ?_
 exact z7 0 (pv 0)
 exact z4 (zF (z7 1 (pv 1)) z8) (z4 z8 zd)
 exact Z5
 refine cZ (hy'.trans hy) O_9 hr tx.C_9 ?_
 refine z4 ?_ ?_
 exact z7 1 (pv 1)
 refine z4 ?_ ?_
 refine zF ?_ ?_
 exact zF (Zx z8 (z7 2 (pv 2))) z8
 exact Zx z8 (z7 0 (pv 0))
 exact z4 (uZ (z7 3 (pv 3)) z8) zd
 refine zg ?_
 refine zn ?_
 exact Zh (z4 zH (z4 (U5 (by rfl) tx.z_tuple (z7 4 (pv 4))) zd))
 exact Z1
 refine ze ?_ ?_
 refine ZK (i:=5) Vi.nd (by rfl) (.inl (by rfl)) ?_
 refine cZ hy O_4 hr tx.C_4 ?_
 refine z4 ?_ ?_
 exact z7 0 (pv 0)
 exact z4 (zF (z7 1 (pv 1)) z8) (z4 z8 zd)
 refine zg ?_
 refine zn ?_
 refine Zh ?_
 refine z4 ?_ ?_
 exact zH
 refine z4 ?_ ?_
 refine cZ hy O_9 hr tx.C_9 ?_
 refine z4 ?_ ?_
 exact z7 0 (pv 0)
 refine z4 ?_ ?_
 exact zF (Zx z8 (z7 1 (pv 1))) z8
 exact z4 (uZ (z7 2 (pv 2)) z8) zd
 refine z4 ?_ ?_
 exact z7 5 (pv 5)
 refine z4 ?_ ?_
 refine U8 (by rfl) (by rfl) tx.z_min ?_ ?_
 exact z8
 refine zF ?_ ?_
 exact z7 5 (pv 5)
 refine cZ hy O_4 hr tx.C_4 ?_
 refine z4 ?_ ?_
 exact z7 0 (pv 0)
 exact z4 (zF (z7 1 (pv 1)) z8) (z4 z8 zd)
 exact zd
theorem Xn:Q_c P w base cl tx 1 (fun ts=>zh (b_c  (en0 5 ts))):=by
 refine Zo tx.C_c.F QB rfl (fun cdv A outer s H E Y hy hr=> ?_) (fun ts h=>rfl)
 refine ze ?_ ?_
 exact ZK (i:=1) QB.nd (by rfl) (.inl (by rfl)) (wt (z4 (Zh zd) zd))
 refine ze ?_ ?_
 refine JF PassesOwn.never (by rfl) ?_ ?_ ?_
 exact Zz (z7 0 (pv 0))
 exact jn (i:=2) QB.nd (by rfl) (.inl (by rfl))
 refine ze ?_ ?_
 exact wA (i:=3) QB.nd (by rfl) (.inl (by rfl)) zd
 refine ze ?_ ?_
 refine JF PassesOwn.never (by rfl) ?_ ?_ ?_
 exact Zz (z7 1 (pv 1))
 exact jn (i:=4) QB.nd (by rfl) (.inr (by rfl))
 refine zg ?_
 refine yY (i:=3) (pv 3) ?_
 refine Zt (Z6 ["_law_one","_law_ahead"] N_c (z9 s_c) (by rfl) (by rfl) (by decide+kernel) (by rfl) ?_ (fun _ _ _ _ _ _=>zm (show List.Nodup (["_law_one","_law_ahead"]:List Str) by decide+kernel) (by rfl) (.inl (by rfl)) (.inr (by rfl))) (zJ 0) (zK 0) (fun Y' hy' _ _ _ _ _ _=> ?_) (fun Y' hy' _ _ _ _ _ _=> ?_))
 exact Zz (z7 2 (pv 2))
 exact Z5
 exact zF (z7 1 (pv 1)) (Zh (z4 (z7 0 (pv 0)) zd))
 exact zg (xW (i:=1) (j:=3) (pv 3) QB.nd (by rfl) (.inl (by rfl)))
 exact zg (zn (z7 1 (pv 1)))
theorem Xo {j:Nat} (hj:1<=j) {c_7 c_c:List T->R T} (O_7:Q_7 P w base cl tx j c_7) (O_c:Q_c P w base cl tx 1 c_c):Q_7 P w base cl tx (j+1) (fun ts=>zh (b_7 c_7 c_c (en0 3 ts))):=by
 refine Zo tx.C_7.F xb rfl (fun cdv A outer s H E Y hy hr=> ?_) (fun ts h=>rfl)
 refine ze ?_ ?_
 refine Z2 ?_ ?_ ?_
 exact zM Z9 (zx hr.units) (Snd.b (zX (z7 0 (pv 0)) z8)) (Snd.b zH) (zj _)
 refine zg ?_
 refine zn ?_
 refine Q5 hr.hd (by rfl) tx.z_list (by rfl) tx.z_range ?_ ?_
 exact zX (z7 0 (pv 0)) z8
 exact zF (zX (z7 0 (pv 0)) z8) z8
 exact Z1
 refine ze ?_ ?_
 refine Z2 ?_ ?_ ?_
 exact zM Z9 (zx hr.units) (Snd.b (zX (z7 0 (pv 0)) z8)) (Snd.b zH) (zj _)
 refine zg ?_
 refine zn ?_
 refine Zt (Z6 ["_law_word","_law_heavy"] N_7 (z9 s_7) (by rfl) (by rfl) (by decide+kernel) (by rfl) ?_ (fun _ _ _ _ _ _=>jG (by rfl) (zS (zm (show List.Nodup (["_law_word","_law_heavy"]:List Str) by decide+kernel) (by rfl) (.inl (by rfl)) (.inr (by rfl))) (zS (zm (show List.Nodup (["_law_word","_law_heavy"]:List Str) by decide+kernel) (by rfl) (.inl (by rfl)) (.inr (by rfl))) j8))) (j1 _ 0 1) (j2 0 1) (fun Y' hy' _ _ _ _ _ _=> ?_) (fun Y' hy' _ _ _ _ _ _=> ?_))
 exact Zz (zX (z7 0 (pv 0)) z8)
 exact Z5
 exact z7 0 (pv 0)
 exact Z1
 refine ze ?_ ?_
 refine Z2 ?_ ?_ ?_
 exact zM Z9 (zx hr.units) (Snd.b (zX (z7 0 (pv 0)) z8)) (Snd.b zH) (zj _)
 refine zg ?_
 refine zn ?_
 refine cZ hy O_c hr tx.C_c ?_
 refine z4 ?_ ?_
 refine Zt (Z6 ["_law_one"] N_7 (z9 s_7) (by rfl) (by rfl) (by decide+kernel) (by rfl) ?_ (fun _ _ _ _ _ _=>zm (show List.Nodup (["_law_one"]:List Str) by decide+kernel) (by rfl) (.inl (by rfl)) (.inr (by rfl))) (zJ 0) (zK 0) (fun Y' hy' _ _ _ _ _ _=> ?_) (fun Y' hy' _ _ _ _ _ _=> ?_))
 exact Zz (zX (z7 0 (pv 0)) z8)
 exact Z5
 exact cZ (hy'.trans hy) O_7 hr tx.C_7 (z4 (z7 0 (pv 0)) zd)
 exact zd
 exact Z1
 refine ze ?_ ?_
 exact wA (i:=1) xb.nd (by rfl) (.inl (by rfl)) zd
 refine ze ?_ ?_
 refine JF PassesOwn.never (by rfl) ?_ ?_ ?_
 refine vq (by rfl) tx.z_range ?_ ?_
 exact zX (z7 0 (pv 0)) z8
 exact zF (zX (z7 0 (pv 0)) z8) z8
 exact jn (i:=2) xb.nd (by rfl) (.inl (by rfl))
 refine zg ?_
 refine yY (i:=1) (pv 1) ?_
 refine cZ hy O_c hr tx.C_c ?_
 refine z4 ?_ ?_
 refine Zx ?_ ?_
 refine wt ?_
 refine z4 ?_ ?_
 exact cZ hy O_7 hr tx.C_7 (z4 (zX (z7 0 (pv 0)) z8) zd)
 exact zd
 exact z7 2 (pv 2)
 exact zd
 exact zg (zn (z7 1 (pv 1)))
theorem Xp {j:Nat} (hj:9<=j) {c_7 c_a:List T->R T} (O_7:Q_7 P w base cl tx 9 c_7) (O_a:Q_a P w base cl tx j c_a):Q_a P w base cl tx (j+1) (fun ts=>zh (b_a c_7 c_a (en0 5 ts))):=by
 refine Zo tx.C_a.F Ys rfl (fun cdv A outer s H E Y hy hr=> ?_) (fun ts h=>rfl)
 refine ze ?_ ?_
 refine Z2 ?_ ?_ ?_
 refine zM yS (Yy hr.units) ?_ ?_ (by rfl)
 exact Snd.b (zX (z7 0 (pv 0)) z8)
 exact Snd.b (Zh (z4 zH (z4 zH zd)))
 refine zg ?_
 exact zn (jL (by rfl) tx.z_len (Snd.b (cZ hy O_7 hr tx.C_7 (z4 (z7 0 (pv 0)) zd))))
 exact Z1
 refine ze ?_ ?_
 refine ZK (i:=1) Ys.nd (by rfl) (.inl (by rfl)) ?_
 refine vk ?_ ?_ ?_
 exact zM Z9 (zx hr.units) (Snd.b (zX (z7 0 (pv 0)) z8)) (Snd.b zH) (zj _)
 refine Zt (Z6 ["_law_one"] N_a (z9 s_a) (by rfl) (by rfl) (by decide+kernel) (by rfl) ?_ (fun _ _ _ _ _ _=>zm (show List.Nodup (["_law_one"]:List Str) by decide+kernel) (by rfl) (.inl (by rfl)) (.inr (by rfl))) (zJ 0) (zK 0) (fun Y' hy' _ _ _ _ _ _=> ?_) (fun Y' hy' _ _ _ _ _ _=> ?_))
 exact Zz (zX (z7 0 (pv 0)) z8)
 exact Z5
 exact cZ (hy'.trans hy) O_a hr tx.C_a (z4 (z7 0 (pv 0)) zd)
 exact wt zd
 refine ze ?_ ?_
 exact ZK (i:=2) Ys.nd (by rfl) (.inl (by rfl)) z8
 refine ze ?_ ?_
 refine JF PassesOwn.never (by rfl) ?_ ?_ ?_
 exact Zz (z7 1 (pv 1))
 exact jn (i:=3) Ys.nd (by rfl) (.inl (by rfl))
 exact zg (ZK (i:=2) Ys.nd (by rfl) (.inl (by rfl)) (Zx (z7 2 (pv 2)) (z7 3 (pv 3))))
 refine ze ?_ ?_
 refine Z2 ?_ ?_ ?_
 exact zM Z9 (zx hr.units) (Snd.b (zX (z7 0 (pv 0)) z8)) (Snd.b zH) (zj _)
 refine ze ?_ ?_
 exact ZK (i:=4) Ys.nd (by rfl) (.inl (by rfl)) (cZ hy O_a hr tx.C_a (z4 (zX (z7 0 (pv 0)) z8) zd))
 refine ze ?_ ?_
 refine ZK (i:=2) Ys.nd (by rfl) (.inl (by rfl)) ?_
 refine zF ?_ ?_
 refine WI (by rfl) tx.z_int ?_
 exact JD Z9 (zx hr.units) (Snd.b (zX (z7 0 (pv 0)) z8)) (Snd.b z8) (zj _)
 refine Zx ?_ ?_
 exact z7 4 (pv 4)
 refine WI (by rfl) tx.z_int ?_
 refine jK ZV ZV Zn Zn ?_ ?_ ?_
 exact Snd.b (zX (z7 0 (pv 0)) z8)
 exact Snd.b z8
 exact Snd.b (zX (z7 0 (pv 0)) z8)
 refine ze ?_ ?_
 refine ZK (i:=2) Ys.nd (by rfl) (.inl (by rfl)) ?_
 refine zF ?_ ?_
 exact z7 2 (pv 2)
 refine Zx ?_ ?_
 exact Zx (z7 4 (pv 4)) (z7 4 (pv 4))
 refine WI (by rfl) tx.z_int ?_
 refine jK ZV ZV Zn Zn ?_ ?_ ?_
 exact Snd.b (zX (z7 0 (pv 0)) z8)
 exact Snd.b z8
 exact Snd.b (zX (z7 0 (pv 0)) z8)
 refine zg ?_
 refine ZK (i:=2) Ys.nd (by rfl) (.inl (by rfl)) ?_
 refine zF ?_ ?_
 exact z7 2 (pv 2)
 refine Zx ?_ ?_
 exact Zx (Zx (z7 4 (pv 4)) (z7 4 (pv 4))) (z7 4 (pv 4))
 refine WI (by rfl) tx.z_int ?_
 exact JD Z9 (zx hr.units) (Snd.b (zX (z7 0 (pv 0)) z8)) (Snd.b z8) (zj _)
 exact Z1
 exact zg (zn (z7 2 (pv 2)))
theorem Xq {c_9 c_a:List T->R T} (O_9:Q_9 P w base cl tx 12 c_9) (O_a:Q_a P w base cl tx 17 c_a):Q_l P w base cl tx 18 (fun ts=>zh (b_l c_9 c_a (en0 5 ts))):=by
 refine Zo tx.C_l.F Vj rfl (fun cdv A outer s H E Y hy hr=> ?_) (fun ts h=>rfl)
 refine ze ?_ ?_
 refine ZK (i:=3) Vj.nd (by rfl) (.inl (by rfl)) ?_
 refine cZ hy O_9 hr tx.C_9 ?_
 exact z4 (z7 0 (pv 0)) (z4 (z7 1 (pv 1)) (z4 z8 zd))
 refine ze ?_ ?_
 refine JF PassesOwn.never (by rfl) ?_ ?_ ?_
 exact WG (by rfl) tx.z_range z8
 exact jn (i:=4) Vj.nd (by rfl) (.inl (by rfl))
 refine ze ?_ ?_
 refine Z2 ?_ ?_ ?_
 exact zM ZV Zn (Snd.b (cZ hy O_a hr tx.C_a (z4 (z7 3 (pv 3)) zd))) (zl 2 (pv 2)) (zj _)
 exact zg (zn (z7 3 (pv 3)))
 exact Z1
 refine zg ?_
 refine ZK (i:=3) Vj.nd (by rfl) (.inl (by rfl)) ?_
 refine cZ hy O_9 hr tx.C_9 ?_
 refine z4 ?_ ?_
 exact z7 0 (pv 0)
 refine z4 ?_ ?_
 exact zF (zF (z7 1 (pv 1)) z8) (Zx z8 (z7 4 (pv 4)))
 exact z4 z8 zd
 refine zg ?_
 refine zn ?_
 refine vk ?_ ?_ ?_
 exact zM ZV Zn (Snd.b (cZ hy O_a hr tx.C_a (z4 (z7 3 (pv 3)) zd))) (zl 2 (pv 2)) (zj _)
 exact z7 3 (pv 3)
 refine Zh ?_
 refine z4 ?_ ?_
 exact zH
 exact z4 (U0 z8) (z4 z8 zd)
theorem Xr:Q_i P w base cl tx 1 (fun ts=>zh (b_i  (en0 1 ts))):=by
 refine Zo tx.C_i.F X2 rfl (fun cdv A outer s H E Y hy hr=> ?_) (fun ts h=>rfl)
 refine zg ?_
 refine zn ?_
 exact je (W9 (n:="int") (qP _) (by rfl) tx.z_isinstance (by rfl) tx.z_int PyProof.Rows.Boot.«int» (zl 0 (pv 0))) (Jj (VL (W9 (n:="bool") (yX _) (by rfl) tx.z_isinstance (by rfl) tx.z_bool PyProof.Rows.Boot.«bool» (zl 0 (pv 0)))))
theorem Xs {c_i:List T->R T} (O_i:Q_i P w base cl tx 1 c_i):Q_r P w base cl tx 2 (fun ts=>zh (b_r c_i (en0 4 ts))):=by
 refine Zo tx.C_r.F X3 rfl (fun cdv A outer s H E Y hy hr=> ?_) (fun ts h=>rfl)
 refine zg ?_
 refine zn ?_
 refine je ?_ ?_
 exact cZ hy O_i hr tx.C_i (z4 (z7 0 (pv 0)) zd)
 refine je ?_ ?_
 exact cZ hy O_i hr tx.C_i (z4 (z7 1 (pv 1)) zd)
 exact Jj (yT ZV ZV ZV Zn Zn Zn (zl 2 (pv 2)) (zl 0 (pv 0)) (zl 1 (pv 1)) (zl 3 (pv 3)))
theorem Xt:Q_h P w base cl tx 1 (fun ts=>zh (b_h  (en0 3 ts))):=by
 refine Zo tx.C_h.F X4 rfl (fun cdv A outer s H E Y hy hr=> ?_) (fun ts h=>rfl)
 refine zg ?_
 refine zn ?_
 refine je ?_ ?_
 exact W9 (n:="tuple") (jM _) (by rfl) tx.z_isinstance (by rfl) tx.z_tuple PyProof.Rows.Boot.«tuple» (zl 0 (pv 0))
 exact Jj (jK ZV ZV Zn Zn (zl 1 (pv 1)) (Snd.b (jL (by rfl) tx.z_len (zl 0 (pv 0)))) (zl 2 (pv 2)))
theorem Xu:Q_p P w base cl tx 1 (fun ts=>zh (b_p  (en0 1 ts))):=by
 refine Zo tx.C_p.F X5 rfl (fun cdv A outer s H E Y hy hr=> ?_) (fun ts h=>rfl)
 refine ze ?_ ?_
 refine Z2 ?_ ?_ ?_
 refine wy.t ?_
 refine qO ?_ ?_
 exact uc (W8 (Snd.b (W9 (n:="str") (U6 _) (by rfl) tx.z_isinstance (by rfl) tx.z_str PyProof.Rows.Boot.«str» (zl 0 (pv 0)))))
 refine ub ?_
 refine uc ?_
 refine qM ZV ZV Zn Zn ?_ ?_ ?_
 exact Snd.b z8
 exact Snd.b (jL (by rfl) tx.z_len (zl 0 (pv 0)))
 exact Snd.b z8
 exact zg (zn qz)
 exact Z1
 refine zg ?_
 refine zn ?_
 refine qR hr.hd (by rfl) tx.z_all ?_
 refine Snd.b ?_
 refine Zt (Z6 ["sign"] N_p (z9 s_p) (by rfl) (by rfl) (by decide+kernel) (by rfl) ?_ (fun _ _ _ _ _ _=>zm (show List.Nodup (["sign"]:List Str) by decide+kernel) (by rfl) (.inl (by rfl)) (.inr (by rfl))) (zJ 0) (zK 0) (fun Y' hy' _ _ _ _ _ _=> ?_) (fun Y' hy' _ _ _ _ _ _=> ?_))
 exact Zz (z7 0 (pv 0))
 exact Z5
 exact jK ZV ZV Zn Zn (Snd.b zH) (zl 0 (pv 0)) (Snd.b zH)
theorem Xv {c_i c_h c_p:List T->R T} (O_i:Q_i P w base cl tx 1 c_i) (O_h:Q_h P w base cl tx 1 c_h) (O_p:Q_p P w base cl tx 1 c_p):Q_o P w base cl tx 2 (fun ts=>zh (b_o c_i c_h c_p (en0 1 ts))):=by
 refine Zo tx.C_o.F X6 rfl (fun cdv A outer s H E Y hy hr=> ?_) (fun ts h=>rfl)
 refine zg ?_
 refine zn ?_
 refine je ?_ ?_
 refine cZ hy O_h hr tx.C_h ?_
 exact z4 (z7 0 (pv 0)) (z4 z8 (z4 z8 zd))
 refine je ?_ ?_
 exact cZ hy O_p hr tx.C_p (z4 (zX (z7 0 (pv 0)) z8) zd)
 refine je ?_ ?_
 exact cZ hy O_i hr tx.C_i (z4 (zX (z7 0 (pv 0)) z8) zd)
 refine Jj ?_
 refine jK ZV ZV Zn Zn ?_ ?_ ?_
 exact Snd.b z8
 exact Snd.b (zX (z7 0 (pv 0)) z8)
 exact Snd.b z8
theorem Xw {c_h c_o:List T->R T} (O_h:Q_h P w base cl tx 1 c_h) (O_o:Q_o P w base cl tx 2 c_o):Q_k P w base cl tx 3 (fun ts=>zh (b_k c_h c_o (en0 2 ts))):=by
 refine Zo tx.C_k.F xB rfl (fun cdv A outer s H E Y hy hr=> ?_) (fun ts h=>rfl)
 refine ze ?_ ?_
 refine Z2 ?_ ?_ ?_
 refine wy.t ?_
 refine qO ?_ ?_
 refine uc ?_
 refine W8 ?_
 refine Snd.b ?_
 refine cZ hy O_h hr tx.C_h ?_
 exact z4 (z7 0 (pv 0)) (z4 z8 (z4 z8 zd))
 refine ub ?_
 refine uc ?_
 refine W8 ?_
 refine Snd.b ?_
 refine qR hr.hd (by rfl) tx.z_all ?_
 refine Snd.b ?_
 refine Zt (Z6 ["part"] N_k (z9 s_k) (by rfl) (by rfl) (by decide+kernel) (by rfl) ?_ (fun _ _ _ _ _ _=>zm (show List.Nodup (["part"]:List Str) by decide+kernel) (by rfl) (.inl (by rfl)) (.inr (by rfl))) (zJ 0) (zK 0) (fun Y' hy' _ _ _ _ _ _=> ?_) (fun Y' hy' _ _ _ _ _ _=> ?_))
 exact Zz (z7 0 (pv 0))
 exact Z5
 exact cZ (hy'.trans hy) O_o hr tx.C_o (z4 (z7 0 (pv 0)) zd)
 exact zg (zn qz)
 exact Z1
 refine ze ?_ ?_
 refine wC (i:=1) (Z6 ["choice"] N_k (z9 s_k) (by rfl) (by rfl) (by decide+kernel) (by rfl) ?_ (fun _ _ _ _ _ _=>zm (show List.Nodup (["choice"]:List Str) by decide+kernel) (by rfl) (.inl (by rfl)) (.inr (by rfl))) (zJ 0) (zK 0) (fun Y' hy' _ _ _ _ _ _=> ?_) (fun Y' hy' _ _ _ _ _ _=> ?_)) xB.nd (by rfl) (.inl (by rfl)) (by rfl)
 exact Zz (z7 0 (pv 0))
 exact Z5
 exact zX (z7 0 (pv 0)) z8
 refine zg ?_
 refine zn ?_
 exact JD Z9 (zx hr.units) (Snd.b (vy hr.hd (by rfl) tx.z_len (by rfl) tx.z_set (zl 1 (pv 1)))) (Snd.b (jL (by rfl) tx.z_len (zl 1 (pv 1)))) (zj _)
theorem Xx {j:Nat} (hj:3<=j) {c_r c_b c_k c_s:List T->R T} (O_r:Q_r P w base cl tx 2 c_r) (O_b:Q_b P w base cl tx j c_b) (O_k:Q_k P w base cl tx 3 c_k) (O_s:Q_s P w base cl tx j c_s):Q_b P w base cl tx (j+1) (fun ts=>zh (b_b c_r c_b c_k c_s (en0 2 ts))):=by
 refine Zo tx.C_b.F X7 rfl (fun cdv A outer s H E Y hy hr=> ?_) (fun ts h=>rfl)
 refine ze ?_ ?_
 refine Z2 ?_ ?_ ?_
 refine wy.t ?_
 refine qO ?_ ?_
 exact zM Z9 (zx hr.units) (zl 1 (pv 1)) (Snd.b z8) (zj _)
 refine qO ?_ ?_
 exact uc (W8 (Snd.b (W9 (n:="tuple") (jM _) (by rfl) tx.z_isinstance (by rfl) tx.z_tuple PyProof.Rows.Boot.«tuple» (zl 0 (pv 0)))))
 exact ub (zM Z9 (zx hr.units) (Snd.b (jL (by rfl) tx.z_len (zl 0 (pv 0)))) (Snd.b z8) (zj _))
 exact zg (zn qz)
 exact Z1
 refine ze ?_ ?_
 refine Z2 ?_ ?_ ?_
 exact zM Z9 (zx hr.units) (Snd.b (zX (z7 0 (pv 0)) z8)) (Snd.b zH) (zj _)
 refine zg ?_
 refine zn ?_
 refine je ?_ ?_
 exact JD Z9 (zx hr.units) (Snd.b (jL (by rfl) tx.z_len (zl 0 (pv 0)))) (Snd.b z8) (zj _)
 refine Jj ?_
 refine cZ hy O_r hr tx.C_r ?_
 refine z4 ?_ ?_
 exact zX (z7 0 (pv 0)) z8
 refine z4 ?_ ?_
 exact zX (z7 0 (pv 0)) z8
 exact z4 (U0 z8) (z4 z8 zd)
 exact Z1
 refine ze ?_ ?_
 refine Z2 ?_ ?_ ?_
 exact zM Z9 (zx hr.units) (Snd.b (zX (z7 0 (pv 0)) z8)) (Snd.b zH) (zj _)
 refine zg ?_
 refine zn ?_
 refine je ?_ ?_
 exact JD Z9 (zx hr.units) (Snd.b (jL (by rfl) tx.z_len (zl 0 (pv 0)))) (Snd.b z8) (zj _)
 exact Jj (cZ hy O_k hr tx.C_k (z4 (zX (z7 0 (pv 0)) z8) zd))
 exact Z1
 refine ze ?_ ?_
 refine Z2 ?_ ?_ ?_
 exact zM Z9 (zx hr.units) (Snd.b (zX (z7 0 (pv 0)) z8)) (Snd.b zH) (zj _)
 refine zg ?_
 refine zn ?_
 refine je ?_ ?_
 exact JD Z9 (zx hr.units) (Snd.b (jL (by rfl) tx.z_len (zl 0 (pv 0)))) (Snd.b z8) (zj _)
 refine Jj ?_
 refine cZ hy O_s hr tx.C_s ?_
 refine z4 ?_ ?_
 exact zX (z7 0 (pv 0)) z8
 exact z4 (uZ (z7 1 (pv 1)) z8) zd
 exact Z1
 refine ze ?_ ?_
 refine Z2 ?_ ?_ ?_
 exact zM Z9 (zx hr.units) (Snd.b (zX (z7 0 (pv 0)) z8)) (Snd.b zH) (zj _)
 refine zg ?_
 refine zn ?_
 refine je ?_ ?_
 exact JD Z9 (zx hr.units) (Snd.b (jL (by rfl) tx.z_len (zl 0 (pv 0)))) (Snd.b z8) (zj _)
 refine je ?_ ?_
 refine cZ hy O_r hr tx.C_r ?_
 refine z4 ?_ ?_
 exact zX (z7 0 (pv 0)) z8
 refine z4 ?_ ?_
 exact zX (z7 0 (pv 0)) z8
 exact z4 z8 (z4 z8 zd)
 refine Jj ?_
 refine cZ hy O_b hr tx.C_b ?_
 refine z4 ?_ ?_
 exact zX (z7 0 (pv 0)) z8
 exact z4 (uZ (z7 1 (pv 1)) z8) zd
 exact Z1
 exact zg (zn qz)
theorem Xy {j:Nat} (hj:3<=j) {c_h c_b:List T->R T} (O_h:Q_h P w base cl tx 1 c_h) (O_b:Q_b P w base cl tx j c_b):Q_s P w base cl tx (j+1) (fun ts=>zh (b_s c_h c_b (en0 2 ts))):=by
 refine Zo tx.C_s.F X8 rfl (fun cdv A outer s H E Y hy hr=> ?_) (fun ts h=>rfl)
 refine zg ?_
 refine zn ?_
 refine je ?_ ?_
 refine cZ hy O_h hr tx.C_h ?_
 exact z4 (z7 0 (pv 0)) (z4 z8 (z4 z8 zd))
 refine Jj ?_
 refine qR hr.hd (by rfl) tx.z_all ?_
 refine Snd.b ?_
 refine Zt (Z6 ["part","levels"] N_s (z9 s_s) (by rfl) (by rfl) (by decide+kernel) (by rfl) ?_ (fun _ _ _ _ _ _=>zm (show List.Nodup (["part","levels"]:List Str) by decide+kernel) (by rfl) (.inl (by rfl)) (.inr (by rfl))) (zJ 0) (zK 0) (fun Y' hy' _ _ _ _ _ _=> ?_) (fun Y' hy' _ _ _ _ _ _=> ?_))
 exact Zz (z7 0 (pv 0))
 exact Z5
 exact cZ (hy'.trans hy) O_b hr tx.C_b (z4 (z7 0 (pv 0)) (z4 (z7 1 (pv 1)) zd))
theorem Xz {c_b:List T->R T} (O_b:Q_b P w base cl tx 23 c_b):Q_3 P w base cl tx 24 (fun ts=>zh (b_3 c_b (en0 1 ts))):=by
 obtain ⟨u_DEEPEST,c_DEEPEST⟩:=tx.c_DEEPEST
 refine Zo tx.C_3.F X9 rfl (fun cdv A outer s H E Y hy hr=> ?_) (fun ts h=>rfl)
 refine zg ?_
 exact zn (cZ hy O_b hr tx.C_b (z4 (z7 0 (pv 0)) (z4 (Q1 (by rfl) c_DEEPEST.1 c_DEEPEST.2) zd)))
theorem XA {c_3:List T->R T} (xq:Tq K mg base cl) (O_3:Q_3 P w base cl tx 24 c_3):Q_f P w base cl tx 25 (fun ts=>zh (b_f c_3 (en0 1 ts))):=by
 refine wF tx.C_f.F Xa rfl (fun cdv A outer s H E Y hy hE hr=> ?_) (fun ts h=>rfl)
 refine zg ?_
 refine Z2 ?_ ?_ ?_
 exact uc (W8 (Snd.b (cZ hy O_3 hr tx.C_3 (z4 (z7 0 (pv 0)) zd))))
 exact zg (Q4 (c:=0) xq.o_NoKind PySem.F.excBase_ValueError (by decide) PySem.F.excBase_ValueError hE (by rw [hy]; exact xq.l_NoKind) (by rfl))
 exact Z1
theorem XB {j:Nat} (hj:0<=j) {c_2 c_t:List T->R T} (O_2:Q_2 P w base cl tx j c_2) (O_t:Q_t P w base cl tx j c_t):Q_2 P w base cl tx (j+1) (fun ts=>zh (b_2 c_2 c_t (en0 2 ts))):=by
 refine Zo tx.C_2.F xC rfl (fun cdv A outer s H E Y hy hr=> ?_) (fun ts h=>rfl)
 refine ze ?_ ?_
 refine Z2 ?_ ?_ ?_
 exact zM Z9 (zx hr.units) (Snd.b (zX (z7 0 (pv 0)) z8)) (Snd.b zH) (zj _)
 refine zg ?_
 refine zn ?_
 refine Zh ?_
 refine z4 ?_ ?_
 exact zX (z7 0 (pv 0)) z8
 exact z4 (zX (z7 0 (pv 0)) z8) zd
 exact Z1
 refine ze ?_ ?_
 refine Z2 ?_ ?_ ?_
 exact zM Z9 (zx hr.units) (Snd.b (zX (z7 0 (pv 0)) z8)) (Snd.b zH) (zj _)
 refine zg ?_
 exact zn (Zh (z4 z8 (z4 z8 zd)))
 exact Z1
 refine ze ?_ ?_
 refine Z2 ?_ ?_ ?_
 exact zM Z9 (zx hr.units) (Snd.b (zX (z7 0 (pv 0)) z8)) (Snd.b zH) (zj _)
 refine ze ?_ ?_
 refine wC (i:=1) (Z6 ["part"] N_2 (z9 s_2) (by rfl) (by rfl) (by decide+kernel) (by rfl) ?_ (fun _ _ _ _ _ _=>zm (show List.Nodup (["part"]:List Str) by decide+kernel) (by rfl) (.inl (by rfl)) (.inr (by rfl))) (zJ 0) (zK 0) (fun Y' hy' _ _ _ _ _ _=> ?_) (fun Y' hy' _ _ _ _ _ _=> ?_)) xC.nd (by rfl) (.inl (by rfl)) (by rfl)
 exact Zz (zX (z7 0 (pv 0)) z8)
 exact Z5
 exact cZ (hy'.trans hy) O_2 hr tx.C_2 (z4 (z7 0 (pv 0)) zd)
 refine zg ?_
 refine zn ?_
 refine Zh ?_
 refine z4 ?_ ?_
 refine Q6 hr.hd (by rfl) tx.z_sum ?_
 refine Snd.b ?_
 refine Zt (Z6 ["least","most"] N_2 (z9 s_2) (by rfl) (by rfl) (by decide+kernel) (by rfl) ?_ (fun _ _ _ _ _ _=>jG (by rfl) (zS (zm (show List.Nodup (["least","most"]:List Str) by decide+kernel) (by rfl) (.inl (by rfl)) (.inr (by rfl))) (zS (zm (show List.Nodup (["least","most"]:List Str) by decide+kernel) (by rfl) (.inl (by rfl)) (.inr (by rfl))) j8))) (j1 _ 0 1) (j2 0 1) (fun Y' hy' _ _ _ _ _ _=> ?_) (fun Y' hy' _ _ _ _ _ _=> ?_))
 exact Zz (z7 1 (pv 1))
 exact Z5
 exact z7 0 (pv 0)
 refine z4 ?_ ?_
 refine Q6 hr.hd (by rfl) tx.z_sum ?_
 refine Snd.b ?_
 refine Zt (Z6 ["least","most"] N_2 (z9 s_2) (by rfl) (by rfl) (by decide+kernel) (by rfl) ?_ (fun _ _ _ _ _ _=>jG (by rfl) (zS (zm (show List.Nodup (["least","most"]:List Str) by decide+kernel) (by rfl) (.inl (by rfl)) (.inr (by rfl))) (zS (zm (show List.Nodup (["least","most"]:List Str) by decide+kernel) (by rfl) (.inl (by rfl)) (.inr (by rfl))) j8))) (j1 _ 0 1) (j2 0 1) (fun Y' hy' _ _ _ _ _ _=> ?_) (fun Y' hy' _ _ _ _ _ _=> ?_))
 exact Zz (z7 1 (pv 1))
 exact Z5
 exact z7 1 (pv 1)
 exact zd
 exact Z1
 exact zg (zn (cZ hy O_t hr tx.C_t (z4 (z7 0 (pv 0)) zd)))
theorem XD {j:Nat} (hj:0<=j) {c_2:List T->R T} (O_2:Q_2 P w base cl tx j c_2):Q_t P w base cl tx (j+1) (fun ts=>zh (b_t c_2 (en0 2 ts))):=by
 refine Zo tx.C_t.F xD rfl (fun cdv A outer s H E Y hy hr=> ?_) (fun ts h=>rfl)
 refine ze ?_ ?_
 exact ZK (i:=1) xD.nd (by rfl) (.inl (by rfl)) (cZ hy O_2 hr tx.C_2 (z4 (zX (z7 0 (pv 0)) z8) zd))
 refine zg ?_
 refine zn ?_
 refine Zh ?_
 refine z4 ?_ ?_
 refine U8 (by rfl) (by rfl) tx.z_min ?_ ?_
 exact Zx (zX (z7 0 (pv 0)) z8) (zX (z7 1 (pv 1)) z8)
 exact Zx (zX (z7 0 (pv 0)) z8) (zX (z7 1 (pv 1)) z8)
 refine z4 ?_ ?_
 refine vC (by rfl) (by rfl) tx.z_max ?_ ?_
 exact Zx (zX (z7 0 (pv 0)) z8) (zX (z7 1 (pv 1)) z8)
 exact Zx (zX (z7 0 (pv 0)) z8) (zX (z7 1 (pv 1)) z8)
 exact zd
theorem XE {c_f c_2:List T->R T} (O_f:Q_f P w base cl tx 25 c_f) (O_2:Q_2 P w base cl tx 8 c_2):Q_1 P w base cl tx 26 (fun ts=>zh (b_1 c_f c_2 (en0 1 ts))):=by
 refine wF tx.C_1.F Xb rfl (fun cdv A outer s H E Y hy hE hr=> ?_) (fun ts h=>rfl)
 refine ze ?_ ?_
 exact Ud (cX hy (hE ▸ Jg) O_f hr tx.C_f (z4 (z7 0 (pv 0)) zd))
 exact zg (zn (cZ hy O_2 hr tx.C_2 (z4 (z7 0 (pv 0)) zd)))
theorem XF {j:Nat} (hj:0<=j) {c_d:List T->R T} (O_d:Q_d P w base cl tx j c_d):Q_d P w base cl tx (j+1) (fun ts=>zh (b_d c_d (en0 5 ts))):=by
 refine Zo tx.C_d.F Vk rfl (fun cdv A outer s H E Y hy hr=> ?_) (fun ts h=>rfl)
 refine ze ?_ ?_
 refine Z2 ?_ ?_ ?_
 refine zM yS (Yy hr.units) ?_ ?_ (by rfl)
 exact Snd.b (zX (z7 0 (pv 0)) z8)
 exact Snd.b (Zh (z4 zH (z4 zH zd)))
 refine zg ?_
 refine zn ?_
 refine Zh ?_
 refine z4 ?_ ?_
 exact z8
 refine z4 ?_ ?_
 refine vk ?_ ?_ ?_
 exact zM Z9 (zx hr.units) (Snd.b (zX (z7 0 (pv 0)) z8)) (Snd.b zH) (zj _)
 refine Zt (Z6 ["_law_word","_law_heavy"] N_d (z9 s_d) (by rfl) (by rfl) (by decide+kernel) (by rfl) ?_ (fun _ _ _ _ _ _=>jG (by rfl) (zS (zm (show List.Nodup (["_law_word","_law_heavy"]:List Str) by decide+kernel) (by rfl) (.inl (by rfl)) (.inr (by rfl))) (zS (zm (show List.Nodup (["_law_word","_law_heavy"]:List Str) by decide+kernel) (by rfl) (.inl (by rfl)) (.inr (by rfl))) j8))) (j1 _ 0 1) (j2 0 1) (fun Y' hy' _ _ _ _ _ _=> ?_) (fun Y' hy' _ _ _ _ _ _=> ?_))
 exact Zz (zX (z7 0 (pv 0)) z8)
 exact Z5
 exact z7 0 (pv 0)
 exact wt zd
 exact zd
 exact Z1
 refine ze ?_ ?_
 refine wC (i:=1) (Z6 ["_law_one"] N_d (z9 s_d) (by rfl) (by rfl) (by decide+kernel) (by rfl) ?_ (fun _ _ _ _ _ _=>zm (show List.Nodup (["_law_one"]:List Str) by decide+kernel) (by rfl) (.inl (by rfl)) (.inr (by rfl))) (zJ 0) (zK 0) (fun Y' hy' _ _ _ _ _ _=> ?_) (fun Y' hy' _ _ _ _ _ _=> ?_)) Vk.nd (by rfl) (.inl (by rfl)) (by rfl)
 refine Zz ?_
 refine vk ?_ ?_ ?_
 exact zM Z9 (zx hr.units) (Snd.b (zX (z7 0 (pv 0)) z8)) (Snd.b zH) (zj _)
 exact zX (z7 0 (pv 0)) z8
 exact wt (z4 (zX (z7 0 (pv 0)) z8) zd)
 exact Z5
 exact cZ (hy'.trans hy) O_d hr tx.C_d (z4 (z7 0 (pv 0)) zd)
 refine ze ?_ ?_
 exact wA (i:=2) Vk.nd (by rfl) (.inl (by rfl)) zd
 refine ze ?_ ?_
 exact JF PassesOwn.never (by rfl) (Zz (z7 1 (pv 1))) (Ue (i:=3) (j:=4) (by rfl) Vk.nd (by rfl) (by rfl) (.inl (by rfl)) (.inl (by rfl))) (zg (yY (i:=2) (pv 2) (z7 4 (pv 4))))
 refine zg ?_
 refine zn ?_
 refine Zh ?_
 refine z4 ?_ ?_
 refine zF ?_ ?_
 exact z8
 refine YI hr.hd (by rfl) tx.z_max ?_
 refine Snd.b ?_
 refine Zt (Z6 ["_law_deep_here","_law_more"] N_d (z9 s_d) (by rfl) (by rfl) (by decide+kernel) (by rfl) ?_ (fun _ _ _ _ _ _=>jG (by rfl) (zS (zm (show List.Nodup (["_law_deep_here","_law_more"]:List Str) by decide+kernel) (by rfl) (.inl (by rfl)) (.inr (by rfl))) (zS (zm (show List.Nodup (["_law_deep_here","_law_more"]:List Str) by decide+kernel) (by rfl) (.inl (by rfl)) (.inr (by rfl))) j8))) (j1 _ 0 1) (j2 0 1) (fun Y' hy' _ _ _ _ _ _=> ?_) (fun Y' hy' _ _ _ _ _ _=> ?_))
 exact Zz (z7 1 (pv 1))
 exact Z5
 exact z7 0 (pv 0)
 exact z4 (z7 2 (pv 2)) zd
theorem XG {j:Nat} (hj:0<=j) {c_e:List T->R T} (O_e:Q_e P w base cl tx j c_e):Q_e P w base cl tx (j+1) (fun ts=>zh (b_e c_e (en0 1 ts))):=by
 refine Zo tx.C_e.F Xc rfl (fun cdv A outer s H E Y hy hr=> ?_) (fun ts h=>rfl)
 refine ze ?_ ?_
 refine Z2 ?_ ?_ ?_
 exact W8 (Snd.b (W9 (n:="tuple") (jM _) (by rfl) tx.z_isinstance (by rfl) tx.z_tuple PyProof.Rows.Boot.«tuple» (zl 0 (pv 0))))
 refine zg ?_
 refine zn ?_
 refine Q6 hr.hd (by rfl) tx.z_sum ?_
 refine Snd.b ?_
 refine Zt (Z6 ["_law_part"] N_e (z9 s_e) (by rfl) (by rfl) (by decide+kernel) (by rfl) ?_ (fun _ _ _ _ _ _=>zm (show List.Nodup (["_law_part"]:List Str) by decide+kernel) (by rfl) (.inl (by rfl)) (.inr (by rfl))) (zJ 0) (zK 0) (fun Y' hy' _ _ _ _ _ _=> ?_) (fun Y' hy' _ _ _ _ _ _=> ?_))
 exact Zz (z7 0 (pv 0))
 exact Z5
 exact cZ (hy'.trans hy) O_e hr tx.C_e (z4 (z7 0 (pv 0)) zd)
 exact Z1
 refine zg ?_
 refine zn ?_
 exact vk (W8 (Snd.b (W9 (n:="str") (U6 _) (by rfl) tx.z_isinstance (by rfl) tx.z_str PyProof.Rows.Boot.«str» (zl 0 (pv 0))))) z8 (z7 0 (pv 0))
theorem XH:Q_8 P w base cl tx 1 (fun ts=>zh (b_8  (en0 1 ts))):=by
 refine Zo tx.C_8.F Xd rfl (fun cdv A outer s H E Y hy hr=> ?_) (fun ts h=>rfl)
 refine ze ?_ ?_
 refine Z2 ?_ ?_ ?_
 exact zM Z9 (zx hr.units) (Snd.b (zX (z7 0 (pv 0)) z8)) (Snd.b zH) (zj _)
 exact zg (zn (zX (z7 0 (pv 0)) z8))
 exact Z1
 refine ze ?_ ?_
 refine Z2 ?_ ?_ ?_
 exact zM Z9 (zx hr.units) (Snd.b (zX (z7 0 (pv 0)) z8)) (Snd.b zH) (zj _)
 refine zg ?_
 exact zn (Zh (z4 (zX (z7 0 (pv 0)) z8) zd))
 exact Z1
 exact zg (zn (Zh zd))
theorem XI {j:Nat} (hj:1<=j) {c_8 c_g:List T->R T} (O_8:Q_8 P w base cl tx 1 c_8) (O_g:Q_g P w base cl tx j c_g):Q_g P w base cl tx (j+1) (fun ts=>zh (b_g c_8 c_g (en0 1 ts))):=by
 refine Zo tx.C_g.F Xe rfl (fun cdv A outer s H E Y hy hr=> ?_) (fun ts h=>rfl)
 refine zg ?_
 refine zn ?_
 refine zF ?_ ?_
 exact z8
 refine vF hr.hd (by rfl) tx.z_max ?_ ?_
 refine Snd.b ?_
 refine Zt (Z6 ["part"] N_g (z9 s_g) (by rfl) (by rfl) (by decide+kernel) (by rfl) ?_ (fun _ _ _ _ _ _=>zm (show List.Nodup (["part"]:List Str) by decide+kernel) (by rfl) (.inl (by rfl)) (.inr (by rfl))) (zJ 0) (zK 0) (fun Y' hy' _ _ _ _ _ _=> ?_) (fun Y' hy' _ _ _ _ _ _=> ?_))
 exact Zz (cZ hy O_8 hr tx.C_8 (z4 (z7 0 (pv 0)) zd))
 exact Z5
 exact cZ (hy'.trans hy) O_g hr tx.C_g (z4 (z7 0 (pv 0)) zd)
 exact z8
theorem XJ {c_f c_g:List T->R T} (O_f:Q_f P w base cl tx 25 c_f) (O_g:Q_g P w base cl tx 9 c_g):Q_6 P w base cl tx 26 (fun ts=>zh (b_6 c_f c_g (en0 1 ts))):=by
 refine wF tx.C_6.F Xf rfl (fun cdv A outer s H E Y hy hE hr=> ?_) (fun ts h=>rfl)
 refine ze ?_ ?_
 exact Ud (cX hy (hE ▸ Jg) O_f hr tx.C_f (z4 (z7 0 (pv 0)) zd))
 exact zg (zn (cZ hy O_g hr tx.C_g (z4 (z7 0 (pv 0)) zd)))
theorem XL:Q_n P w base cl tx 1 (fun ts=>zh (b_n  (en0 1 ts))):=by
 refine Zo tx.C_n.F Xg rfl (fun cdv A outer s H E Y hy hr=> ?_) (fun ts h=>rfl)
 refine zg ?_
 refine zn ?_
 refine Zt (Z6 ["choice"] N_n (z9 s_n) (by rfl) (by rfl) (by decide+kernel) (by rfl) ?_ (fun _ _ _ _ _ _=>zm (show List.Nodup (["choice"]:List Str) by decide+kernel) (by rfl) (.inl (by rfl)) (.inr (by rfl))) (zJ 0) (zK 0) (fun Y' hy' _ _ _ _ _ _=> ?_) (fun Y' hy' _ _ _ _ _ _=> ?_))
 exact Zz (zX (z7 0 (pv 0)) z8)
 exact Z5
 exact zX (z7 0 (pv 0)) z8
theorem XM {j:Nat} (hj:1<=j) {c_n c_8 c_5:List T->R T} (O_n:Q_n P w base cl tx 1 c_n) (O_8:Q_8 P w base cl tx 1 c_8) (O_5:Q_5 P w base cl tx j c_5):Q_5 P w base cl tx (j+1) (fun ts=>zh (b_5 c_n c_8 c_5 (en0 3 ts))):=by
 refine Zo tx.C_5.F xf rfl (fun cdv A outer s H E Y hy hr=> ?_) (fun ts h=>rfl)
 refine ze ?_ ?_
 refine Z2 ?_ ?_ ?_
 exact zM Z9 (zx hr.units) (Snd.b (zX (z7 0 (pv 0)) z8)) (Snd.b zH) (zj _)
 exact zg (zn (cZ hy O_n hr tx.C_n (z4 (z7 0 (pv 0)) zd)))
 exact Z1
 refine ze ?_ ?_
 exact wA (i:=1) xf.nd (by rfl) (.inl (by rfl)) zd
 refine ze ?_ ?_
 refine JF PassesOwn.never (by rfl) ?_ ?_ ?_
 exact Zz (cZ hy O_8 hr tx.C_8 (z4 (z7 0 (pv 0)) zd))
 exact jn (i:=2) xf.nd (by rfl) (.inl (by rfl))
 exact zg (yY (i:=1) (pv 1) (cZ hy O_5 hr tx.C_5 (z4 (z7 2 (pv 2)) zd)))
 exact zg (zn (z7 1 (pv 1)))
theorem XN {c_f c_5:List T->R T} (O_f:Q_f P w base cl tx 25 c_f) (O_5:Q_5 P w base cl tx 9 c_5):Q_q P w base cl tx 26 (fun ts=>zh (b_q c_f c_5 (en0 1 ts))):=by
 refine wF tx.C_q.F Xh rfl (fun cdv A outer s H E Y hy hE hr=> ?_) (fun ts h=>rfl)
 refine ze ?_ ?_
 exact Ud (cX hy (hE ▸ Jg) O_f hr tx.C_f (z4 (z7 0 (pv 0)) zd))
 refine zg ?_
 exact zn (YN hr.hd (by rfl) tx.z_sorted (by rfl) tx.z_set (Snd.b (cZ hy O_5 hr tx.C_5 (z4 (z7 0 (pv 0)) zd))))
theorem XO {c_9 c_7 c_l c_6 c_q c_1 c_d c_e:List T->R T} (O_9:Q_9 P w base cl tx 12 c_9) (O_7:Q_7 P w base cl tx 9 c_7) (O_l:Q_l P w base cl tx 18 c_l) (O_6:Q_6 P w base cl tx 26 c_6) (O_q:Q_q P w base cl tx 26 c_q) (O_1:Q_1 P w base cl tx 26 c_1) (O_d:Q_d P w base cl tx 8 c_d) (O_e:Q_e P w base cl tx 8 c_e):Q_0 P w base cl tx 27 (fun ts=>zh (b_0 c_9 c_7 c_l c_6 c_q c_1 c_d c_e (en0 9 ts))):=by
 refine wF tx.C_0.F Qw rfl (fun cdv A outer s H E Y hy hE hr=> ?_) (fun ts h=>rfl)
 refine ze ?_ ?_
 refine ZK (i:=1) Qw.nd (by rfl) (.inl (by rfl)) ?_
 refine cZ hy O_l hr tx.C_l ?_
 exact z4 (z7 0 (pv 0)) (z4 z8 (z4 z8 zd))
 refine ze ?_ ?_
 refine ZK (i:=2) Qw.nd (by rfl) (.inl (by rfl)) ?_
 refine cZ hy O_9 hr tx.C_9 ?_
 exact z4 (z7 0 (pv 0)) (z4 z8 (z4 z8 zd))
 refine ze ?_ ?_
 refine JF PassesOwn.leaving (by rfl) ?_ ?_ ?_
 exact Zz (Zh (z4 (z7 1 (pv 1)) (z4 (z7 2 (pv 2)) zd)))
 exact jn (i:=3) Qw.nd (by rfl) (.inl (by rfl))
 refine ze ?_ ?_
 exact YH (cZ hy O_d hr tx.C_d (z4 (z7 3 (pv 3)) zd)) (Ue (i:=4) (j:=5) (by rfl) Qw.nd (by rfl) (by rfl) (.inl (by rfl)) (.inl (by rfl)))
 refine zg ?_
 refine Z2 ?_ ?_ ?_
 refine wy.t ?_
 refine qO ?_ ?_
 exact zM yO (WE hr.units) (Snd.b (cX hy (hE ▸ Jg) O_6 hr tx.C_6 (z4 (z7 3 (pv 3)) zd))) (zl 4 (pv 4)) (zj _)
 refine ub ?_
 refine zM yO (WE hr.units) ?_ ?_ (zj _)
 exact Snd.b (cX hy (hE ▸ Jg) O_q hr tx.C_q (z4 (z7 3 (pv 3)) zd))
 exact Snd.b (YN hr.hd (by rfl) tx.z_sorted (by rfl) tx.z_set (zl 5 (pv 5)))
 exact zg (zn qz)
 exact Z1
 refine ze ?_ ?_
 refine wC (i:=6) (Z6 ["_law_worth"] N_0 (z9 s_0) (by rfl) (by rfl) (by decide+kernel) (by rfl) ?_ (fun _ _ _ _ _ _=>zm (show List.Nodup (["_law_worth"]:List Str) by decide+kernel) (by rfl) (.inl (by rfl)) (.inr (by rfl))) (zJ 0) (zK 0) (fun Y' hy' _ _ _ _ _ _=> ?_) (fun Y' hy' _ _ _ _ _ _=> ?_)) Qw.nd (by rfl) (.inl (by rfl)) (by rfl)
 exact Zz (cZ hy O_7 hr tx.C_7 (z4 (z7 1 (pv 1)) zd))
 exact Z5
 exact cZ (hy'.trans hy) O_e hr tx.C_e (z4 (z7 0 (pv 0)) zd)
 refine ze ?_ ?_
 refine Z2 ?_ ?_ ?_
 refine zM yO (WE hr.units) ?_ ?_ (zj _)
 exact Snd.b (cX hy (hE ▸ Jg) O_1 hr tx.C_1 (z4 (z7 1 (pv 1)) zd))
 refine Snd.b ?_
 refine Zh ?_
 exact z4 (vD hr.hd (by rfl) tx.z_min (zl 6 (pv 6))) (z4 (YI hr.hd (by rfl) tx.z_max (zl 6 (pv 6))) zd)
 exact zg (zn qz)
 exact Z1
 refine ze ?_ ?_
 exact YH (cX hy (hE ▸ Jg) O_1 hr tx.C_1 (z4 (z7 2 (pv 2)) zd)) (Ue (i:=7) (j:=8) (by rfl) Qw.nd (by rfl) (by rfl) (.inl (by rfl)) (.inl (by rfl)))
 refine ze ?_ ?_
 refine Z2 ?_ ?_ ?_
 refine wy.t ?_
 refine qO ?_ ?_
 exact zM qJ U1 (zl 7 (pv 7)) (zl 8 (pv 8)) (zj _)
 refine ub ?_
 refine wy.t ?_
 refine VM ?_ ?_
 exact zM yP WF (zl 4 (pv 4)) (Snd.b z8) (zj _)
 refine vj ?_
 refine zM yO (WE hr.units) ?_ ?_ (zj _)
 refine Snd.b ?_
 refine cX hy (hE ▸ Jg) O_1 hr tx.C_1 ?_
 refine z4 ?_ ?_
 refine Zh ?_
 refine z4 ?_ ?_
 exact zH
 refine z4 ?_ ?_
 exact Zx (Zh (z4 (z7 2 (pv 2)) zd)) z8
 exact zd
 exact zd
 refine Snd.b ?_
 refine Zh ?_
 refine z4 ?_ ?_
 exact Zx z8 (z7 7 (pv 7))
 exact z4 (Zx z8 (z7 8 (pv 8))) zd
 exact zg (zn qz)
 exact Z1
 refine zg ?_
 refine zn ?_
 refine je ?_ ?_
 refine JD Z9 (zx hr.units) ?_ ?_ (zj _)
 refine Snd.b ?_
 refine cX hy (hE ▸ Jg) O_1 hr tx.C_1 ?_
 refine z4 ?_ ?_
 refine Zh ?_
 refine z4 ?_ ?_
 exact zH
 refine z4 ?_ ?_
 refine Zh ?_
 refine z4 ?_ ?_
 exact zH
 exact z4 (U0 z8) (z4 z8 zd)
 exact z4 z8 (z4 z8 zd)
 exact zd
 refine Snd.b ?_
 exact Zh (z4 (U0 z8) (z4 z8 zd))
 refine Jj ?_
 refine JD Z9 (zx hr.units) ?_ ?_ (zj _)
 refine Snd.b ?_
 refine cX hy (hE ▸ Jg) O_1 hr tx.C_1 ?_
 refine z4 ?_ ?_
 refine Zh ?_
 refine z4 ?_ ?_
 exact zH
 refine z4 ?_ ?_
 refine Zh ?_
 exact z4 zH (z4 z8 (z4 z8 zd))
 exact z4 z8 (z4 z8 zd)
 exact zd
 exact Snd.b (Zh (z4 z8 (z4 z8 zd)))
end
theorem ZY {P:Program} {w:World} {K:PySem.W.Frag} {mg:Str->Option Value} {base:Heap} {CX:CXT} {cl:Nat->Value} {k n:Nat} {f:Addr} {fd:FuncData} {ps:List Str} (hn:n=ps.length):ZA P w K mg base CX k f fd ps (spP cl n (fun _=> .bad)):=
 ⟨fun vs H Q E h=>by rw [← hn]; exact spP.len vs H Q E h,fun A outer s H args us vs Q E _ _ _ _ ⟨B,ts,_,_,_,q⟩=>q.elim⟩
section
variable {P:Program} {w:World} {K:PySem.W.Frag} {mg:Str->Option Value} {base:Heap} {cl:Nat->Value} {tx:Tx K mg}
theorem V2 (xq:Tq K mg base cl):Q_0 P w base cl tx 27 f_0:=by
 have O_u:Q_u P w base cl tx 1 f_u:=Xi
 have O_4:Q_4 P w base cl tx 2 f_4:=Xj O_u
 have O_m:Q_m P w base cl tx 3 f_m:=Xk O_4
 have O_j:Q_j P w base cl tx 4 f_j:=Xl O_4 O_m
 have R_9:∀ n:Nat,Q_9 P w base cl tx (4+n) (S_9 n 0):=by
  intro n
  induction n with
  | zero=>exact ZY rfl
  | succ n ih=>
   exact Xm (j:=4+n) (by omega) O_4 O_j ih
 have O_9:Q_9 P w base cl tx 12 (f_9 8):=(R_9 8)
 have O_c:Q_c P w base cl tx 1 f_c:=Xn
 have R_7:∀ n:Nat,Q_7 P w base cl tx (1+n) (S_7 n 0):=by
  intro n
  induction n with
  | zero=>exact ZY rfl
  | succ n ih=>
   exact Xo (j:=1+n) (by omega) ih O_c
 have O_7:Q_7 P w base cl tx 9 (f_7 8):=(R_7 8)
 have R_a:∀ n:Nat,Q_a P w base cl tx (9+n) (S_a n 0):=by
  intro n
  induction n with
  | zero=>exact ZY rfl
  | succ n ih=>
   exact Xp (j:=9+n) (by omega) O_7 ih
 have O_a:Q_a P w base cl tx 17 (f_a 8):=(R_a 8)
 have O_l:Q_l P w base cl tx 18 f_l:=Xq O_9 O_a
 have O_i:Q_i P w base cl tx 1 f_i:=Xr
 have O_r:Q_r P w base cl tx 2 f_r:=Xs O_i
 have O_h:Q_h P w base cl tx 1 f_h:=Xt
 have O_p:Q_p P w base cl tx 1 f_p:=Xu
 have O_o:Q_o P w base cl tx 2 f_o:=Xv O_i O_h O_p
 have O_k:Q_k P w base cl tx 3 f_k:=Xw O_h O_o
 have R_b:∀ n:Nat,Q_b P w base cl tx (3+n) (S_b n 0)/\Q_s P w base cl tx (3+n) (S_b n 1):=by
  intro n
  induction n with
  | zero=>exact ⟨ZY rfl,ZY rfl⟩
  | succ n ih=>
   exact ⟨Xx (j:=3+n) (by omega) O_r ih.1 O_k ih.2,Xy (j:=3+n) (by omega) O_h ih.1⟩
 have O_b:Q_b P w base cl tx 23 (f_b 20):=(R_b 20).1
 have O_s:Q_s P w base cl tx 23 (f_s 20):=(R_b 20).2
 have O_3:Q_3 P w base cl tx 24 f_3:=Xz O_b
 have O_f:Q_f P w base cl tx 25 f_f:=XA xq O_3
 have R_2:∀ n:Nat,Q_2 P w base cl tx (0+n) (S_2 n 0)/\Q_t P w base cl tx (0+n) (S_2 n 1):=by
  intro n
  induction n with
  | zero=>exact ⟨ZY rfl,ZY rfl⟩
  | succ n ih=>
   exact ⟨XB (j:=0+n) (by omega) ih.1 ih.2,XD (j:=0+n) (by omega) ih.1⟩
 have O_2:Q_2 P w base cl tx 8 (f_2 8):=(R_2 8).1
 have O_t:Q_t P w base cl tx 8 (f_t 8):=(R_2 8).2
 have O_1:Q_1 P w base cl tx 26 f_1:=XE O_f O_2
 have R_d:∀ n:Nat,Q_d P w base cl tx (0+n) (S_d n 0):=by
  intro n
  induction n with
  | zero=>exact ZY rfl
  | succ n ih=>
   exact XF (j:=0+n) (by omega) ih
 have O_d:Q_d P w base cl tx 8 (f_d 8):=(R_d 8)
 have R_e:∀ n:Nat,Q_e P w base cl tx (0+n) (S_e n 0):=by
  intro n
  induction n with
  | zero=>exact ZY rfl
  | succ n ih=>
   exact XG (j:=0+n) (by omega) ih
 have O_e:Q_e P w base cl tx 8 (f_e 8):=(R_e 8)
 have O_8:Q_8 P w base cl tx 1 f_8:=XH
 have R_g:∀ n:Nat,Q_g P w base cl tx (1+n) (S_g n 0):=by
  intro n
  induction n with
  | zero=>exact ZY rfl
  | succ n ih=>
   exact XI (j:=1+n) (by omega) O_8 ih
 have O_g:Q_g P w base cl tx 9 (f_g 8):=(R_g 8)
 have O_6:Q_6 P w base cl tx 26 f_6:=XJ O_f O_g
 have O_n:Q_n P w base cl tx 1 f_n:=XL
 have R_5:∀ n:Nat,Q_5 P w base cl tx (1+n) (S_5 n 0):=by
  intro n
  induction n with
  | zero=>exact ZY rfl
  | succ n ih=>
   exact XM (j:=1+n) (by omega) O_n O_8 ih
 have O_5:Q_5 P w base cl tx 9 (f_5 8):=(R_5 8)
 have O_q:Q_q P w base cl tx 26 f_q:=XN O_f O_5
 have O_0:Q_0 P w base cl tx 27 f_0:=XO O_9 O_7 O_l O_6 O_q O_1 O_d O_e
 exact O_0
end
def qc:List Str:=["NoKind","NoWorth","NoRule","TooMany","Ended","NoText","NoBack"]
def clK (K:PySem.W.Frag) (c:Nat):Value:=match PySem.W.nsIn K mainGlobals (qc.getD c "") with
 | some (some v)=>v
 | _=> .none
theorem V3 {K:PySem.W.Frag} {c:Nat} {x:Str} {q:Addr} (hx:qc.getD c ""=x) (h:PySem.W.nsIn K mainGlobals x=some (some (.ref q))):clK K c= .ref q:=by unfold clK; rw [hx,h]
theorem V4 {K:PySem.W.Frag} {base:Heap} {mg:Str->Option Value} {x:Str} {C:Addr} {bmB:List Value} {newId:String} (KB:K.In base) (hb:mg x=some (.ref C)) (h:PySem.W.excIn K C bmB newId=true):OwnCls x C bmB newId mg base:=by
 unfold PySem.W.excIn at h
 split at h
 ·rename_i dd cd sl hC
  split at h
  ·rename_i C1 bm a0 a1 a2 a3 m a5 hm hs
   simp only [Bool.and_eq_true,beq_iff_eq,Bool.not_eq_true'] at h
   obtain ⟨⟨⟨⟨⟨h1,h2⟩,h3⟩,h4⟩,h5⟩,h6⟩:=h
   subst h1 h2
   cases cd with
   | mk nm bs mro ns qn hd sn sub ab col del=>
    dsimp only at hm h3 h5 h6
    subst hm h3
    obtain rfl:sl= #[a0,a1,a2,a3,some (.builtin m),a5]:=by
     cases sl; simp only at hs; rw [hs]
    exact ⟨hb,bm,ns,nm,qn,bs,hd,sn,sub,ab,col,dd,a0,a1,a2,a3,a5,_,KB _ _ hC, .of_isNs (PySem.W.isNs_of_in KB h5),PySem.W.nsMap_none_of_in KB h5 h6,PySem.W.tail_of_in KB h4⟩
  ·cases h
 ·cases h
theorem fn1 {K:PySem.W.Frag} {h:Heap} {mg:Str->Option Value} {f:Addr} {od an:Option Addr} {sl:Array (Option Value)} {oc kV dc pm cd ct:Value} {x:Str} {st:Stmt} {ps:List Str} (X:K.In h) (G:h.Ns mainGlobals mg) (e:PySem.W.nsIn K mainGlobals x=some (some (.ref f))) (l:K.lookup f=some ⟨oc,od, .func (PySem.W.fnOf x x (ZT st) (Zs st) (z9 st) .none kV dc pm an cd ct),sl⟩) (g:PySem.W.codeIn K cd x=true) (k:PySem.W.keepIn K (.ref f)=true)
  (hb:∀ F:Fun K x x st f (PySem.W.fnOf x x (ZT st) (Zs st) (z9 st) .none kV dc pm an cd ct),L2.Binds K (PySem.W.fnOf x x (ZT st) (Zs st) (z9 st) .none kV dc pm an cd ct) ps []):Fn K mg x st ps f (PySem.W.fnOf x x (ZT st) (Zs st) (z9 st) .none kV dc pm an cd ct):=
 have F:=vg (st:=st) l g k
 ⟨F,hb F,PySem.W.mg_of X G e⟩
theorem fin_ {l:PySem.W.OpenLaw} {w:World} {K:PySem.W.Frag} {h:Heap} {mg:Str->Option Value} {fa:Addr} (X:K.In h) (G:h.Ns mainGlobals mg) (hfa:mg "law"=some (.ref fa)) (tx:Tx K mg) (hB:∀ (s:Shared) (v:Value),BindsTo s tx.d_0 ⟨[v],[]⟩ [("_law_script",v)]) {q_NoKind:Addr} (n_NoKind:PySem.W.nsIn K mainGlobals "NoKind"=some (some (.ref q_NoKind))) (b_o_NoKind:PySem.W.excIn K q_NoKind xE "ValueError.__new__"=true):∃ fd:FuncData,(∀ (s:Shared) (v:Value),BindsTo s fd ⟨[v],[]⟩ [("_law_script",v)])/\∀ base:Heap,K.In base->base.Ns mainGlobals mg->ZA l.prog w K mg base (CX1 l.prog w) 27 fa fd ["_law_script"] (spP (clK K) 1 f_0):=by
 have e:=hfa.symm.trans tx.C_0.m
 cases e
 exact ⟨tx.d_0,hB,fun base KB _=>V2 ⟨q_NoKind,(V3 (x:="NoKind") rfl n_NoKind),(V4 KB (PySem.W.mg_of X G n_NoKind) b_o_NoKind)⟩⟩
def Wu (K:PySem.W.Frag):Bool:=K.all fun p=> !(p.2.cls == Value.type "list")
theorem Qx {K:PySem.W.Frag} (h:Wu K=true) {a:Addr} {o:Obj} (e:K.lookup a=some o) (c:o.cls=Value.type "list"):False:=by
 have hm:(a,o)∈K:=by
  clear h
  induction K with
  | nil=>cases e
  | cons p r ih=>
   obtain ⟨b,u⟩:=p
   by_cases hb:a=b
   ·subst hb
    have e' :some u=some o:=by simpa [List.lookup_cons] using e
    cases e'; exact List.mem_cons_self
   ·have e' :r.lookup a=some o:=by rw [List.lookup_cons,(beq_eq_false_iff_ne.mpr hb)] at e; exact e
    exact List.mem_cons_of_mem _ (ih e')
 have:=List.all_eq_true.mp h _ hm
 rw [c] at this
 simp at this
theorem V5 {cl:Nat->Value} {K:PySem.W.Frag} {H:Hp} {a:Addr} {ns:List Int} (hL:f_0 [.fz (ns.map T.int)]= .ok (.bl true)) (hK:Wu K=true) (hO:V9 H) (hS:SqL K H a (ns.map V.int)):spP cl 1 f_0 [.ref a] H (fun v _=>v= .bl true) fun _ _ _=>False:=by
 have scrR:∀ ns:List Int,zB H (ns.map V.int) (ns.map T.int):=fun ns=>by
  induction ns with
  | nil=>exact .nil
  | cons n r ih=>exact .cons (.int n) ih
 rcases hS with (h | ⟨o,h⟩) | ⟨o,its,n,e,c,_⟩
 ·rcases hO a with z | ⟨ob,xs,z⟩ <;> (rw [h] at z; cases z)
 ·refine ⟨H,[.fz (ns.map T.int)],rfl,zp.refl H, .cons (.fz h (scrR ns)) .nil, ?_⟩
  rw [hL]
  intro v H' _ r
  cases r; rfl
 ·exact (Qx hK e c).elim
theorem walk {l:PySem.W.OpenLaw} {q:Program} {loose:List Str} {XP:(Str->Option Value)->Heap->Prop} {YP:World->Heap->Prop} {d:DefRec} {K:Params->PySem.W.Frag} (hn:l.most=some 63) (hdf:d.params.defaults=[])
  (hL:∀ ns:List Int,ns.length<=63->f_0 [.fz (ns.map T.int)]= .ok (.bl true)) (hK:∀ p,Wu (K p)=true)
  (hY:∀ (w:World) (h:Heap),YP w h->(K w.params).In h)
  (F:∀ (w:World) (mg:Str->Option Value) (fa:Addr) (h:Heap),(K w.params).In h->h.Ns mainGlobals mg->mg d.name=some (.ref fa)->
   ∃ fd:FuncData,(∀ (s:Shared) (u:Value),BindsTo s fd ⟨[u],[]⟩ [("_law_script",u)])/\∀ base:Heap,(K w.params).In base->base.Ns mainGlobals mg->ZA l.prog w (K w.params) mg base (CX1 l.prog w) 27 fa fd ["_law_script"] (spP (clK (K w.params)) 1 f_0)):
  PySem.W.WalkO q loose XP YP l.row.toRowW d [] (fun f vs=>PySem.call f vs):=
 L2.walk_of (n:=63) (k:=27) (x:="_law_script") (CX:=fun w=>(CX1 l.prog w)) (sp:=fun w=>spP (clK (K w.params)) 1 f_0) hn (by decide) hdf ⟨rfl,by decide,by decide⟩ hY F (fun w H a ns hl hO hS=>V5 (hL ns hl) (hK w.params) hO hS) fun _ _ _ _ _ ⟨_,_,_,_,_,_,_,z⟩=>z
end G
namespace PySem.W.Fast
def tw14370722684369384814:=0
def tw8873820221729754498:=0
def tw7537175935488126264:=0
def tw9798407548871329299:=0
def tw6806912195207325613:=0
def tw12741168538372615718:=0
def tw5589765435661835756:=0
def tw3093842658824236883:=0
def tw16661335324474883945:=0
def tw5942510502527970024:=0
def tw11135062934553724722:=0
def tw11938032215721038289:=0
def tw13271532245939588777:=0
def tw17592344639496161854:=0
def tw13542043494676306249:=0
def tw6848790050973218340:=0
def tw10087651856050383085:=0
def tw13696129077412497226:=0
def tw14623051343145413630:=0
def tw6972532766143840688:=0
def tw11511587667052438796:=0
def tw16537878264616413884:=0
def tw130720357637025119:=0
def tw2569481413202777359:=0
def tw14657704567208148658:=0
def tw16346207563948664779:=0
def tw10626646449919160811:=0
def tw1429980513678866467:=0
def tw14663474496402607473:=0
def tw14922977722565105062:=0
def tw4727579329339582926:=0
def tw6082846494313526046:=0
def tw8010782206306511093:=0
def tw2841129457518168438:=0
def tw201466037445083414:=0
def tw14646797155151688433:=0
def tw568890151344908104:=0
def tw15148511031541642704:=0
def tw9170259315819204604:=0
end PySem.W.Fast
open PySem PySem.W PyProof.Rows
set_option maxRecDepth 100000 in
set_option maxHeartbeats 0 in
theorem PySem.Challenge.cw_worthkinds_k03_whole_shapes_holds : PySem.Challenge.rw_worthkinds_k03_whole_shapes.Holds := by
 w_on; o_law; k_head; (case hw=>w_witness2)
 k_fill
 refine G.walk (l:=PySem.Challenge.rw_worthkinds_k03_whole_shapes) rfl rfl G.xy ?nl (fun w h Y=>PySem.W.kIn_of Y) ?F
 case nl=>intro p; kernel_rfl
 case F=>
  intro w mg fa h KX G0 hmg
  obtain ⟨a0,d0,C0⟩:∃ a d,G.Fn _ mg "_law_cell" G.s_u ["_law_script","_law_k"] a d:=by
   refine' ⟨_,_,G.fn1 KX G0 ?e ?l ?g ?k (fun F=>F.binds (ps:=["_law_script","_law_k"]) fun _ _ _ _ _ _ us hl=>match us,hl with | [_,_],_=>rfl)⟩
   (case e=>k_is)
   (case l=>k_is)
   (case g=>k_is)
   (case k=>k_is)
  obtain ⟨a1,d1,C1⟩:∃ a d,G.Fn _ mg "_law_pick" G.s_4 ["_law_script","_law_k","_law_many"] a d:=by
   refine' ⟨_,_,G.fn1 KX G0 ?e ?l ?g ?k (fun F=>F.binds (ps:=["_law_script","_law_k","_law_many"]) fun _ _ _ _ _ _ us hl=>match us,hl with | [_,_,_],_=>rfl)⟩
   (case e=>k_is)
   (case l=>k_is)
   (case g=>k_is)
   (case k=>k_is)
  obtain ⟨a2,d2,C2⟩:∃ a d,G.Fn _ mg "_law_word_of" G.s_m ["_law_script","_law_at"] a d:=by
   refine' ⟨_,_,G.fn1 KX G0 ?e ?l ?g ?k (fun F=>F.binds (ps:=["_law_script","_law_at"]) fun _ _ _ _ _ _ us hl=>match us,hl with | [_,_],_=>rfl)⟩
   (case e=>k_is)
   (case l=>k_is)
   (case g=>k_is)
   (case k=>k_is)
  obtain ⟨a3,d3,C3⟩:∃ a d,G.Fn _ mg "_law_leaf_kind" G.s_j ["_law_script","_law_at"] a d:=by
   refine' ⟨_,_,G.fn1 KX G0 ?e ?l ?g ?k (fun F=>F.binds (ps:=["_law_script","_law_at"]) fun _ _ _ _ _ _ us hl=>match us,hl with | [_,_],_=>rfl)⟩
   (case e=>k_is)
   (case l=>k_is)
   (case g=>k_is)
   (case k=>k_is)
  obtain ⟨a4,d4,C4⟩:∃ a d,G.Fn _ mg "_law_kind" G.s_9 ["_law_script","_law_at","_law_deep_here"] a d:=by
   refine' ⟨_,_,G.fn1 KX G0 ?e ?l ?g ?k (fun F=>F.binds (ps:=["_law_script","_law_at","_law_deep_here"]) fun _ _ _ _ _ _ us hl=>match us,hl with | [_,_,_],_=>rfl)⟩
   (case e=>k_is)
   (case l=>k_is)
   (case g=>k_is)
   (case k=>k_is)
  obtain ⟨a5,d5,C5⟩:∃ a d,G.Fn _ mg "_law_rows_of" G.s_c ["_law_lists"] a d:=by
   refine' ⟨_,_,G.fn1 KX G0 ?e ?l ?g ?k (fun F=>F.binds (ps:=["_law_lists"]) fun _ _ _ _ _ _ us hl=>match us,hl with | [_],_=>rfl)⟩
   (case e=>k_is)
   (case l=>k_is)
   (case g=>k_is)
   (case k=>k_is)
  obtain ⟨a6,d6,C6⟩:∃ a d,G.Fn _ mg "_law_all" G.s_7 ["_law_kind_here"] a d:=by
   refine' ⟨_,_,G.fn1 KX G0 ?e ?l ?g ?k (fun F=>F.binds (ps:=["_law_kind_here"]) fun _ _ _ _ _ _ us hl=>match us,hl with | [_],_=>rfl)⟩
   (case e=>k_is)
   (case l=>k_is)
   (case g=>k_is)
   (case k=>k_is)
  obtain ⟨a7,d7,C7⟩:∃ a d,G.Fn _ mg "_law_size" G.s_a ["_law_kind_here"] a d:=by
   refine' ⟨_,_,G.fn1 KX G0 ?e ?l ?g ?k (fun F=>F.binds (ps:=["_law_kind_here"]) fun _ _ _ _ _ _ us hl=>match us,hl with | [_],_=>rfl)⟩
   (case e=>k_is)
   (case l=>k_is)
   (case g=>k_is)
   (case k=>k_is)
  obtain ⟨a8,d8,C8⟩:∃ a d,G.Fn _ mg "_law_small" G.s_l ["_law_script","_law_at","_law_most"] a d:=by
   refine' ⟨_,_,G.fn1 KX G0 ?e ?l ?g ?k (fun F=>F.binds (ps:=["_law_script","_law_at","_law_most"]) fun _ _ _ _ _ _ us hl=>match us,hl with | [_,_,_],_=>rfl)⟩
   (case e=>k_is)
   (case l=>k_is)
   (case g=>k_is)
   (case k=>k_is)
  obtain ⟨a9,d9,C9⟩:∃ a d,G.Fn _ mg "is_whole" G.s_i ["thing"] a d:=by
   refine' ⟨_,_,G.fn1 KX G0 ?e ?l ?g ?k (fun F=>F.binds (ps:=["thing"]) fun _ _ _ _ _ _ us hl=>match us,hl with | [_],_=>rfl)⟩
   (case e=>k_is)
   (case l=>k_is)
   (case g=>k_is)
   (case k=>k_is)
  obtain ⟨a10,d10,C10⟩:∃ a d,G.Fn _ mg "is_span" G.s_r ["low","high","least","most"] a d:=by
   refine' ⟨_,_,G.fn1 KX G0 ?e ?l ?g ?k (fun F=>F.binds (ps:=["low","high","least","most"]) fun _ _ _ _ _ _ us hl=>match us,hl with | [_,_,_,_],_=>rfl)⟩
   (case e=>k_is)
   (case l=>k_is)
   (case g=>k_is)
   (case k=>k_is)
  obtain ⟨a11,d11,C11⟩:∃ a d,G.Fn _ mg "is_tuple_of" G.s_h ["thing","least","most"] a d:=by
   refine' ⟨_,_,G.fn1 KX G0 ?e ?l ?g ?k (fun F=>F.binds (ps:=["thing","least","most"]) fun _ _ _ _ _ _ us hl=>match us,hl with | [_,_,_],_=>rfl)⟩
   (case e=>k_is)
   (case l=>k_is)
   (case g=>k_is)
   (case k=>k_is)
  obtain ⟨a12,d12,C12⟩:∃ a d,G.Fn _ mg "is_word" G.s_p ["thing"] a d:=by
   refine' ⟨_,_,G.fn1 KX G0 ?e ?l ?g ?k (fun F=>F.binds (ps:=["thing"]) fun _ _ _ _ _ _ us hl=>match us,hl with | [_],_=>rfl)⟩
   (case e=>k_is)
   (case l=>k_is)
   (case g=>k_is)
   (case k=>k_is)
  obtain ⟨a13,d13,C13⟩:∃ a d,G.Fn _ mg "is_choice" G.s_o ["thing"] a d:=by
   refine' ⟨_,_,G.fn1 KX G0 ?e ?l ?g ?k (fun F=>F.binds (ps:=["thing"]) fun _ _ _ _ _ _ us hl=>match us,hl with | [_],_=>rfl)⟩
   (case e=>k_is)
   (case l=>k_is)
   (case g=>k_is)
   (case k=>k_is)
  obtain ⟨a14,d14,C14⟩:∃ a d,G.Fn _ mg "are_choices" G.s_k ["thing"] a d:=by
   refine' ⟨_,_,G.fn1 KX G0 ?e ?l ?g ?k (fun F=>F.binds (ps:=["thing"]) fun _ _ _ _ _ _ us hl=>match us,hl with | [_],_=>rfl)⟩
   (case e=>k_is)
   (case l=>k_is)
   (case g=>k_is)
   (case k=>k_is)
  obtain ⟨a15,d15,C15⟩:∃ a d,G.Fn _ mg "is_kind_within" G.s_b ["thing","levels"] a d:=by
   refine' ⟨_,_,G.fn1 KX G0 ?e ?l ?g ?k (fun F=>F.binds (ps:=["thing","levels"]) fun _ _ _ _ _ _ us hl=>match us,hl with | [_,_],_=>rfl)⟩
   (case e=>k_is)
   (case l=>k_is)
   (case g=>k_is)
   (case k=>k_is)
  obtain ⟨a16,d16,C16⟩:∃ a d,G.Fn _ mg "are_kinds_within" G.s_s ["thing","levels"] a d:=by
   refine' ⟨_,_,G.fn1 KX G0 ?e ?l ?g ?k (fun F=>F.binds (ps:=["thing","levels"]) fun _ _ _ _ _ _ us hl=>match us,hl with | [_,_],_=>rfl)⟩
   (case e=>k_is)
   (case l=>k_is)
   (case g=>k_is)
   (case k=>k_is)
  obtain ⟨a17,d17,C17⟩:∃ a d,G.Fn _ mg "is_kind" G.s_3 ["thing"] a d:=by
   refine' ⟨_,_,G.fn1 KX G0 ?e ?l ?g ?k (fun F=>F.binds (ps:=["thing"]) fun _ _ _ _ _ _ us hl=>match us,hl with | [_],_=>rfl)⟩
   (case e=>k_is)
   (case l=>k_is)
   (case g=>k_is)
   (case k=>k_is)
  obtain ⟨a18,d18,C18⟩:∃ a d,G.Fn _ mg "need_kind" G.s_f ["kind"] a d:=by
   refine' ⟨_,_,G.fn1 KX G0 ?e ?l ?g ?k (fun F=>F.binds (ps:=["kind"]) fun _ _ _ _ _ _ us hl=>match us,hl with | [_],_=>rfl)⟩
   (case e=>k_is)
   (case l=>k_is)
   (case g=>k_is)
   (case k=>k_is)
  obtain ⟨a19,d19,C19⟩:∃ a d,G.Fn _ mg "reach_of" G.s_2 ["kind"] a d:=by
   refine' ⟨_,_,G.fn1 KX G0 ?e ?l ?g ?k (fun F=>F.binds (ps:=["kind"]) fun _ _ _ _ _ _ us hl=>match us,hl with | [_],_=>rfl)⟩
   (case e=>k_is)
   (case l=>k_is)
   (case g=>k_is)
   (case k=>k_is)
  obtain ⟨a20,d20,C20⟩:∃ a d,G.Fn _ mg "reach_of_many" G.s_t ["kind"] a d:=by
   refine' ⟨_,_,G.fn1 KX G0 ?e ?l ?g ?k (fun F=>F.binds (ps:=["kind"]) fun _ _ _ _ _ _ us hl=>match us,hl with | [_],_=>rfl)⟩
   (case e=>k_is)
   (case l=>k_is)
   (case g=>k_is)
   (case k=>k_is)
  obtain ⟨a21,d21,C21⟩:∃ a d,G.Fn _ mg "reach" G.s_1 ["kind"] a d:=by
   refine' ⟨_,_,G.fn1 KX G0 ?e ?l ?g ?k (fun F=>F.binds (ps:=["kind"]) fun _ _ _ _ _ _ us hl=>match us,hl with | [_],_=>rfl)⟩
   (case e=>k_is)
   (case l=>k_is)
   (case g=>k_is)
   (case k=>k_is)
  obtain ⟨a22,d22,C22⟩:∃ a d,G.Fn _ mg "_law_deep" G.s_d ["_law_kind_here"] a d:=by
   refine' ⟨_,_,G.fn1 KX G0 ?e ?l ?g ?k (fun F=>F.binds (ps:=["_law_kind_here"]) fun _ _ _ _ _ _ us hl=>match us,hl with | [_],_=>rfl)⟩
   (case e=>k_is)
   (case l=>k_is)
   (case g=>k_is)
   (case k=>k_is)
  obtain ⟨a23,d23,C23⟩:∃ a d,G.Fn _ mg "_law_sum" G.s_e ["_law_worth"] a d:=by
   refine' ⟨_,_,G.fn1 KX G0 ?e ?l ?g ?k (fun F=>F.binds (ps:=["_law_worth"]) fun _ _ _ _ _ _ us hl=>match us,hl with | [_],_=>rfl)⟩
   (case e=>k_is)
   (case l=>k_is)
   (case g=>k_is)
   (case k=>k_is)
  obtain ⟨a24,d24,C24⟩:∃ a d,G.Fn _ mg "kinds_within" G.s_8 ["kind"] a d:=by
   refine' ⟨_,_,G.fn1 KX G0 ?e ?l ?g ?k (fun F=>F.binds (ps:=["kind"]) fun _ _ _ _ _ _ us hl=>match us,hl with | [_],_=>rfl)⟩
   (case e=>k_is)
   (case l=>k_is)
   (case g=>k_is)
   (case k=>k_is)
  obtain ⟨a25,d25,C25⟩:∃ a d,G.Fn _ mg "depth_of" G.s_g ["kind"] a d:=by
   refine' ⟨_,_,G.fn1 KX G0 ?e ?l ?g ?k (fun F=>F.binds (ps:=["kind"]) fun _ _ _ _ _ _ us hl=>match us,hl with | [_],_=>rfl)⟩
   (case e=>k_is)
   (case l=>k_is)
   (case g=>k_is)
   (case k=>k_is)
  obtain ⟨a26,d26,C26⟩:∃ a d,G.Fn _ mg "depth" G.s_6 ["kind"] a d:=by
   refine' ⟨_,_,G.fn1 KX G0 ?e ?l ?g ?k (fun F=>F.binds (ps:=["kind"]) fun _ _ _ _ _ _ us hl=>match us,hl with | [_],_=>rfl)⟩
   (case e=>k_is)
   (case l=>k_is)
   (case g=>k_is)
   (case k=>k_is)
  obtain ⟨a27,d27,C27⟩:∃ a d,G.Fn _ mg "words_of_pick" G.s_n ["kind"] a d:=by
   refine' ⟨_,_,G.fn1 KX G0 ?e ?l ?g ?k (fun F=>F.binds (ps:=["kind"]) fun _ _ _ _ _ _ us hl=>match us,hl with | [_],_=>rfl)⟩
   (case e=>k_is)
   (case l=>k_is)
   (case g=>k_is)
   (case k=>k_is)
  obtain ⟨a28,d28,C28⟩:∃ a d,G.Fn _ mg "words_of" G.s_5 ["kind"] a d:=by
   refine' ⟨_,_,G.fn1 KX G0 ?e ?l ?g ?k (fun F=>F.binds (ps:=["kind"]) fun _ _ _ _ _ _ us hl=>match us,hl with | [_],_=>rfl)⟩
   (case e=>k_is)
   (case l=>k_is)
   (case g=>k_is)
   (case k=>k_is)
  obtain ⟨a29,d29,C29⟩:∃ a d,G.Fn _ mg "words_in" G.s_q ["kind"] a d:=by
   refine' ⟨_,_,G.fn1 KX G0 ?e ?l ?g ?k (fun F=>F.binds (ps:=["kind"]) fun _ _ _ _ _ _ us hl=>match us,hl with | [_],_=>rfl)⟩
   (case e=>k_is)
   (case l=>k_is)
   (case g=>k_is)
   (case k=>k_is)
  obtain ⟨a30,d30,C30,hB⟩:∃ a d,G.Fn _ mg "law" G.s_0 ["_law_script"] a d/\∀ (s:PySem.Shared) (v:PySem.Value),BindsTo s d ⟨[v],[]⟩ [("_law_script",v)]:=by
   refine' ⟨_,_,G.fn1 KX G0 ?e ?l ?g ?k (fun F=>F.binds (ps:=["_law_script"]) fun _ _ _ _ _ _ us hl=>match us,hl with | [_],_=>rfl),fun s v=> .of_eq rfl⟩
   (case e=>k_is)
   (case l=>k_is)
   (case g=>k_is)
   (case k=>k_is)
  refine' G.fin_ KX G0 hmg ⟨a0,d0,C0,a1,d1,C1,a2,d2,C2,a3,d3,C3,a4,d4,C4,a5,d5,C5,a6,d6,C6,a7,d7,C7,a8,d8,C8,a9,d9,C9,a10,d10,C10,a11,d11,C11,a12,d12,C12,a13,d13,C13,a14,d14,C14,a15,d15,C15,a16,d16,C16,a17,d17,C17,a18,d18,C18,a19,d19,C19,a20,d20,C20,a21,d21,C21,a22,d22,C22,a23,d23,C23,a24,d24,C24,a25,d25,C25,a26,d26,C26,a27,d27,C27,a28,d28,C28,a29,d29,C29,a30,d30,C30,PySem.W.mg_none_of KX G0 (by k_is),PySem.W.mg_none_of KX G0 (by k_is),PySem.W.mg_none_of KX G0 (by k_is),PySem.W.mg_none_of KX G0 (by k_is),PySem.W.mg_none_of KX G0 (by k_is),PySem.W.mg_none_of KX G0 (by k_is),PySem.W.mg_none_of KX G0 (by k_is),PySem.W.mg_none_of KX G0 (by k_is),PySem.W.mg_none_of KX G0 (by k_is),PySem.W.mg_none_of KX G0 (by k_is),PySem.W.mg_none_of KX G0 (by k_is),PySem.W.mg_none_of KX G0 (by k_is),PySem.W.mg_none_of KX G0 (by k_is),PySem.W.mg_none_of KX G0 (by k_is),PySem.W.mg_none_of KX G0 (by k_is),⟨_,PySem.W.mg_of KX G0 (by k_is),_,rfl⟩⟩ hB ?n0 ?b0
  (case n0=>k_is)
  (case b0=>kernel_rfl)
