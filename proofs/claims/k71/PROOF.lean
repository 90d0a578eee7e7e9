import PyProof.Rows.All
import Wide.All
import OpenK.AllK
import Wide.FinOn
import Lean
import PyProof.EqAt
import PyProof.EqKinds
import PyProof.TupleCall
import PyProof.NeKinds
import PyProof.WalksEnum
import PyProof.StrWalks
import PyProof.ExcAttrAll.ValueError
import PyProof.ZipIter
import KE.KRevIter
import PyProof.ListNew
import PyProof.WalksMore
import PyProof.ReprLoop
import PyProof.FactsAll.list
import PyProof.CollectIter
import PyProof.TupleOfGen
import PyProof.Draws
import PyProof.EnumMake
import PyProof.SeqI3
import KE.KMinBuiltin
import PyProof.SetRoads
import PyProof.CollectWalk
import KE.KDictSum
import PyProof.AttrMiss
import PyProof.IsiH_tuple
import KE.KDictOf
import PyProof.FitsBits
import PyProof.SliceList
import PyProof.InstFacts
import PyProof.Rows.StrNews2
import PyProof.StrBlockH
import PyProof.CallStr
import KE.KIntText
import PyProof.StrLawsTight
import PyProof.StrLawsLast
import PyProof.StrLawsNeg
import PyProof.Rows.StrItems
import PySem.Challenge.RW_worthkinds_k71_whole_kind_texts
noncomputable section
set_option maxHeartbeats 4000000
set_option Elab.async false
set_option linter.all false
set_option maxRecDepth 100000
namespace L2
open PySem PySem.Spec PyProof.Rows
abbrev Key:=Sum Int Str
def YL:Key->Value->Bool
 | .inl k,v=>Value.isInt k v
 | .inr x,v=>Value.isStrOf x v
def Vj (w:World):Key->Int
 | .inl k=>hashInt k
 | .inr x=>hashStr w x
theorem zB:∀ {k:Key} {v:Value},YL k v=true->(∃ i t,k=Sum.inl i/\v=Value.int i t)\/(∃ x t,k=Sum.inr x/\v=Value.str x t)
 | .inl i,v,h=>by
  obtain ⟨t,e⟩:=Value.isInt_shape (k:=i) (v:=v) h
  exact .inl ⟨i,t,rfl,e⟩
 | .inr x,v,h=>by
  obtain ⟨t,e⟩:=Value.isStrOf_shape (x:=x) (v:=v) h
  exact .inr ⟨x,t,rfl,e⟩
theorem YM (a b:Int):decide ((Sum.inl a:Key)=Sum.inl b)=(a == b):=by
 by_cases e:a=b
 ·subst e; simp
 ·have h:¬ (Sum.inl a:Key)=Sum.inl b:=fun q=>e (Sum.inl.inj q)
  rw [decide_eq_false h]
  exact (beq_eq_false_iff_ne.mpr e).symm
theorem YN (a b:Str):decide ((Sum.inr a:Key)=Sum.inr b)=decide (a=b):=by
 by_cases e:a=b
 ·subst e; simp
 ·have h:¬ (Sum.inr a:Key)=Sum.inr b:=fun q=>e (Sum.inr.inj q)
  rw [decide_eq_false h,decide_eq_false e]
theorem YO (a:Int) (b:Str):decide ((Sum.inl a:Key)=Sum.inr b)=false:=decide_eq_false (fun q=>nomatch q)
theorem YQ (a:Str) (b:Int):decide ((Sum.inr a:Key)=Sum.inl b)=false:=decide_eq_false (fun q=>nomatch q)
def wc (prog:Program) (w:World):PySem.KeyKind prog w Key where
 is:=YL
 hash:=Vj w
 inj:=fun v a b ha hb=>by
  rcases zB ha with ⟨i,t,rfl,rfl⟩ | ⟨x,t,rfl,rfl⟩
  ·rcases zB hb with ⟨j,u,rfl,e⟩ | ⟨y,u,rfl,e⟩
   ·injection e with e1 _; rw [e1]
   ·exact nomatch e
  ·rcases zB hb with ⟨j,u,rfl,e⟩ | ⟨y,u,rfl,e⟩
   ·exact nomatch e
   ·injection e with e1 _; rw [e1]
 byValue:=fun k v h=>by
  rcases zB h with ⟨i,t,rfl,rfl⟩ | ⟨x,t,rfl,rfl⟩ <;> rfl
 pyHash:=fun hv h=>by
  rcases zB hv with ⟨i,t,rfl,rfl⟩ | ⟨x,t,rfl,rfl⟩
  ·exact wpAny_pyHash_int h
  ·exact wpAny_pyHash_str h
 eqBool:=fun hu hv h=>by
  rcases zB hu with ⟨i,t,rfl,rfl⟩ | ⟨x,t,rfl,rfl⟩
  ·rcases zB hv with ⟨j,u,rfl,rfl⟩ | ⟨y,u,rfl,rfl⟩
   ·rw [YM] at h; exact wpAny_eqBool_int h
   ·rw [YO] at h; exact SeqAt.EqAt.int_str i t y u _ _ _ _ h
  ·rcases zB hv with ⟨j,u,rfl,rfl⟩ | ⟨y,u,rfl,rfl⟩
   ·rw [YQ] at h; exact SeqAt.EqAt.str_int x t j u _ _ _ _ h
   ·rw [YN] at h; exact wpAny_eqBool_str h
 «strs»:=fun k x t v h=>by
  rcases zB h with ⟨i,u,rfl,e⟩ | ⟨y,u,rfl,e⟩
  ·exact nomatch e
  ·injection e with e1 _
   subst e1
   cases v <;> rfl
end L2
namespace L2
open PySem PySem.Spec PyProof.Rows
inductive V where
 | non | bl (b:Bool) | int (i:Int) | str (x:Str) | byt (b:Array UInt8) | flt (b:UInt64) | ref (a:Addr) | ty (n:String)
 deriving DecidableEq
def Z0:V->Value->Prop
 | .non,u=>u=Value.none
 | .bl b,u=>u=Value.bool b
 | .int i,u=>∃ t,u=Value.int i t
 | .str x,u=>∃ t,u=Value.str x t
 | .byt b,u=>∃ t,u=Value.bytes b t
 | .flt b,u=>∃ t,u=Value.float b t
 | .ref a,u=>u=Value.ref a
 | .ty n,u=>u=Value.type n
abbrev zR:List V->List Value->Prop:=Paired Z0
theorem zR.length {xs:List V} {us:List Value} (r:zR xs us):xs.length=us.length:=Paired.length r
theorem zR.get:∀ {xs:List V} {us:List Value} {i:Nat} {x:V},zR xs us->xs[i]? =some x->∃ u,us[i]? =some u/\Z0 x u
 | _,_,_,_, .nil,e=>by simp at e
 | _,_,0,_, .cons r _,e=>by simp at e; subst e; exact ⟨_,rfl,r⟩
 | _,_,i+1,x, .cons _ t,e=>by
  obtain ⟨u,h1,h2⟩:=zR.get (i:=i) (x:=x) t (by simpa using e)
  exact ⟨u,by simpa using h1,h2⟩
theorem zR.append:∀ {xs ys:List V} {us ws:List Value},zR xs us->zR ys ws->zR (xs++ys) (us++ws)
 | _,_,_,_, .nil,s=>s
 | _,_,_,_, .cons r t,s=> .cons r (zR.append t s)
theorem zR.take:∀ {xs:List V} {us:List Value} (n:Nat),zR xs us->zR (xs.take n) (us.take n)
 | _,_,0,_=> .nil
 | _,_,_+1, .nil=> .nil
 | _,_,n+1, .cons r t=> .cons r (zR.take n t)
theorem zR.drop:∀ {xs:List V} {us:List Value} (n:Nat),zR xs us->zR (xs.drop n) (us.drop n)
 | _,_,0,r=>r
 | _,_,_+1, .nil=> .nil
 | _,_,n+1, .cons _ t=>zR.drop n t
def QL:Option V->Option Value->Prop
 | some v,some u=>Z0 v u
 | none,none=>True
 | _,_=>False
def KV {κ:Type}:List (κ×V)->List (κ×Value)->Prop:=Paired fun (p:κ×V) (q:κ×Value)=>p.1=q.1/\Z0 p.2 q.2
def kV:Key->V
 | .inl i=> .int i
 | .inr x=> .str x
inductive HO where
 | lst (xs:List V)
 | tup (xs:List V)
 | dK (kvs:List (Key×V)) | dT (kvs:List (List Key×V))
 | set (S:Int->Bool) (n:Nat)
 | ins (C dx:Addr) (fs:List (Str×V))
 | own (x:Addr)
 | xd (fs:List (Str×V))
 | met (f x:Addr)
 | rng (lo hi:Int)
 | frz (o:Obj) (u:HO)
 | tbl (ps:Array Value)
 | ext (φ:Heap->Prop)
abbrev Hp:=Addr->Option HO
def upd (H:Hp) (a:Addr) (o:HO):Hp:=fun b=>if b=a then some o else H b
theorem Zc {H:Hp} {a:Addr} {o:HO}:upd H a o a=some o:=by unfold upd; rw [if_pos rfl]
theorem zr {H:Hp} {a b:Addr} {o:HO} (h:b ≠ a):upd H a o b=H b:=by unfold upd; rw [if_neg h]
theorem zv {H:Hp} {a b:Addr} {o:HO} (h:H a=some o) (h' :H b=none):a ≠ b:=by
 intro e; subst e; rw [h] at h'; cases h'
def ITN (h:Heap) (a:Addr) (its:Array Value):Prop:=IsTup h a its/\((∃ i t,its[0]? =some (Value.int i t))\/∃ o,h.get? a=some o/\o.dict=none)
theorem ITN.new (h:Heap) (its:Array Value):ITN (h.push { cls:= .type "tuple",data:= .seq its }) h.objs.size its:=⟨IsTup.new h its, .inr ⟨_,Heap.get?_push_size _ rfl,rfl⟩⟩
section
variable (P:Program) (w:World)
def Zk (H:Hp) (h:Heap) (a:Addr):HO->Prop
 | .lst xs=>xs.length<=sizeLine/\∃ (its:List Value) (n:Nat),zR xs its/\h.get? a=some { cls:= .type "list",data:= .seq its.toArray n }
 | .tup xs=>xs.length<=sizeLine/\∃ its:List Value,zR xs its/\ITN h a its.toArray
 | .dK kvs=>kvs.length<=sizeLine/\(a == sysModules)=false/\∃ vs,KV kvs vs/\h.DictOf (wc P w) a vs
 | .dT kvs=>kvs.length<=sizeLine/\(a == sysModules)=false/\∃ xs:List (List Key×Addr×Value),
   Paired (fun (p:List Key×V) (q:List Key×Addr×Value)=>p.1=q.1/\H q.2.1=some (.tup (p.1.map kV))/\Z0 p.2 q.2.2) kvs xs/\
   ∃ o es ep,h.get? a=some o/\o.ExactDict/\o.data= .dict es ep/\es.toList=xs.map (entryOfKey (tupleKind (wc P w)))/\(xs.map (·.1)).Nodup
 | .set S n=>h.SetOf (intKind P w) a S n
 | .ins C dx fs=>H dx=some (.own a)/\fs.length<=1000/\dx ≠ a/\h.get? a=some (PySem.W.instObj C dx)/\
   ∃ mA,h.Ns1 dx mA/\(∀ f,QL (fs.lookup f) (mA f))/\PySem.Within mA (fs.map (·.1))
 | .own _=>∃ o,h.get? a=some o
 | .xd fs=>∃ mA,h.Ns1 a mA/\∀ f,QL (fs.lookup f) (mA f)
 | .rng lo hi=>∃ t u v,h.get? a=some { cls:= .type "range",data:= .fields #[.int lo t, .int hi u, .int 1 v] }
 | .frz o u=>h.get? a=some o/\Zk H h a u
 | .tbl ps=>h.get? a=some { cls:= .none,data:= .fields ps }
 | .met f x=>h.get? a=some (PySem.W.methodObj (.ref f) (.ref x))
 | .ext φ=>φ h/\(∃ o,h.get? a=some o)/\∀ h1 h2:Heap,φ h1->(∀ o,h1.get? a=some o->h2.get? a=some o)->φ h2
def HOk (H:Hp) (h:Heap):Prop:=∀ a o,H a=some o->Zk P w H h a o
end
section
variable {P:Program} {w:World} {H H' :Hp} {h h' :Heap} {a:Addr} {o:HO}
theorem Zk.lt (x:Zk P w H h a o):a < h.objs.size:=by
 cases o with
 | lst xs=>obtain ⟨_,_,_,_,e⟩:=x; exact Heap.lt_size e
 | tup xs=>obtain ⟨_,_,_,p,_⟩:=x; exact p.lt
 | dK kvs=>obtain ⟨_,_,_,_,o,_,_,e,_⟩:=x; exact Heap.lt_size e
 | dT kvs=>obtain ⟨_,_,_,_,o,_,_,e,_⟩:=x; exact Heap.lt_size e
 | set S n=>obtain ⟨o,_,_,_,e,_⟩:=x; exact Heap.lt_size e
 | ins C dx fs=>obtain ⟨_,_,_,e,_⟩:=x; exact Heap.lt_size e
 | own y=>obtain ⟨_,e⟩:=x; exact Heap.lt_size e
 | xd fs=>obtain ⟨_,⟨_,_,_,e,_⟩,_⟩:=x; exact Heap.lt_size e
 | rng lo hi=>obtain ⟨_,_,_,e⟩:=x; exact Heap.lt_size e
 | frz ob u=>obtain ⟨e,_⟩:=x; exact Heap.lt_size e
 | tbl ps=>exact Heap.lt_size (show h.get? a=some _ from x)
 | met f y=>exact Heap.lt_size (show h.get? a=some _ from x)
 | ext φ=>obtain ⟨_,⟨_,e⟩,_⟩:=x; exact Heap.lt_size e
theorem Paired.mapP {α β:Type} {F G:α->β->Prop}:∀ {l₁:List α} {l₂:List β},Paired F l₁ l₂->(∀ a b,F a b->G a b)->Paired G l₁ l₂
 | _,_, .nil,_=> .nil
 | _,_, .cons r t,f=> .cons (f _ _ r) (Paired.mapP t f)
theorem Zk.stay (x:Zk P w H h a o) (k:∀ b u,(b=a\/H b=some (.own a))->h.get? b=some u->h'.get? b=some u)
  (ho:∀ b,H b=some (.own a)->H' b=some (.own a)) (ht:∀ b xs,H b=some (.tup xs)->H' b=some (.tup xs)):Zk P w H' h' a o:=by
 induction o with
 | lst xs=>obtain ⟨z,its,n,r,e⟩:=x; exact ⟨z,its,n,r,k _ _ (.inl rfl) e⟩
 | tup xs=>obtain ⟨z,its,r,⟨ob,e,c⟩,q⟩:=x; exact ⟨z,its,r,⟨ob,k _ _ (.inl rfl) e,c⟩,q.imp id fun ⟨o2,e2,d2⟩=>⟨o2,k _ _ (.inl rfl) e2,d2⟩⟩
 | dK kvs=>obtain ⟨z,y,vs,r,ob,es,ep,e,c⟩:=x; exact ⟨z,y,vs,r,ob,es,ep,k _ _ (.inl rfl) e,c⟩
 | dT kvs=>
  obtain ⟨z,y,xs,r,ob,es,ep,e,c⟩:=x
  exact ⟨z,y,xs,Paired.mapP r fun p q z=>⟨z.1,ht _ _ z.2.1,z.2.2⟩,ob,es,ep,k _ _ (.inl rfl) e,c⟩
 | set S n=>obtain ⟨ob,es,ep,t,e,c⟩:=x; exact ⟨ob,es,ep,t,k _ _ (.inl rfl) e,c⟩
 | ins C dx fs=>
  obtain ⟨d,z,ne,e,mA,⟨od,es,ep,e2,c⟩,r⟩:=x
  exact ⟨ho _ d,z,ne,k _ _ (.inl rfl) e,mA,⟨od,es,ep,k _ _ (.inr d) e2,c⟩,r⟩
 | own y=>obtain ⟨ob,e⟩:=x; exact ⟨ob,k _ _ (.inl rfl) e⟩
 | xd fs=>obtain ⟨mA,⟨od,es,ep,e,c⟩,r⟩:=x; exact ⟨mA,⟨od,es,ep,k _ _ (.inl rfl) e,c⟩,r⟩
 | rng lo hi=>obtain ⟨t,u,v,e⟩:=x; exact ⟨t,u,v,k _ _ (.inl rfl) e⟩
 | frz ob u ih=>obtain ⟨e,q⟩:=x; exact ⟨k _ _ (.inl rfl) e,ih q⟩
 | tbl ps=>
  have e:h.get? a=some { cls:= .none,data:= .fields ps }:=x
  show h'.get? a=some { cls:= .none,data:= .fields ps }
  exact k a _ (.inl rfl) e
 | met f y=>
  have e:h.get? a=some (PySem.W.methodObj (.ref f) (.ref y)):=x
  show h'.get? a=some (PySem.W.methodObj (.ref f) (.ref y))
  exact k a _ (.inl rfl) e
 | ext φ=>obtain ⟨p,⟨o,e⟩,st⟩:=x; exact ⟨st _ _ p fun o q=>k _ _ (.inl rfl) q,⟨o,k _ _ (.inl rfl) e⟩,st⟩
theorem HOk.lt (x:HOk P w H h) (e:H a=some o):a < h.objs.size:=(x a o e).lt
theorem HOk.fresh (x:HOk P w H h) (e:h.objs.size<=a):H a=none:=by
 cases q:H a with
 | none=>rfl
 | some u=>exact absurd (Nat.lt_of_lt_of_le (x.lt q) e) (Nat.lt_irrefl _)
theorem HOk.kept (x:HOk P w H h) (k:∀ b u,h.get? b=some u->h'.get? b=some u):HOk P w H h' :=fun a o e=>
 (x a o e).stay (fun b u _ q=>k b u q) (fun _ q=>q) fun _ _ q=>q
theorem HOk.laid (x:HOk P w H h) (k:∀ b u,h.get? b=some u->h'.get? b=some u) (hp:h.objs.size<=a) (new:Zk P w (upd H a o) h' a o):HOk P w (upd H a o) h' :=fun b u e=>by
 have hn:=x.fresh hp
 by_cases hb:b=a
 ·subst hb; rw [Zc] at e; cases e; exact new
 ·rw [zr hb] at e
  exact (x b u e).stay (fun c v _ q=>k c v q) (fun c q=>by rw [zr (zv q hn)]; exact q) fun c xs q=>by rw [zr (zv q hn)]; exact q
end
def Rd (H:Hp) (a:Addr) (u:HO):Prop:=H a=some u\/∃ o,H a=some (.frz o u)
theorem Rd.ok {P:Program} {w:World} {H:Hp} {h:Heap} {a:Addr} {u:HO} (r:Rd H a u) (x:HOk P w H h):Zk P w H h a u:=by
 rcases r with r | ⟨o,r⟩
 ·exact x a u r
 ·obtain ⟨_,q⟩:=x a _ r
  exact q
def Mut:Option HO->Prop
 | some (.lst _)=>True
 | some (.dK _)=>True
 | some (.dT _)=>True
 | some (.set _ _)=>True
 | some (.ins _ _ _)=>True
 | some (.ext _)=>True
 | _=>False
section
variable {P:Program} {w:World} {H:Hp} {h h' :Heap} {x e:Addr} {o' :HO}
theorem HOk.write (ok:HOk P w H h) (mu:Mut (H x)) (he:e=x\/H e=some (.own x)) (k:∀ b u,b ≠ e->h.get? b=some u->h'.get? b=some u) (heo:∃ u,h'.get? e=some u)
  (new:Zk P w (upd H x o') h' x o'):HOk P w (upd H x o') h' :=fun b u q=>by
 have nown:∀ c y,H c=some (.own y)->c ≠ x:=fun c y r z=>by subst z; rw [r] at mu; exact mu
 have ntup:∀ c xs,H c=some (.tup xs)->c ≠ x:=fun c xs r z=>by subst z; rw [r] at mu; exact mu
 by_cases hb:b=x
 ·subst hb; rw [Zc] at q; cases q; exact new
 ·rw [zr hb] at q
  by_cases hbe:b=e
  ·have q' :H b=some (.own x):=by
    rcases he with z | z
    ·exact absurd (hbe.trans z) hb
    ·rw [hbe]; exact z
   rw [q] at q'; cases q'
   obtain ⟨v,hv⟩:=heo
   exact ⟨v,by rw [hbe]; exact hv⟩
  ·refine (ok b u q).stay (fun c v hc r=>k c v ?_ r) (fun c r=>by rw [zr (nown c b r)]; exact r) fun c xs r=>by rw [zr (ntup c xs r)]; exact r
   rcases hc with rfl | hc
   ·exact hbe
   ·rintro rfl
    rcases he with z | z
    ·exact nown c b hc z
    ·rw [hc] at z; cases z; exact hb rfl
end
structure Un (fs ex:List Addr) (H H' :Hp) (h h' :Heap):Prop where
 keep:∀ b o,h.get? b=some o->H b=none->b ∉ fs->b ∉ ex->h'.get? b=some o
 slot:∀ b o,h.get? b=some o->H b=none->b∈fs->b ∉ ex->∃ sl,h'.get? b=some { o with slots:=sl }
 free:∀ b o,h.get? b=some o->H b=none->b ∉ ex->H' b=none
 there:∀ b o,h.get? b=some o->b ∉ ex->∃ o',h'.get? b=some o'
 tups:∀ b xs,H b=some (.tup xs)->H' b=some (.tup xs)
 frzs:∀ b o u,H b=some (.frz o u)->H' b=some (.frz o u)
 tbls:∀ b ps,H b=some (.tbl ps)->∃ more,H' b=some (.tbl (ps++more))
section
variable {fs fs' ex ex' :List Addr} {H H1 H2:Hp} {h h1 h2 h' :Heap} {a x e:Addr} {o:HO}
theorem Un.any (u:Un fs ex H H1 h h1) {b:Addr} {ob:Obj} (q:h.get? b=some ob) (n:H b=none) (hx:b ∉ ex):∃ sl,h1.get? b=some { ob with slots:=sl }:=by
 by_cases hb:b∈fs
 ·exact u.slot b ob q n hb hx
 ·exact ⟨ob.slots,u.keep b ob q n hb hx⟩
theorem Un.kept (k:∀ b u,h.get? b=some u->h'.get? b=some u):Un fs ex H H h h' :=
 ⟨fun b ob q _ _ _=>k b ob q,fun b ob q _ _ _=>⟨ob.slots,k b ob q⟩,fun _ _ _ n _=>n,fun b ob q _=>⟨ob,k b ob q⟩,fun _ _ q=>q,fun _ _ _ q=>q,fun _ ps q=>⟨#[],by rw [q]; simp⟩⟩
theorem Un.refl:Un fs ex H H h h:=Un.kept fun _ _ q=>q
theorem Un.laid (k:∀ b u,h.get? b=some u->h'.get? b=some u) (hp:h.objs.size<=a) (hn:H a=none):Un fs ex H (upd H a o) h h' where
 keep:=fun b u q _ _ _=>k b u q
 slot:=fun b u q _ _ _=>⟨u.slots,k b u q⟩
 free:=fun b u q n _=>by rw [zr (Nat.ne_of_lt (Nat.lt_of_lt_of_le (Heap.lt_size q) hp))]; exact n
 there:=fun b u q _=>⟨u,k b u q⟩
 tups:=fun b xs q=>by rw [zr (zv q hn)]; exact q
 frzs:=fun b u xs q=>by rw [zr (zv q hn)]; exact q
 tbls:=fun b ps q=>⟨#[],by rw [zr (zv q hn),q]; simp⟩
theorem Un.write (mu:Mut (H x)) (he:e=x\/H e=some (.own x)) (k:∀ b u,b ≠ e->h.get? b=some u->h'.get? b=some u) (heo:∃ u,h'.get? e=some u):Un fs ex H (upd H x o) h h' :=by
 have hx:∀ b,H b=none->b ≠ x:=fun b n z=>by subst z; rw [n] at mu; exact mu
 have hb:∀ b,H b=none->b ≠ e:=fun b n z=>by
  subst z
  rcases he with r | r
  ·exact hx b n r
  ·rw [n] at r; cases r
 have hm:∀ b u,H b=some u->¬ Mut (some u)->b ≠ x:=fun b u q nm z=>by subst z; rw [q] at mu; exact nm mu
 refine ⟨fun b u q n _ _=>k b u (hb b n) q,fun b u q n _ _=>⟨u.slots,k b u (hb b n) q⟩,fun b u q n _=>by rw [zr (hx b n)]; exact n,fun b u q _=> ?_,
  fun b xs q=>by rw [zr (hm b _ q fun z=>z)]; exact q,fun b u xs q=>by rw [zr (hm b _ q fun z=>z)]; exact q,fun b ps q=>⟨#[],by rw [zr (hm b _ q fun z=>z),q]; simp⟩⟩
 by_cases hbe:b=e
 ·subst hbe; exact heo
 ·exact ⟨u,k b u hbe q⟩
end
def trk (h:Heap) (H:Hp):List Addr:=(List.range h.objs.size).filter fun a=>(H a).isSome
def U9 (h:Heap) (H:Hp):Heap:=PySem.W.hideAll h (trk h H)
theorem Wv (h:Heap) (H:Hp):(U9 h H).objs.size=h.objs.size:=PySem.W.hideAll_size _ _
theorem Ua {h:Heap} {H:Hp} {b:Addr} {o:Obj} (e:h.get? b=some o) (n:H b=none):(U9 h H).get? b=some o:=
 PySem.W.hideAll_get _ e fun hm=>by
  have q:(H b).isSome=true:=(List.mem_filter.mp hm).2
  rw [n] at q; simp at q
theorem yu {h:Heap} {H:Hp} {b:Addr} {o:Obj} (e:(U9 h H).get? b=some o):h.get? b=some o/\H b=none:=by
 have e' :h.get? b=some o:=PySem.W.of_hideAll (trk h H) e
 refine ⟨e', ?_⟩
 cases q:H b with
 | none=>rfl
 | some x=>
  have hm:b∈trk h H:=List.mem_filter.mpr ⟨List.mem_range.mpr (Heap.lt_size e'),by simp [q]⟩
  have z:(U9 h H).get? b=none:=PySem.W.hideAll_none (trk h H) hm
  rw [z] at e; cases e
end L2
namespace L2
open PySem PySem.Spec PyProof.Rows
structure Mod (K:PySem.W.Frag) (mg:Str->Option Value) (base:Heap):Prop where
 kin:K.In base
 glob:base.Ns mainGlobals mg
 blt:∃ mb,base.Ns builtinsNs mb/\∀ x:Str,x ≠ "__name__"->mb x=bootBuiltins x
 nolimit:base.NoLimit
structure Cx where
 prog:Program
 w:World
 K:PySem.W.Frag
 mg:Str->Option Value
 base:Heap
 A:Around
 N:List Str
 s₀:Shared
 H₀:Hp
 env:Env
 outer:List Env
 stack:List Env
 ex:List Addr
 fn:Str->Bool
 calm:Bool
 pn:List (Addr×Obj)
 xe:Value->Shared->Prop
def frs (l:List Env):List Addr:=l.filterMap (·.frame)
abbrev Cx.fs (X:Cx):List Addr:=frs X.outer
def Vis (sc:Scope) (x:Str):Prop:=sc.names.lookup x=some .local\/sc.names.lookup x=some .cell\/sc.names.lookup x=some .free
def Loc (sc:Scope) (x:Str):Prop:=sc.names.lookup x=some .local\/sc.names.lookup x=some .cell
def Vk (env:Env) (h:Heap) (m:Str->Option Value) (x:Str) (u:Value):Prop:=
 (env.kindOf x=some .local/\m x=some u)\/((env.kindOf x=some .cell\/env.kindOf x=some .free)/\∃ c,env.cells.lookup x=some c/\h.IsCell c (some u))
structure Cx.Ok (X:Cx):Prop where
 mod:Mod X.K X.mg X.base
 kind:X.env.scope.kind= .function
 glob:X.env.globals=mainGlobals
 blt:X.env.builtins=builtinsNs
 above:X.s₀.heap.objs.size<=X.env.locals
 inj:∀ x y c,X.env.cells.lookup x=some c->X.env.cells.lookup y=some c->x=y
 has:∀ x,(X.env.kindOf x=some .cell\/X.env.kindOf x=some .free)->∃ c,X.env.cells.lookup x=some c
 cab:∀ x c,X.fn x=true->X.env.cells.lookup x=some c->X.s₀.heap.objs.size<=c
 hd:X.calm=true->X.A.handled=none
 frames:X.A.frames=some X.stack
 stk:X.stack=X.outer\/(X.stack=X.env :: X.outer/\X.env.frame=some X.env.locals)
 exf:∀ b∈X.ex,b ≠ X.env.locals/\∀ x c,X.env.cells.lookup x=some c->c ≠ b
 bs:∀ b o,X.base.get? b=some o->X.s₀.heap.get? b=some o/\X.H₀ b=none
 bsz:X.base.objs.size<=X.s₀.heap.objs.size
 noex:∀ b o,X.base.get? b=some o->b ∉ X.ex
 exfs:∀ b∈X.ex,b ∉ X.fs
 funs:X.s₀.heap.FunFrames X.base X.outer
 frf:∀ b∈X.fs,X.H₀ b=none
structure Inv (X:Cx) (pins:List (Addr×Obj)) (σ:List (Option V)) (H:Hp) (s:Shared):Prop where
 ok:X.Ok
 os:s.os=X.s₀.os
 bare:AllBare s.gens
 base:Un X.fs X.ex X.H₀ H X.s₀.heap s.heap
 loc:∃ m,s.heap.Ns X.env.locals m/\∀ (i:Nat) (x:Str) (v:V),X.N[i]? =some x->σ[i]? =some (some v)->Vis X.env.scope x->∃ u,Z0 v u/\Vk X.env s.heap m x u
 cell:∀ x c,X.env.cells.lookup x=some c->∃ v,s.heap.IsCell c v
 free:H X.env.locals=none
 freeC:∀ x c,X.env.cells.lookup x=some c->H c=none
 pin:∀ p∈X.pn++pins,s.heap.get? p.1=some p.2/\H p.1=none/\p.1 ≠ X.env.locals/\p.1 ∉ X.fs/\∀ v,p.2.data ≠ .cell v
 hok:HOk X.prog X.w H s.heap
 len:σ.length=X.N.length
section
variable {X:Cx} {pins:List (Addr×Obj)} {σ:List (Option V)} {H H' :Hp} {s:Shared} {h' :Heap}
theorem Cx.Ok.nofr (ok:X.Ok) {b:Addr} {o:Obj} (e:X.base.get? b=some o):b ∉ X.fs:=fun hb=>by
 have:=(ok.funs.mem hb).1
 rw [e] at this; cases this
theorem Inv.bs (I:Inv X pins σ H s):∀ b o,X.base.get? b=some o->s.heap.get? b=some o/\H b=none:=fun b o e=>
 ⟨I.base.keep b o (I.ok.bs b o e).1 (I.ok.bs b o e).2 (I.ok.nofr e) (I.ok.noex b o e),I.base.free b o (I.ok.bs b o e).1 (I.ok.bs b o e).2 (I.ok.noex b o e)⟩
theorem Inv.bk (I:Inv X pins σ H s):∀ b o,X.base.get? b=some o->s.heap.get? b=some o:=fun b o e=>(I.bs b o e).1
theorem Inv.mod (I:Inv X pins σ H s):Mod X.K X.mg X.base:=I.ok.mod
theorem Inv.kIn (I:Inv X pins σ H s):X.K.In s.heap:=I.ok.mod.kin.keeps I.bk
theorem Inv.lt (I:Inv X pins σ H s):X.env.locals < s.heap.objs.size:=let ⟨_,hn,_⟩:=I.loc; hn.lt
theorem Inv.sz (I:Inv X pins σ H s):X.s₀.heap.objs.size<=s.heap.objs.size:=Nat.le_trans I.ok.above (Nat.le_of_lt I.lt)
theorem Inv.nofs (I:Inv X pins σ H s) {a:Addr} (h:s.heap.objs.size<=a):a ∉ X.fs:=fun hb=>by
 obtain ⟨_,o,ho,_⟩:=I.ok.funs.mem hb
 exact absurd (Nat.lt_of_lt_of_le (Heap.lt_size ho) (Nat.le_trans I.sz h)) (Nat.lt_irrefl _)
theorem Inv.cne (I:Inv X pins σ H s):∀ x c,X.env.cells.lookup x=some c->c ≠ X.env.locals:=fun x c e z=>by
 obtain ⟨v,o,ho,hd⟩:=I.cell x c e
 obtain ⟨m,⟨o',es,ep,ho',hd',_⟩,_⟩:=I.loc
 rw [z,ho'] at ho; cases ho; rw [hd'] at hd; cases hd
theorem Inv.funs (I:Inv X pins σ H s):s.heap.FunFrames X.base X.outer:=by
 have all:∀ (l:List Env),(∀ b∈frs l,b∈X.fs)->X.s₀.heap.FunFrames X.base l->s.heap.FunFrames X.base l:=by
  intro l
  induction l with
  | nil=>intro _ _; trivial
  | cons env r ih=>
   intro hs hl
   obtain ⟨hk,⟨L,o,hf,hn,ho,hd⟩,hr⟩:=hl
   have hL:L∈X.fs:=hs L (by unfold frs; rw [List.filterMap_cons,hf]; exact List.mem_cons_self)
   obtain ⟨sl,e⟩:=I.base.slot L o ho (I.ok.frf L hL) hL fun z=>I.ok.exfs L z hL
   exact ⟨hk,⟨L,_,hf,hn,e,hd⟩,ih (fun b hb=>hs b (by unfold frs; rw [List.filterMap_cons,hf]; exact List.mem_cons_of_mem _ hb)) hr⟩
 exact all X.outer (fun _ hb=>hb) I.ok.funs
theorem Inv.stack (I:Inv X pins σ H s):s.heap.FunFrames X.base X.stack:=by
 rcases I.ok.stk with e | ⟨e,hf⟩
 ·rw [e]; exact I.funs
 ·rw [e]
  obtain ⟨m,hn,_⟩:=I.loc
  refine .cons (by rw [I.ok.kind]; decide) hf hn ?_ I.funs
  exact Heap.get?_none_of_le (Nat.le_trans I.ok.bsz I.ok.above)
theorem Inv.stkSub (I:Inv X pins σ H s):∀ b∈frs X.stack,b∈X.env.locals :: X.fs:=fun b hb=>by
 rcases I.ok.stk with e | ⟨e,hf⟩
 ·rw [e] at hb; exact List.mem_cons_of_mem _ hb
 ·rw [e] at hb
  unfold frs at hb
  rw [List.filterMap_cons,hf] at hb
  exact hb
theorem Inv.stkFree (I:Inv X pins σ H s):∀ b∈frs X.stack,H b=none:=fun b hb=>by
 rcases List.mem_cons.mp (I.stkSub b hb) with e | hb
 ·rw [e]; exact I.free
 ·obtain ⟨_,o,ho,_⟩:=I.ok.funs.mem hb
  exact I.base.free b o ho (I.ok.frf b hb) fun z=>I.ok.exfs b z hb
theorem Inv.step {g' :Array GenState} {t' :Nat} {d' :Drawn} {ch:List Addr} (I:Inv X pins σ H s)
  (hch:∀ b∈ch,(b∈X.ex\/X.s₀.heap.objs.size<=b)/\b ≠ X.env.locals/\(∀ x c,X.env.cells.lookup x=some c->c ≠ b)/\∀ p∈X.pn++pins,p.1 ≠ b)
  (keep:∀ b o,b ≠ X.env.locals->b ∉ X.fs->b ∉ ch->s.heap.get? b=some o->H b=none->h'.get? b=some o)
  (slot:∀ b o,b ≠ X.env.locals->b∈X.fs->b ∉ ch->s.heap.get? b=some o->H b=none->∃ sl,h'.get? b=some { o with slots:=sl }) (free:∀ b o,b ∉ ch->s.heap.get? b=some o->H b=none->H' b=none)
  (there:∀ b o,b ∉ ch->s.heap.get? b=some o->∃ o',h'.get? b=some o')
  (tups:∀ b xs,H b=some (.tup xs)->H' b=some (.tup xs)) (frzs:∀ b o u,H b=some (.frz o u)->H' b=some (.frz o u)) (tbls:∀ b ps,H b=some (.tbl ps)->∃ more,H' b=some (.tbl (ps++more)))
  (ns:∀ m,s.heap.Ns X.env.locals m->h'.Ns X.env.locals m) (hok:HOk X.prog X.w H' h') (hg:AllBare g'):
  Inv X pins σ H' { s with heap:=h',gens:=g',drawn:=d',toks:=t' }:=by
 have neL:∀ b o,X.s₀.heap.get? b=some o->b ≠ X.env.locals:=fun b o e=>Nat.ne_of_lt (Nat.lt_of_lt_of_le (Heap.lt_size e) I.ok.above)
 have neC:∀ b o,X.s₀.heap.get? b=some o->b ∉ X.ex->b ∉ ch:=fun b o e hx hb=>by
  rcases (hch b hb).1 with z | z
  ·exact hx z
  ·exact absurd (Nat.lt_of_lt_of_le (Heap.lt_size e) z) (Nat.lt_irrefl _)
 have cellK:∀ x c,X.env.cells.lookup x=some c->∀ v,s.heap.IsCell c v->h'.IsCell c v:=fun x c e v ⟨o,ho,hd⟩=>by
  have nch:c ∉ ch:=fun z=>(hch c z).2.2.1 x c e rfl
  by_cases hc:c∈X.fs
  ·obtain ⟨sl,q⟩:=slot c o (I.cne x c e) hc nch ho (I.freeC x c e)
   exact ⟨_,q,hd⟩
  ·exact ⟨o,keep c o (I.cne x c e) hc nch ho (I.freeC x c e),hd⟩
 refine ⟨I.ok,I.os,hg,⟨fun b o e n hb hx=> ?_,fun b o e n hb hx=> ?_,fun b o e n hx=> ?_,fun b o e hx=> ?_,fun b xs e=>tups b xs (I.base.tups b xs e),fun b o xs e=>frzs b o xs (I.base.frzs b o xs e),fun b ps e=> ?_⟩, ?_,fun x c e=> ?_, ?_,fun x c e=> ?_,fun p hp=> ?_,hok,I.len⟩
 ·exact keep b o (neL b o e) hb (neC b o e hx) (I.base.keep b o e n hb hx) (I.base.free b o e n hx)
 ·obtain ⟨sl,e1⟩:=I.base.slot b o e n hb hx
  obtain ⟨sl',e2⟩:=slot b _ (neL b o e) hb (neC b o e hx) e1 (I.base.free b o e n hx)
  exact ⟨sl',e2⟩
 ·obtain ⟨o',e1⟩:=I.base.there b o e hx
  exact free b o' (neC b o e hx) e1 (I.base.free b o e n hx)
 ·obtain ⟨o',e1⟩:=I.base.there b o e hx
  exact there b o' (neC b o e hx) e1
 ·obtain ⟨m1,e1⟩:=I.base.tbls b ps e
  obtain ⟨m2,e2⟩:=tbls b _ e1
  exact ⟨m1++m2,by rw [e2,Array.append_assoc]⟩
 ·obtain ⟨m,hn,hl⟩:=I.loc
  refine ⟨m,ns m hn,fun i x v e1 e2 e3=> ?_⟩
  obtain ⟨u,r,l⟩:=hl i x v e1 e2 e3
  refine ⟨u,r, ?_⟩
  rcases l with l | ⟨k,c,e,z⟩
  ·exact .inl l
  ·exact .inr ⟨k,c,e,cellK x c e _ z⟩
 ·obtain ⟨v,z⟩:=I.cell x c e
  exact ⟨v,cellK x c e v z⟩
 ·obtain ⟨m,⟨o,_,_,ho,_⟩,_⟩:=I.loc
  exact free _ o (fun z=>(hch _ z).2.1 rfl) ho I.free
 ·obtain ⟨v,o,ho,hd⟩:=I.cell x c e
  exact free c o (fun z=>(hch c z).2.2.1 x c e rfl) ho (I.freeC x c e)
 ·obtain ⟨e,n,ne,nf,d⟩:=I.pin p hp
  have nch:p.1 ∉ ch:=fun z=>(hch p.1 z).2.2.2 p hp rfl
  exact ⟨keep p.1 p.2 ne nf nch e n,free p.1 p.2 nch e n,ne,nf,d⟩
theorem Inv.un {t' :Nat} (I:Inv X pins σ H s) (u:Un X.fs [] H H' s.heap h') (hok:HOk X.prog X.w H' h'):Inv X pins σ H' { s with heap:=h',toks:=t' }:=by
 obtain ⟨m,⟨o,es,ep,ho,r⟩,_⟩:=id I.loc
 obtain ⟨sl,hL⟩:=u.any ho I.free (by simp)
 exact I.step (g' :=s.gens) (d' :=s.drawn) (ch:=[]) (fun _ z=>nomatch z) (fun b o _ hb _ e n=>u.keep b o e n hb (by simp)) (fun b o _ hb _ e n=>u.slot b o e n hb (by simp)) (fun b o _ e n=>u.free b o e n (by simp)) (fun b o _ e=>u.there b o e (by simp)) u.tups u.frzs u.tbls (fun m' hm=>by
  obtain ⟨o',es',ep',ho',r'⟩:=hm
  rw [ho] at ho'; cases ho'
  exact ⟨_,es',ep',hL,r'⟩) hok I.bare
theorem Inv.call {g' :Array GenState} {t' :Nat} {d' :Drawn} {ch:List Addr} (I:Inv X pins σ H s) (u:Un (frs X.stack) ch H H' s.heap h') (hok:HOk X.prog X.w H' h') (hg:AllBare g')
  (hch:∀ b∈ch,(b∈X.ex\/X.s₀.heap.objs.size<=b)/\b ≠ X.env.locals/\(∀ x c,X.env.cells.lookup x=some c->c ≠ b)/\∀ p∈X.pn++pins,p.1 ≠ b):
  Inv X pins σ H' { s with heap:=h',gens:=g',drawn:=d',toks:=t' }:=by
 obtain ⟨m,⟨o,es,ep,ho,r⟩,_⟩:=id I.loc
 obtain ⟨sl,hL⟩:=u.any ho I.free fun z=>(hch _ z).2.1 rfl
 exact I.step (ch:=ch) hch (fun b o hL hb hc e n=>u.keep b o e n (fun z=>(List.mem_cons.mp (I.stkSub b z)).elim hL hb) hc) (fun b o _ _ hc e n=>u.any e n hc) (fun b o hc e n=>u.free b o e n hc) (fun b o hc e=>u.there b o e hc) u.tups u.frzs u.tbls (fun m' hm=>by
  obtain ⟨o',es',ep',ho',r'⟩:=hm
  rw [ho] at ho'; cases ho'
  exact ⟨_,es',ep',hL,r'⟩) hok hg
theorem Inv.turned {t' :Nat} {it:Addr} (I:Inv X pins σ H s) (k:∀ b o,b ≠ it->s.heap.get? b=some o->h'.get? b=some o) (hn:H it=none) (hL:it ≠ X.env.locals)
  (h1:it∈X.ex\/X.s₀.heap.objs.size<=it) (h2:∀ x c,X.env.cells.lookup x=some c->c ≠ it) (h3:∀ p∈X.pn++pins,p.1 ≠ it):Inv X pins σ H { s with heap:=h',toks:=t' }:=by
 have nit:∀ b u,H b=some u->b ≠ it:=fun b u e z=>by rw [z,hn] at e; cases e
 refine I.step (g' :=s.gens) (d' :=s.drawn) (ch:=[it]) (fun b hb=> ?_) (fun b o _ _ hc e _=>k b o (fun z=>hc (by simp [z])) e) (fun b o _ _ hc e _=>⟨o.slots,k b o (fun z=>hc (by simp [z])) e⟩) (fun _ _ _ _ n=>n)
  (fun b o hc e=>⟨o,k b o (fun z=>hc (by simp [z])) e⟩) (fun _ _ e=>e) (fun _ _ _ e=>e) (fun b ps e=>⟨#[],by rw [e]; simp⟩) (fun m hm=> ?_) (fun b u e=> ?_) I.bare
 ·have e:b=it:=by simpa using hb
  subst e
  exact ⟨h1,hL,h2,h3⟩
 ·obtain ⟨o,es,ep,ho,r⟩:=hm
  exact ⟨o,es,ep,k _ o (Ne.symm hL) ho,r⟩
 ·refine (I.hok b u e).stay (fun c v hc q=>k c v ?_ q) (fun _ q=>q) fun _ _ q=>q
  rcases hc with z | z
  ·rw [z]; exact nit b u e
  ·exact nit c _ z
theorem Inv.tok (I:Inv X pins σ H s) (t:Nat):Inv X pins σ H { s with toks:=t }:=I.un (h' :=s.heap) (t' :=t) Un.refl I.hok
theorem Inv.kept {t' :Nat} (I:Inv X pins σ H s) (k:∀ b u,s.heap.get? b=some u->h'.get? b=some u):Inv X pins σ H { s with heap:=h',toks:=t' }:=I.un (Un.kept k) (I.hok.kept k)
theorem Inv.laid {a:Addr} {o:HO} {t' :Nat} (I:Inv X pins σ H s) (k:∀ b u,s.heap.get? b=some u->h'.get? b=some u) (hp:s.heap.objs.size<=a) (new:Zk X.prog X.w (upd H a o) h' a o):
  Inv X pins σ (upd H a o) { s with heap:=h',toks:=t' }:=I.un (Un.laid k hp (I.hok.fresh hp)) (I.hok.laid k hp new)
theorem Inv.write {x e:Addr} {o:HO} {t' :Nat} (I:Inv X pins σ H s) (mu:Mut (H x)) (he:e=x\/H e=some (.own x)) (k:∀ b u,b ≠ e->s.heap.get? b=some u->h'.get? b=some u) (heo:∃ u,h'.get? e=some u)
  (new:Zk X.prog X.w (upd H x o) h' x o):Inv X pins σ (upd H x o) { s with heap:=h',toks:=t' }:=I.un (Un.write mu he k heo) (I.hok.write mu he k heo new)
theorem Inv.pins_of {pins' :List (Addr×Obj)} (I:Inv X pins σ H s) (h:∀ p∈pins',s.heap.get? p.1=some p.2/\H p.1=none/\p.1 ≠ X.env.locals/\p.1 ∉ X.fs/\∀ v,p.2.data ≠ .cell v):Inv X pins' σ H s:=
 ⟨I.ok,I.os,I.bare,I.base,I.loc,I.cell,I.free,I.freeC,fun p hp=>(List.mem_append.mp hp).elim (fun z=>I.pin p (List.mem_append_left _ z)) (h p),I.hok,I.len⟩
theorem wC {N:List Str} (hN:N.Nodup) {i j:Nat} {x:Str} (a:N[i]? =some x) (b:N[j]? =some x):i=j:=by
 obtain ⟨h1,e1⟩:=List.getElem?_eq_some_iff.mp a
 obtain ⟨h2,e2⟩:=List.getElem?_eq_some_iff.mp b
 exact (List.getElem_inj hN).mp (e1.trans e2.symm)
theorem Jt {M:Model} {A:Around} {E:Value->Shared->Prop} {i:Nat} {x:Str} {v:V} {u:Value} {Q:Unit->Shared->Prop} (I:Inv X pins σ H s) (hN:X.N.Nodup) (hi:X.N[i]? =some x) (hx:Loc X.env.scope x) (r:Z0 v u)
  (h:∀ s',Inv X pins (σ.set i (some v)) H s' ->(∃ a,Heap.SameBut a s.heap s'.heap/\(a=X.env.locals\/X.env.cells.lookup x=some a))->Q () s') (hf:X.fn x=true\/X.env.scope.names.lookup x=some .local:=by first | exact .inl rfl | exact .inr rfl | assumption):wpAny M A (storeName X.env x u) Q E s:=by
 obtain ⟨m,hn,hl⟩:=id I.loc
 have hcls:(X.env.scope.kind == .class || (X.env.scope.kind == .module && X.env.locals != X.env.globals))=false:=by rw [I.ok.kind]; rfl
 have hiσ:i < σ.length:=by rw [I.len]; exact (List.getElem?_eq_some_iff.mp hi).1
 have cne:=I.cne
 have tracked:∀ {a:Addr} {h' :Heap},(∃ o,s.heap.get? a=some o/\H a=none)->Heap.SameBut a s.heap h' ->HOk X.prog X.w H h' :=fun {a h'} ha hs b ob e=>by
  obtain ⟨_,_,hfree⟩:=ha
  refine (I.hok b ob e).stay (fun c w' hc q=>(hs.2 c ?_).trans q) (fun _ q=>q) fun _ _ q=>q
  rintro rfl
  rcases hc with rfl | hc
  ·rw [hfree] at e; cases e
  ·rw [hfree] at hc; cases hc
 rcases hx with hk | hk
 ·refine wpAny_storeName_local hk hn (fun h' hn' hs=> ?_) hcls
  obtain ⟨oL,_,_,hoL,_⟩:=id hn
  refine h _ ⟨I.ok,I.os,I.bare,⟨fun b o e n hb hx=> ?_,fun b o e n hb hx=> ?_,I.base.free,fun b o e hx=> ?_,I.base.tups,I.base.frzs,I.base.tbls⟩,⟨_,hn',fun j y v' e1 e2 e3=> ?_⟩,fun y c e=> ?_,I.free,I.freeC,fun p hp=> ?_,tracked ⟨oL,hoL,I.free⟩ hs,by simpa using I.len⟩ ⟨_,hs, .inl rfl⟩
  ·exact (hs.2 b (Nat.ne_of_lt (Nat.lt_of_lt_of_le (Heap.lt_size e) I.ok.above))).trans (I.base.keep b o e n hb hx)
  ·obtain ⟨sl,e1⟩:=I.base.slot b o e n hb hx
   exact ⟨sl,(hs.2 b (Nat.ne_of_lt (Nat.lt_of_lt_of_le (Heap.lt_size e) I.ok.above))).trans e1⟩
  ·obtain ⟨o',e1⟩:=I.base.there b o e hx
   exact ⟨o',(hs.2 b (Nat.ne_of_lt (Nat.lt_of_lt_of_le (Heap.lt_size e) I.ok.above))).trans e1⟩
  ·by_cases hj:j=i
   ·subst hj
    rw [hi] at e1; cases e1
    rw [List.getElem?_set_self hiσ] at e2
    cases e2
    exact ⟨u,r, .inl ⟨hk,by simp⟩⟩
   ·rw [List.getElem?_set_ne (Ne.symm hj)] at e2
    obtain ⟨u',r',q⟩:=hl j y v' e1 e2 e3
    refine ⟨u',r', ?_⟩
    rcases q with ⟨k,e⟩ | ⟨k,c,e,z⟩
    ·refine .inl ⟨k, ?_⟩
     have:y ≠ x:=fun e=>hj (wC hN e1 (e ▸ hi))
     simp [this,e]
    ·exact .inr ⟨k,c,e,z.sameBut hs (cne y c e)⟩
  ·obtain ⟨w',z⟩:=I.cell y c e
   exact ⟨w',z.sameBut hs (cne y c e)⟩
  ·obtain ⟨e,n,ne,nf,d⟩:=I.pin p hp
   exact ⟨(hs.2 p.1 ne).trans e,n,ne,nf,d⟩
 ·have hfn:X.fn x=true:=by
   rcases hf with z | z
   ·exact z
   ·rw [z] at hk; cases hk
  obtain ⟨c,hc⟩:=I.ok.has x (.inl hk)
  obtain ⟨w',z⟩:=I.cell x c hc
  refine wpAny_storeName_cell I.ok.kind hk hc z (fun h' hc' hs=> ?_)
  obtain ⟨oc,hoc,hocd⟩:=id z
  refine h { s with heap:=h' } ⟨I.ok,I.os,I.bare,⟨fun b o e n hb hx=> ?_,fun b o e n hb hx=> ?_,I.base.free,fun b o e hx=> ?_,I.base.tups,I.base.frzs,I.base.tbls⟩,⟨m,hn.sameBut hs (Ne.symm (cne x c hc)),fun j y v' e1 e2 e3=> ?_⟩,fun y c' e=> ?_,I.free,I.freeC,fun p hp=> ?_,tracked ⟨oc,hoc,I.freeC x c hc⟩ hs,by simpa using I.len⟩ ⟨c,hs, .inr hc⟩
  ·exact (hs.2 b (Nat.ne_of_lt (Nat.lt_of_lt_of_le (Heap.lt_size e) (I.ok.cab x c hfn hc)))).trans (I.base.keep b o e n hb hx)
  ·obtain ⟨sl,e1⟩:=I.base.slot b o e n hb hx
   exact ⟨sl,(hs.2 b (Nat.ne_of_lt (Nat.lt_of_lt_of_le (Heap.lt_size e) (I.ok.cab x c hfn hc)))).trans e1⟩
  ·obtain ⟨o',e1⟩:=I.base.there b o e hx
   exact ⟨o',(hs.2 b (Nat.ne_of_lt (Nat.lt_of_lt_of_le (Heap.lt_size e) (I.ok.cab x c hfn hc)))).trans e1⟩
  ·by_cases hj:j=i
   ·subst hj
    rw [hi] at e1; cases e1
    rw [List.getElem?_set_self hiσ] at e2
    cases e2
    exact ⟨u,r, .inr ⟨.inl hk,c,hc,hc'⟩⟩
   ·rw [List.getElem?_set_ne (Ne.symm hj)] at e2
    obtain ⟨u',r',q⟩:=hl j y v' e1 e2 e3
    refine ⟨u',r', ?_⟩
    rcases q with q | ⟨k,c',e,z'⟩
    ·exact .inl q
    ·refine .inr ⟨k,c',e,z'.sameBut hs ?_⟩
     rintro rfl
     exact hj (wC hN e1 (I.ok.inj _ _ _ e hc ▸ hi))
  ·by_cases hcc:c' =c
   ·subst hcc; exact ⟨_,hc'⟩
   ·obtain ⟨w2,z2⟩:=I.cell y c' e
    exact ⟨w2,z2.sameBut hs hcc⟩
  ·obtain ⟨e,n,ne,nf,d⟩:=I.pin p hp
   refine ⟨(hs.2 p.1 ?_).trans e,n,ne,nf,d⟩
   intro q
   rw [q,hoc] at e
   have q' :oc=p.2:=Option.some.inj e
   exact d w' (by rw [← q']; exact hocd)
theorem wD {M:Model} {A:Around} {E:Value->Shared->Prop} {i:Nat} {x:Str} {v:V} {u:Value} {Q:Unit->Shared->Prop} (I:Inv X pins σ H s) (hN:X.N.Nodup) (hi:X.N[i]? =some x) (hx:Loc X.env.scope x) (r:Z0 v u)
  (h:∀ s',Inv X pins (σ.set i (some v)) H s' ->Q () s') (hf:X.fn x=true\/X.env.scope.names.lookup x=some .local:=by first | exact .inl rfl | exact .inr rfl | assumption):wpAny M A (storeName X.env x u) Q E s:=
 Jt I hN hi hx r (fun s' I' _=>h s' I') hf
theorem Inv.call' {s' :Shared} {ch:List Addr} (I:Inv X pins σ H s) (ho:s'.os=s.os) (u:Un (frs X.stack) ch H H' s.heap s'.heap) (hok:HOk X.prog X.w H' s'.heap) (hg:AllBare s'.gens)
  (hch:∀ b∈ch,(b∈X.ex\/X.s₀.heap.objs.size<=b)/\b ≠ X.env.locals/\(∀ x c,X.env.cells.lookup x=some c->c ≠ b)/\∀ p∈X.pn++pins,p.1 ≠ b):Inv X pins σ H' s' :=by
 obtain ⟨h',g',d',t',o'⟩:=s'
 have e:o' =s.os:=ho
 subst e
 exact I.call (g' :=g') (t' :=t') (d' :=d') u hok hg hch
end
abbrev XK:=Value->Option Addr->Hp->Prop
abbrev St:=List (Option V)
abbrev VK:=V->Hp->Prop
abbrev TE:=St->Hp->VK->Prop
abbrev TT:=St->Hp->(Bool->Hp->Prop)->Prop
abbrev TA:=St->Hp->(List V->Hp->Prop)->Prop
structure Ub where
 nx:St->Hp->Prop
 rt:VK
 bk:St->Hp->Prop:=fun _ _=>False
 ct:St->Hp->Prop:=fun _ _=>False
abbrev TS:=Ub->St->Hp->Prop
def EP (X:Cx) (pins:List (Addr×Obj)) (σ:St) (Q:VK) (u:Value) (s' :Shared):Prop:=∃ v H',Inv X pins σ H' s' /\Z0 v u/\Q v H'
def TP (X:Cx) (pins:List (Addr×Obj)) (σ:St) (Q:Bool->Hp->Prop) (b:Bool) (s' :Shared):Prop:=∃ H',Inv X pins σ H' s' /\Q b H'
def AP (X:Cx) (pins:List (Addr×Obj)) (σ:St) (Q:List V->Hp->Prop) (us:List Value) (s' :Shared):Prop:=∃ vs H',Inv X pins σ H' s' /\zR vs us/\Q vs H'
def SP (X:Cx) (pins:List (Addr×Obj)) (D:Ub) (f:Flow) (s' :Shared):Prop:=
 match f with
 | .next=>∃ σ' H',Inv X pins σ' H' s' /\D.nx σ' H'
 | .brk=>∃ σ' H',Inv X pins σ' H' s' /\D.bk σ' H'
 | .cont=>∃ σ' H',Inv X pins σ' H' s' /\D.ct σ' H'
 | .ret u=>∃ v σ' H',Inv X pins σ' H' s' /\Z0 v u/\D.rt v H'
def PE (X:Cx) (e:Expr) (t:TE):Prop:=
 ∀ (pins:List (Addr×Obj)) (s:Shared) (σ:St) (H:Hp) (Q:VK),Inv X pins σ H s->t σ H Q->wpAny (model X.prog X.w) X.A (eval e X.env) (EP X pins σ Q) X.xe s
def PT (X:Cx) (e:Expr) (t:TT):Prop:=
 ∀ (pins:List (Addr×Obj)) (s:Shared) (σ:St) (H:Hp) (Q:Bool->Hp->Prop),Inv X pins σ H s->t σ H Q->wpAny (model X.prog X.w) X.A (isTrue e X.env (eval e X.env)) (TP X pins σ Q) X.xe s
def PW (X:Cx) (e:Expr) (t:TT):Prop:=
 ∀ (whole:Sem Value) (pins:List (Addr×Obj)) (s:Shared) (σ:St) (H:Hp) (Q:Bool->Hp->Prop),Inv X pins σ H s->t σ H Q->wpAny (model X.prog X.w) X.A (isTrue e X.env whole) (TP X pins σ Q) X.xe s
theorem PW.pt {X:Cx} {e:Expr} {t:TT} (h:PW X e t):PT X e t:=h _
def PA (X:Cx) (es:List Expr) (t:TA):Prop:=
 ∀ (pos:Pos) (pins:List (Addr×Obj)) (s:Shared) (σ:St) (H:Hp) (Q:List V->Hp->Prop),Inv X pins σ H s->t σ H Q->wpAny (model X.prog X.w) X.A (spliced (backTo pos (starEach es X.env))) (AP X pins σ Q) X.xe s
def PS (X:Cx) (st:Stmt) (t:TS):Prop:=
 ∀ (pins:List (Addr×Obj)) (s:Shared) (σ:St) (H:Hp) (D:Ub),Inv X pins σ H s->t D σ H->wpAny (model X.prog X.w) X.A (exec st X.env) (SP X pins D) X.xe s
def PSs (X:Cx) (st:List Stmt) (t:TS):Prop:=
 ∀ (pins:List (Addr×Obj)) (s:Shared) (σ:St) (H:Hp) (D:Ub),Inv X pins σ H s->t D σ H->wpAny (model X.prog X.w) X.A (execs st X.env) (SP X pins D) X.xe s
theorem thn {α:Type} {t:Sem α} {Q Q' :α->Shared->Prop} {M:Model} {A:Around} {E:Value->Shared->Prop} {s:Shared} (h:wpAny M A t Q E s) (hQ:∀ a s,Q a s->Q' a s):wpAny M A t Q' E s:=wpAny_mono h hQ fun _ _ x=>x
end L2
namespace L2
open PySem PySem.Spec PyProof.Rows
section
variable {X:Cx}
theorem bin {a b:Expr} {ta tb:TE} (ha:PE X a ta) (hb:PE X b tb) {pins:List (Addr×Obj)} {s:Shared} {σ:St} {H:Hp} {R:V->V->Hp->Prop} (I:Inv X pins σ H s) (h:ta σ H fun x H1=>tb σ H1 fun y H2=>R x y H2)
  {α:Type} {Q:α->Shared->Prop} {f:Value->Value->Sem α}
  (hf:∀ v u s2 x y H2,Inv X pins σ H2 s2->Z0 x v->Z0 y u->R x y H2->wpAny (model X.prog X.w) X.A (f v u) Q X.xe s2):
  wpAny (model X.prog X.w) X.A (eval a X.env) (fun v s₁=>wpAny (model X.prog X.w) X.A (eval b X.env) (fun u s₂=>wpAny (model X.prog X.w) X.A (f v u) Q X.xe s₂) X.xe s₁) X.xe s:=by
 refine thn (ha pins s σ H _ I h) fun v s1 ⟨x,H1,I1,r1,q1⟩=> ?_
 refine thn (hb pins s1 σ H1 _ I1 q1) fun u s2 ⟨y,H2,I2,r2,q2⟩=> ?_
 exact hf v u s2 x y H2 I2 r1 r2 q2
def YR (i:Nat):TE:=fun σ H Q=>∃ v,σ[i]? =some (some v)/\Q v H
def tC (v:V):TE:=fun _ H Q=>Q v H
theorem YS {i:Nat} {x:Str} {pos:Pos} (hN:X.N[i]? =some x) (hv:Vis X.env.scope x) (hd:(x == ("__debug__":Str))=false:=by decide) (hcd:(x == ("__classdict__":Str))=false:=by decide):PE X (.Name x pos) (YR i):=by
 intro pins s σ H Q I h
 obtain ⟨v,e,h⟩:=h
 obtain ⟨m,hn,hl⟩:=I.loc
 obtain ⟨u,r,l⟩:=hl i x v hN e hv
 have fin:EP X pins σ Q u s:=⟨v,H,I,r,h⟩
 rcases l with ⟨hk,hm⟩ | ⟨hk,c,hc,hcell⟩
 ·exact wpAny_Name (wpAny_loadName_local I.ok.kind hk hn hm fin) hd
 ·rcases hk with hk | hk
  ·exact wpAny_Name (wpAny_loadName_cell I.ok.kind hk hc hcell fin) hd
  ·exact wpAny_Name (wpAny_loadName_free I.ok.kind hk hc hcell fin hcd) hd
theorem YT {i j pos}:PE X (.Constant (.int i) j pos) (tC (.int i)):=fun _ _ _ H _ I h=>wpAny_Constant_int ⟨.int i,H,I.tok _,⟨_,rfl⟩,h⟩
theorem QM {b j pos}:PE X (.Constant (.bool b) j pos) (tC (.bl b)):=fun _ _ _ H _ I h=>Constant_bool ⟨.bl b,H,I,rfl,h⟩
theorem Ww {x j pos}:PE X (.Constant (.str x) j pos) (tC (.str x)):=fun _ _ _ H _ I h=>Calls.Constant_str ⟨.str x,H,I.tok _,⟨_,rfl⟩,h⟩
def Gl (X:Cx) (x:Str):Prop:=X.env.kindOf x=some .globalImplicit
theorem Wx {E:Value->Shared->Prop} {pins:List (Addr×Obj)} {s:Shared} {σ:St} {H:Hp} {x:Str} {u:Value} {pos:Pos} {Q:Value->Shared->Prop} (I:Inv X pins σ H s) (hg:Gl X x) (hm:X.mg x=some u) (h:Q u s)
  (hd:(x == ("__debug__":Str))=false:=by decide):wpAny (model X.prog X.w) X.A (eval (.Name x pos) X.env) Q E s:=
 Calls.Name_function_global I.ok.kind hg (Calls.loadGlobal_global (by rw [I.ok.glob]; exact I.mod.glob.keeps I.bk) hm h) hd
theorem jo {E:Value->Shared->Prop} {pins:List (Addr×Obj)} {s:Shared} {σ:St} {H:Hp} {x:Str} {u:Value} {pos:Pos} {Q:Value->Shared->Prop} (I:Inv X pins σ H s) (hg:Gl X x) (hm:X.mg x=none) (hv:bootBuiltins x=some u) (h:Q u s)
  (hn:x ≠ "__name__":=by decide) (hd:(x == ("__debug__":Str))=false:=by decide):wpAny (model X.prog X.w) X.A (eval (.Name x pos) X.env) Q E s:=by
 obtain ⟨mb,h1,h2⟩:=I.mod.blt
 exact Calls.Name_function_global I.ok.kind hg (Calls.loadGlobal_builtin (by rw [I.ok.glob]; exact I.mod.glob.keeps I.bk) hm (by rw [I.ok.blt]; exact h1.keeps I.bk) ((h2 x hn).trans hv) h) hd
theorem yv {x:Str} {v:V} {u:Value} {pos:Pos} (hg:Gl X x) (hm:X.mg x=some u) (r:Z0 v u) (hd:(x == ("__debug__":Str))=false:=by decide):PE X (.Name x pos) (tC v):=
 fun _ _ _ H _ I h=>Wx I hg hm ⟨v,H,I,r,h⟩ hd
theorem yw {x:Str} {v:V} {u:Value} {pos:Pos} (hg:Gl X x) (hm:X.mg x=none) (hv:bootBuiltins x=some u) (r:Z0 v u) (hn:x ≠ "__name__":=by decide) (hd:(x == ("__debug__":Str))=false:=by decide):PE X (.Name x pos) (tC v):=
 fun _ _ _ H _ I h=>jo I hg hm hv ⟨v,H,I,r,h⟩ hn hd
variable {a b:Expr} {ta tb:TE} {pos:Pos}
variable {tA tB' :TT} {rest:List Expr}
def Vl (t u:TT):TT:=fun σ H Q=>t σ H fun c H1=>if c=true then u σ H1 Q else Q false H1
def tOr (t u:TT):TT:=fun σ H Q=>t σ H fun c H1=>if c=true then Q true H1 else u σ H1 Q
def Vm (t:TT):TT:=fun σ H Q=>t σ H fun c H1=>Q (!c) H1
theorem yx (ha:PT X a tA):PW X (.BoolOp .And [a] pos) tA:=by
 intro wh pins s σ H Q I h
 refine isTrue_and (thn (ha pins s σ H Q I h) fun c s1 e=> ?_)
 cases c with
 | true=>exact isTrue_and_nil e
 | false=>exact e
theorem YU (ha:PT X a tA):PW X (.BoolOp .Or [a] pos) tA:=by
 intro wh pins s σ H Q I h
 refine isTrue_or (thn (ha pins s σ H Q I h) fun c s1 e=> ?_)
 cases c with
 | false=>exact isTrue_or_nil e
 | true=>exact e
theorem YV (ha:PT X a tA) (hb:PW X (.BoolOp .And (b :: rest) pos) tB'):PW X (.BoolOp .And (a :: b :: rest) pos) (Vl tA tB'):=by
 intro wh pins s σ H Q I h
 refine isTrue_and (thn (ha pins s σ H _ I h) fun c s1 ⟨H1,I1,q1⟩=> ?_)
 cases c with
 | true=>exact hb wh pins s1 σ H1 Q I1 q1
 | false=>exact ⟨H1,I1,q1⟩
theorem QN (ha:PT X a tA) (hb:PW X (.BoolOp .Or (b :: rest) pos) tB'):PW X (.BoolOp .Or (a :: b :: rest) pos) (tOr tA tB'):=by
 intro wh pins s σ H Q I h
 refine isTrue_or (thn (ha pins s σ H _ I h) fun c s1 ⟨H1,I1,q1⟩=> ?_)
 cases c with
 | true=>exact ⟨H1,I1,q1⟩
 | false=>exact hb wh pins s1 σ H1 Q I1 q1
theorem YW (ha:PT X a tA):PT X (.UnaryOp .Not a pos) (Vm tA):=by
 intro pins s σ H Q I h
 exact isTrue_not (ha pins s σ H (fun c H1=>Q (!c) H1) I h)
def QO (ta tb:TE):TE:=fun σ H Q=>ta σ H fun x H1=>∃ c,x= .bl c/\if c=true then tb σ H1 Q else Q (.bl false) H1
def QP (ta:TE):TE:=fun σ H Q=>ta σ H fun x H1=>∃ c,x= .bl c/\Q (.bl (!c)) H1
theorem YX {op} {t:TE} (h:PE X a t):PE X (.BoolOp op [a] pos) t:=fun pins s σ H Q I hw=>BoolOp_one (h pins s σ H Q I hw)
theorem YY (ha:PE X a ta) (hb:PE X (.BoolOp .And (b :: rest) pos) tb):PE X (.BoolOp .And (a :: b :: rest) pos) (QO ta tb):=by
 intro pins s σ H Q I h
 refine BoolOp_and (thn (ha pins s σ H _ I h) fun v s1 ⟨x,H1,I1,r1,q1⟩=> ?_)
 obtain ⟨c,rfl,q1⟩:=q1
 cases r1
 refine wpAny_truthy_bool ?_
 cases c with
 | true=>exact hb pins s1 σ H1 Q I1 q1
 | false=>exact ⟨.bl false,H1,I1,rfl,q1⟩
theorem YZ (ha:PE X a ta):PE X (.UnaryOp .Not a pos) (QP ta):=by
 intro pins s σ H Q I h
 refine UnaryOp_ (thn (ha pins s σ H _ I h) fun v s1 ⟨x,H1,I1,r1,q1⟩=> ?_)
 obtain ⟨c,rfl,q1⟩:=q1
 cases r1
 exact not_of (wpAny_truthy_bool ⟨.bl (!c),H1,I1,rfl,q1⟩)
def tIf (t:TT) (ta tb:TE):TE:=fun σ H Q=>t σ H fun c H1=>if c=true then ta σ H1 Q else tb σ H1 Q
theorem Uc {c:Expr} (hc:PT X c tA) (ha:PE X a ta) (hb:PE X b tb):PE X (.IfExp c a b pos) (tIf tA ta tb):=by
 intro pins s σ H Q I h
 refine wpAny_IfExp (thn (hc pins s σ H _ I h) fun d s1 ⟨H1,I1,q1⟩=> ?_)
 cases d with
 | true=>exact ha pins s1 σ H1 Q I1 q1
 | false=>exact hb pins s1 σ H1 Q I1 q1
end
end L2
namespace L2
open PySem PySem.Spec PyProof.Rows
def SqL (K:PySem.W.Frag) (H:Hp) (a:Addr) (xs:List V):Prop:=
 Rd H a (.lst xs)\/
  ∃ (o:Obj) (its:Array Value) (n:Nat),K.lookup a=some o/\o.cls= .type "list"/\o.dict=none/\o.data= .seq its n/\its.size<=sizeLine/\zR xs its.toList
def SqT (K:PySem.W.Frag) (H:Hp) (a:Addr) (xs:List V):Prop:=
 Rd H a (.tup xs)\/
  ∃ (o:Obj) (its:Array Value) (n:Nat),K.lookup a=some o/\o.cls= .type "tuple"/\o.data= .seq its n/\its.size<=sizeLine/\zR xs its.toList
def Vn:Value->Option V
 | .none=>some .non
 | .bool b=>some (.bl b)
 | .int i _=>some (.int i)
 | .str x _=>some (.str x)
 | .bytes b _=>some (.byt b)
 | .float b _=>some (.flt b)
 | .ref a=>some (.ref a)
 | .type n=>some (.ty n)
 | _=>none
theorem Z0.abs {x:V} {u:Value} (r:Z0 x u):Vn u=some x:=by
 cases x with
 | non=>cases r; rfl
 | bl _=>cases r; rfl
 | int _=>obtain ⟨t,rfl⟩:=r; rfl
 | str _=>obtain ⟨t,rfl⟩:=r; rfl
 | byt _=>obtain ⟨t,rfl⟩:=r; rfl
 | flt _=>obtain ⟨t,rfl⟩:=r; rfl
 | ref _=>cases r; rfl
 | ty _=>cases r; rfl
theorem Z0.inj {x y:V} {u:Value} (r:Z0 x u) (q:Z0 y u):x=y:=Option.some.inj (r.abs.symm.trans q.abs)
theorem zR.inj:∀ {xs ys:List V} {us:List Value},zR xs us->zR ys us->xs=ys
 | _,_,_, .nil, .nil=>rfl
 | _,_,_, .cons r t, .cons r' t' =>by rw [r.inj r',zR.inj t t']
section
variable {X:Cx} {pins:List (Addr×Obj)} {σ:St} {H:Hp} {s:Shared} {a:Addr} {xs ys:List V}
theorem SqL.of {K:PySem.W.Frag} (h:H a=some (.lst xs)):SqL K H a xs:= .inl (.inl h)
theorem SqT.of {K:PySem.W.Frag} (h:H a=some (.tup xs)):SqT K H a xs:= .inl (.inl h)
theorem Inv.list (I:Inv X pins σ H s) (h:SqL X.K H a xs):∃ its:List Value,zR xs its/\PlainL s.heap a its.toArray/\xs.length<=sizeLine:=by
 rcases h with h | ⟨o,its,n,hk,hc,hd,hs,hz,r⟩
 ·obtain ⟨z,its,n,r,e⟩:=h.ok I.hok
  exact ⟨its,r,⟨_,n,e,rfl,rfl,rfl⟩,z⟩
 ·refine ⟨its.toList,r,⟨o,n,I.kIn a o hk,hc,hd,by simpa using hs⟩, ?_⟩
  have e:=r.length
  simp only [Array.length_toList] at e
  omega
theorem Inv.tuple (I:Inv X pins σ H s) (h:SqT X.K H a xs):∃ its:List Value,zR xs its/\IsTup s.heap a its.toArray/\xs.length<=sizeLine:=by
 rcases h with h | ⟨o,its,n,hk,hc,hs,hz,r⟩
 ·obtain ⟨z,its,r,p,_⟩:=h.ok I.hok
  exact ⟨its,r,p,z⟩
 ·refine ⟨its.toList,r,⟨o,I.kIn a o hk,hc,n,by simpa using hs⟩, ?_⟩
  have e:=r.length
  simp only [Array.length_toList] at e
  omega
theorem Inv.list_inj (I:Inv X pins σ H s) (h:SqL X.K H a xs) (h' :SqL X.K H a ys):xs=ys:=by
 obtain ⟨its,r,⟨o,n,e,_,_,d⟩,_⟩:=I.list h
 obtain ⟨its',r',⟨o',n',e',_,_,d'⟩,_⟩:=I.list h'
 rw [e] at e'; cases e'
 rw [d] at d'
 injection d' with d1 _
 have:its=its' :=by simpa using congrArg Array.toList d1
 subst this
 exact r.inj r'
theorem Inv.tuple_inj (I:Inv X pins σ H s) (h:SqT X.K H a xs) (h' :SqT X.K H a ys):xs=ys:=by
 obtain ⟨its,r,⟨o,e,_,n,d⟩,_⟩:=I.tuple h
 obtain ⟨its',r',⟨o',e',_,n',d'⟩,_⟩:=I.tuple h'
 rw [e] at e'; cases e'
 rw [d] at d'
 injection d' with d1 _
 have:its=its' :=by simpa using congrArg Array.toList d1
 subst this
 exact r.inj r'
end
abbrev Cx.wish (X:Cx) (E:Value->Shared->Prop):Cx:={ X with xe:=E }
abbrev Cx.nox (X:Cx):Cx:=X.wish fun _ _=>False
theorem Cx.Ok.wish {X:Cx} (ok:X.Ok) (E:Value->Shared->Prop):(X.wish E).Ok:=
 ⟨ok.mod,ok.kind,ok.glob,ok.blt,ok.above,ok.inj,ok.has,ok.cab,ok.hd,ok.frames,ok.stk,ok.exf,ok.bs,ok.bsz,ok.noex,ok.exfs,ok.funs,ok.frf⟩
theorem Cx.Ok.unwish {X:Cx} {E:Value->Shared->Prop} (ok:(X.wish E).Ok):X.Ok:=
 ⟨ok.mod,ok.kind,ok.glob,ok.blt,ok.above,ok.inj,ok.has,ok.cab,ok.hd,ok.frames,ok.stk,ok.exf,ok.bs,ok.bsz,ok.noex,ok.exfs,ok.funs,ok.frf⟩
section
variable {X:Cx} {pins:List (Addr×Obj)} {σ:St} {H:Hp} {s:Shared} {E:Value->Shared->Prop}
theorem Inv.wish (I:Inv X pins σ H s) (E:Value->Shared->Prop):Inv (X.wish E) pins σ H s:=⟨I.ok.wish E,I.os,I.bare,I.base,I.loc,I.cell,I.free,I.freeC,I.pin,I.hok,I.len⟩
theorem Inv.unwish (I:Inv (X.wish E) pins σ H s):Inv X pins σ H s:=⟨I.ok.unwish,I.os,I.bare,I.base,I.loc,I.cell,I.free,I.freeC,I.pin,I.hok,I.len⟩
theorem SP.unwish {D:Ub} {f:Flow} {s' :Shared} (h:SP (X.wish E) pins D f s'):SP X pins D f s' :=by
 cases f with
 | next=>obtain ⟨σ',H',I,q⟩:=h; exact ⟨σ',H',I.unwish,q⟩
 | brk=>obtain ⟨σ',H',I,q⟩:=h; exact ⟨σ',H',I.unwish,q⟩
 | cont=>obtain ⟨σ',H',I,q⟩:=h; exact ⟨σ',H',I.unwish,q⟩
 | ret u=>obtain ⟨v,σ',H',I,r,q⟩:=h; exact ⟨v,σ',H',I.unwish,r,q⟩
theorem PSs.nox {st:List Stmt} {t:TS} (h:PSs X.nox st t):PSs X st t:=fun pins s σ H D I hw=>
 wpAny_mono (h pins s σ H D (I.wish _) hw) (fun _ _ q=>q.unwish) fun _ _ z=>False.elim z
end
section
variable {X:Cx} {st:Stmt} {rest:List Stmt} {t u:TS} {e:Expr} {te:TE} {pos:Pos}
def QQ:TS:=fun D σ H=>D.nx σ H
def Vo (t u:TS):TS:=fun D σ H=>t { D with nx:=u D } σ H
theorem yy:PSs X [] QQ:=fun _ _ σ H _ I h=>wpAny_execs_nil ⟨σ,H,I,h⟩
theorem Ud (h1:PS X st t) (h2:PSs X rest u):PSs X (st :: rest) (Vo t u):=by
 intro pins s σ H D I h
 refine wpAny_execs_cons (thn (h1 pins s σ H { D with nx:=u D } I h) fun f s1 q=> ?_)
 cases f with
 | next=>
  obtain ⟨σ',H',I',q⟩:=q
  exact h2 pins s1 σ' H' D I' q
 | ret v=>exact q
 | brk=>exact q
 | cont=>exact q
theorem yz (h1:PS X st t):PSs X [st] t:=by
 intro pins s σ H D I h
 refine wpAny_execs_cons (thn (h1 pins s σ H D I h) fun f s1 q=> ?_)
 cases f with
 | next=>exact wpAny_execs_nil q
 | ret v=>exact q
 | brk=>exact q
 | cont=>exact q
theorem Inv.quiet {pins:List (Addr×Obj)} {σ:St} {H:Hp} {s:Shared} (I:Inv X pins σ H s):interactive X.env=false:=by simp [interactive,I.ok.kind]
def QR (te:TE):TS:=fun D σ H=>te σ H fun _ H1=>D.nx σ H1
theorem Wy (he:PE X e te) (hs:swapsWith e none pos.line X.env=pure false:=by rfl):PS X (.Expr e pos) (QR te):=by
 intro pins s σ H D I h
 exact wpAny_Expr_any (thn (he pins s σ H _ I h) fun v s1 ⟨x,H1,I1,r1,q1⟩=>⟨σ,H1,I1,q1⟩) I.quiet hs
def Vp (te:TE):TS:=fun D σ H=>te σ H D.rt
theorem qa (he:PE X e te):PS X (.Return (some e) pos) (Vp te):=by
 intro pins s σ H D I h
 exact wpAny_Return_some (thn (he pins s σ H _ I h) fun v s1 ⟨x,H1,I1,r1,q1⟩=>⟨x,σ,H1,I1,r1,q1⟩)
def Vq (c:TT) (t u:TS):TS:=fun D σ H=>c σ H fun b H1=>if b=true then t D σ H1 else u D σ H1
theorem QS {c:Expr} {a b:List Stmt} {tc:TT} (hc:PT X c tc) (ha:PSs X a t) (hb:PSs X b u):PS X (.If c a b pos) (Vq tc t u):=by
 intro pins s σ H D I h
 refine wpAny_If (thn (hc pins s σ H _ I h) fun d s1 ⟨H1,I1,q1⟩=> ?_)
 cases d with
 | true=>exact ha pins s1 σ H1 D I1 q1
 | false=>exact hb pins s1 σ H1 D I1 q1
end
abbrev TG:=V->St->Hp->(St->Hp->Prop)->Prop
abbrev TGs:=List V->St->Hp->(St->Hp->Prop)->Prop
def PG (X:Cx) (target:Expr) (t:TG):Prop:=
 ∀ (pins:List (Addr×Obj)) (s:Shared) (σ:St) (H:Hp) (v:V) (u:Value) (Q:St->Hp->Prop),Inv X pins σ H s->Z0 v u->t v σ H Q->
  wpAny (model X.prog X.w) X.A (assign target X.env u) (fun _ s' =>∃ σ' H',Inv X pins σ' H' s' /\Q σ' H') X.xe s
def PGs (X:Cx) (ts:List Expr) (t:TGs):Prop:=
 ∀ (pins:List (Addr×Obj)) (s:Shared) (σ:St) (H:Hp) (vs:List V) (us:List Value) (Q:St->Hp->Prop),Inv X pins σ H s->zR vs us->t vs σ H Q->
  wpAny (model X.prog X.w) X.A (assignInOrder ((assignEach ts X.env).map (·.2)) us) (fun _ s' =>∃ σ' H',Inv X pins σ' H' s' /\Q σ' H') X.xe s
section
variable {X:Cx} {pos:Pos}
def Ju (i:Nat):TG:=fun v σ H Q=>Q (σ.set i (some v)) H
theorem zw {i:Nat} {x:Str} (hN:X.N.Nodup) (hi:X.N[i]? =some x) (hx:Loc X.env.scope x) (hf:X.fn x=true\/X.env.scope.names.lookup x=some .local:=by first | exact .inl rfl | exact .inr rfl | assumption):PG X (.Name x pos) (Ju i):=by
 intro pins s σ H v u Q I r h
 exact wpAny_assign_Name (wD I hN hi hx r (fun s' I' =>⟨_,H,I',h⟩) hf)
def QT:TGs:=fun vs σ H Q=>vs=[]/\Q σ H
def Wz (t:TG) (u:TGs):TGs:=fun vs σ H Q=>∃ v r,vs=v :: r/\t v σ H fun σ' H' =>u r σ' H' Q
theorem jV:PGs X [] QT:=by
 intro pins s σ H vs us Q I r h
 obtain ⟨e,h⟩:=h
 subst e
 cases r
 exact assignInOrder_nil ⟨σ,H,I,h⟩
theorem Zm {e:Expr} {es:List Expr} {t:TG} {u:TGs} (h1:PG X e t) (h2:PGs X es u)
  (hs:(assignEach (e :: es) X.env).map (·.2)=assign e X.env :: (assignEach es X.env).map (·.2):=by rfl):PGs X (e :: es) (Wz t u):=by
 intro pins s σ H vs us Q I r h
 obtain ⟨v,vr,e1,h⟩:=h
 subst e1
 cases r with
 | cons r rr=>
  rw [hs]
  refine assignInOrder_cons (thn (h1 pins s σ H _ _ _ I r h) fun _ s1 ⟨σ1,H1,I1,q1⟩=> ?_)
  exact h2 pins s1 σ1 H1 _ _ Q I1 rr q1
def QU (K:PySem.W.Frag) (n:Nat) (t:TGs):TG:=fun v σ H Q=>∃ a xs,v= .ref a/\SqT K H a xs/\xs.length=n/\t xs σ H Q
theorem wE {es:List Expr} {k:Nat} {t:TGs} {n:Nat} (hc:X.calm=true) (h:PGs X es t)
  (hn:(assignEach es X.env).length=n:=by rfl) (hst:(assignEach es X.env).findIdx? (·.1)=none:=by rfl):PG X (.Tuple es k pos) (QU X.K n t):=by
 intro pins s σ H v u Q I r hw
 obtain ⟨a,xs,e1,hq,hl,hw⟩:=hw
 subst e1
 cases r
 obtain ⟨its,rv,ht,hz⟩:=I.tuple hq
 refine assign_Tuple_tuple (I.ok.hd hc) ht (by simp [hn,← hl,rv.length]) hst fun h' hx=> ?_
 have I1:Inv X pins σ H { s with heap:=h' }:=I.kept (t' :=s.toks) fun b o e=>hx b o (Nat.ne_of_lt (Heap.lt_size e)) e
 exact h pins _ σ H xs _ Q I1 (by simpa using rv) hw
def Vr (te:TE) (g:TG):TS:=fun D σ H=>te σ H fun x H1=>g x σ H1 D.nx
theorem US {i:Nat} {x:Str} {e:Expr} {te:TE} {pos' :Pos} (hN:X.N.Nodup) (hi:X.N[i]? =some x) (hx:Loc X.env.scope x) (he:PE X e te) (hs:swapsWith e (some (.Name x pos')) pos.line X.env=pure false:=by rfl) (hf:X.fn x=true\/X.env.scope.names.lookup x=some .local:=by first | exact .inl rfl | exact .inr rfl | assumption):
  PS X (.Assign [.Name x pos'] e pos) (Vr te (Ju i)):=by
 intro pins s σ H D I h
 refine wpAny_Assign_Name (thn (he pins s σ H _ I h) fun v s1 ⟨y,H1,I1,r1,q1⟩=> ?_) hs
 exact wD I1 hN hi hx r1 (fun s2 I2=>⟨_,H1,I2,q1⟩) hf
end
section
variable {X:Cx} {pos:Pos}
end
structure It where
 go:Nat->Hp->Prop
 yld:Nat->Hp->V->Hp->Prop
 stop:Nat->Hp->Prop
def wd (X:Cx) (pins:List (Addr×Obj)) (H:Hp) (b:Addr):Prop:=
 H b=none/\b ≠ X.env.locals/\b ∉ X.fs/\(b∈X.ex\/X.s₀.heap.objs.size<=b)/\(∀ x c,X.env.cells.lookup x=some c->c ≠ b)/\∀ p∈X.pn++pins,p.1 ≠ b
theorem Inv.fpOk {X:Cx} {pins:List (Addr×Obj)} {σ:St} {H H' :Hp} {s:Shared} {b:Addr} (I:Inv X pins σ H s) (hb:s.heap.objs.size<=b) (hn:H' b=none):wd X pins H' b:=by
 refine ⟨hn,Nat.ne_of_gt (Nat.lt_of_lt_of_le I.lt hb),I.nofs hb, .inr (Nat.le_trans I.sz hb),fun x c e z=> ?_,fun p hp z=> ?_⟩
 ·obtain ⟨v,q⟩:=I.cell x c e
  exact absurd (Nat.lt_of_lt_of_le q.lt (by rw [z]; exact hb)) (Nat.lt_irrefl _)
 ·exact absurd (Nat.lt_of_lt_of_le (Heap.lt_size (I.pin p hp).1) (by rw [z]; exact hb)) (Nat.lt_irrefl _)
structure Ue (P:Program) (w:World) (K:PySem.W.Frag) (tg:Expr) (J:It) (fp:List Addr) (it:Addr) (tn:Nat->Heap->Prop):Prop where
 mem:it∈fp
 obj:∀ i h,tn i h->∀ b∈fp,∃ o,h.get? b=some o/\∀ v,o.data ≠ .cell v
 keep:∀ i h h',tn i h->(∀ b∈fp,∀ o,h.get? b=some o->h'.get? b=some o)->tn i h'
 item:∀ (X:Cx),X.prog=P->X.w=w->X.K=K->X.calm=true->∀ (i:Nat) (pins:List (Addr×Obj)) (s:Shared) (σ:St) (H:Hp) (E:Value->Shared->Prop),Inv X pins σ H s->(∀ b∈fp,wd X pins H b)->tn i s.heap->J.go i H->
  wpAny (model P w) X.A (pyNext (.ref it)) (fun r s1=>∃ u,r=some u/\
   wpAny (model P w) X.A (letOwnedTupleGo tg (.ref it) u) (fun _ s2=>∃ x H',Inv X pins σ H' s2/\Z0 x u/\J.yld i H x H' /\tn (i+1) s2.heap/\∀ b∈fp,H' b=none) E s1) E s
 done:∀ (X:Cx),X.prog=P->X.w=w->X.K=K->X.calm=true->∀ (i:Nat) (pins:List (Addr×Obj)) (s:Shared) (σ:St) (H:Hp) (E:Value->Shared->Prop),Inv X pins σ H s->(∀ b∈fp,wd X pins H b)->tn i s.heap->J.stop i H->
  wpAny (model P w) X.A (pyNext (.ref it)) (fun r s1=>r=none/\Inv X pins σ H s1) E s
 self:∀ (A:Around) (i:Nat) (s:Shared) (Q:Value->Shared->Prop) (E:Value->Shared->Prop),tn i s.heap->Q (.ref it) s->wpAny (model P w) A (pyIter (.ref it)) Q E s
abbrev TI:=St->Hp->(It->Hp->Prop)->Prop
def PIE (X:Cx) (pins:List (Addr×Obj)) (σ:St) (tg:Expr) (R:It->Hp->Prop) (itv:Value) (s2:Shared):Prop:=
 ∃ (it:Addr) (fp:List Addr) (tn:Nat->Heap->Prop) (J:It) (H' :Hp),itv= .ref it/\Inv X pins σ H' s2/\Ue X.prog X.w X.K tg J fp it tn/\tn 0 s2.heap/\(∀ b∈fp,wd X pins H' b)/\R J H'
def PI (X:Cx) (tg iter:Expr) (wi:TI):Prop:=
 ∀ (pins:List (Addr×Obj)) (s:Shared) (σ:St) (H:Hp) (R:It->Hp->Prop),Inv X pins σ H s->wi σ H R->
  wpAny (model X.prog X.w) X.A (eval iter X.env) (fun v s1=>wpAny (model X.prog X.w) X.A (pyIter v) (PIE X pins σ tg R) X.xe s1) X.xe s
theorem Uf {M:Model} {A:Around} {E:Value->Shared->Prop} {s:Shared} {tg:Expr} {it:Addr} {u:Value} {o:Obj} {n:String} {vs:Array Value} {Q:Unit->Shared->Prop} (ho:s.heap.get? it=some o) (hc:o.cls= .type n) (hd:o.data= .fields vs)
  (hn:["enumerate","zip","dict_itemiterator","dict_reverseitemiterator","odict_iterator","itertools.zip_longest","itertools.pairwise"].contains n=false) (hQ:Q () s):wpAny M A (letOwnedTupleGo tg (.ref it) u) Q E s:=by
 unfold letOwnedTupleGo
 cases tg <;> first
  | exact wpAny_pure hQ
  | (cases u <;> first
    | exact wpAny_pure hQ
    | (refine wpAny_bind (wpAny_load ho ?_); rw [hc,hd]; show wpAny M A (if (["enumerate","zip","dict_itemiterator","dict_reverseitemiterator","odict_iterator","itertools.zip_longest","itertools.pairwise"].contains n && vs[0]? == some (rawInt _))=true then _ else _) Q E s; rw [if_neg (by intro h; rw [hn,Bool.false_and] at h; cases h)]; exact wpAny_pure hQ))
def Itl (K:PySem.W.Frag) (a:Addr):It:=
 ⟨fun i H=>∃ xs x,SqL K H a xs/\xs[i]? =some x,fun i H x H' =>H' =H/\∀ xs,SqL K H a xs->xs[i]? =some x,fun i H=>∃ xs,SqL K H a xs/\xs.length<=i⟩
def Itt (K:PySem.W.Frag) (a:Addr):It:=
 ⟨fun i H=>∃ xs x,SqT K H a xs/\xs[i]? =some x,fun i H x H' =>H' =H/\∀ xs,SqT K H a xs->xs[i]? =some x,fun i H=>∃ xs,SqT K H a xs/\xs.length<=i⟩
def Itr (lo:Int) (n:Nat):It:=⟨fun i _=>i < n,fun i H x H' =>H' =H/\x= .int (lo+i),fun i _=>n<=i⟩
theorem WA {P:Program} {w:World} {K:PySem.W.Frag} {tg:Expr} (a it:Addr):Ue P w K tg (Itl K a) [it] it (fun i h=>h.IsListIter it a i) where
 mem:=by simp
 obj:=fun i h st b hb=>by
  have e:b=it:=by simpa using hb
  subst e
  obtain ⟨o,e,c,d⟩:=st
  exact ⟨o,e,fun v z=>by rw [d] at z; cases z⟩
 keep:=fun i h h' st k=>st.at fun o e=>k it (by simp) o e
 item:=by
  intro X hP hw hK hc i pins s σ H E I hf st hg
  subst hP hw hK
  obtain ⟨xs,x,hq,hx⟩:=hg
  obtain ⟨its,rv,p,hz⟩:=I.list hq
  obtain ⟨u,hu,ru⟩:=rv.get hx
  obtain ⟨f0,f1,f2,f3,f4,f5⟩:=hf it (by simp)
  refine wpAny_pyNext_list_item st p.isList (x:=u) (by simpa using hu) fun h' st' sb=> ?_
  have I1:Inv X pins σ H { s with heap:=h' }:=I.turned (t' :=s.toks) (fun b o hb e=>(sb.2 b hb).trans e) f0 f1 f3 f4 f5
  obtain ⟨o,e,c,d⟩:=id st'
  exact ⟨u,rfl,Uf (s:={ s with heap:=h' }) e c d (by decide) ⟨x,H,I1,ru,⟨rfl,fun ys hy=>by rw [I.list_inj hy hq]; exact hx⟩,st',fun b hb=>(hf b hb).1⟩⟩
 done:=by
  intro X hP hw hK hc i pins s σ H E I hf st hg
  subst hP hw hK
  obtain ⟨xs,hq,hx⟩:=hg
  obtain ⟨its,rv,p,hz⟩:=I.list hq
  obtain ⟨f0,f1,f2,f3,f4,f5⟩:=hf it (by simp)
  have hl:=rv.length
  exact wpAny_pyNext_list_end (I.ok.hd hc) st p.isList (by simp; omega) fun h' eb=>⟨rfl,I.turned (t' :=s.toks) (fun b o hb e=>eb b o hb e) f0 f1 f3 f4 f5⟩
 self:=fun _ _ _ _ _ st h=>wpAny_pyIter_listiter st h
theorem W7 {P:Program} {w:World} {K:PySem.W.Frag} {tg:Expr} (a it:Addr):Ue P w K tg (Itt K a) [it] it (fun i h=>h.IsTupleIter it a i) where
 mem:=by simp
 obj:=fun i h st b hb=>by
  have e:b=it:=by simpa using hb
  subst e
  obtain ⟨o,e,c,d⟩:=st
  exact ⟨o,e,fun v z=>by rw [d] at z; cases z⟩
 keep:=fun i h h' st k=>st.at fun o e=>k it (by simp) o e
 item:=by
  intro X hP hw hK hc i pins s σ H E I hf st hg
  subst hP hw hK
  obtain ⟨xs,x,hq,hx⟩:=hg
  obtain ⟨its,rv,p,hz⟩:=I.tuple hq
  obtain ⟨u,hu,ru⟩:=rv.get hx
  obtain ⟨f0,f1,f2,f3,f4,f5⟩:=hf it (by simp)
  refine wpAny_pyNext_tuple_item st (show s.heap.IsTuple a its.toArray from p) (x:=u) (by simpa using hu) fun h' st' sb=> ?_
  have I1:Inv X pins σ H { s with heap:=h' }:=I.turned (t' :=s.toks) (fun b o hb e=>(sb.2 b hb).trans e) f0 f1 f3 f4 f5
  obtain ⟨o,e,c,d⟩:=id st'
  exact ⟨u,rfl,Uf (s:={ s with heap:=h' }) e c d (by decide) ⟨x,H,I1,ru,⟨rfl,fun ys hy=>by rw [I.tuple_inj hy hq]; exact hx⟩,st',fun b hb=>(hf b hb).1⟩⟩
 done:=by
  intro X hP hw hK hc i pins s σ H E I hf st hg
  subst hP hw hK
  obtain ⟨xs,hq,hx⟩:=hg
  obtain ⟨its,rv,p,hz⟩:=I.tuple hq
  obtain ⟨f0,f1,f2,f3,f4,f5⟩:=hf it (by simp)
  have hl:=rv.length
  exact wpAny_pyNext_tuple_end (I.ok.hd hc) st (show s.heap.IsTuple a its.toArray from p) (by simp; omega) fun h' eb=>⟨rfl,I.turned (t' :=s.toks) (fun b o hb e=>eb b o hb e) f0 f1 f3 f4 f5⟩
 self:=fun _ _ _ _ _ st h=>wpAny_pyIter_tupleiter st h
theorem W8 {P:Program} {w:World} {K:PySem.W.Frag} {tg:Expr} (it:Addr) (lo:Int) (n:Nat):Ue P w K tg (Itr lo n) [it] it (fun i h=>IsRangeIter h it (lo+(i:Nat)*1) ((n:Int) - (i:Nat)) 1) where
 mem:=by simp
 obj:=fun i h st b hb=>by
  have e:b=it:=by simpa using hb
  subst e
  exact ⟨_,st,fun v z=>by
   have z' :Data.fields _=Data.cell v:=z
   cases z'⟩
 keep:=fun i h h' st k=>k it (by simp) _ st
 item:=by
  intro X hP hw hK hc i pins s σ H E I hf st hg
  subst hP hw hK
  obtain ⟨f0,f1,f2,f3,f4,f5⟩:=hf it (by simp)
  have W:=Walks.range (prog:=X.prog) (w:=X.w) (I.ok.hd hc) it lo 1 n
  refine W.item i s _ _ hg st fun v h' tk hv st' kk=> ?_
  obtain ⟨t,rfl⟩:=hv
  have I1:Inv X pins σ H { s with heap:=h',toks:=tk }:=I.turned (fun b o hb e=>kk b o (by simpa using hb) e) f0 f1 f3 f4 f5
  refine ⟨_,rfl,Uf (s:={ s with heap:=h',toks:=tk }) (n:="range_iterator") st' rfl rfl (by decide) ⟨.int (lo+i),H,I1,⟨t, ?_⟩,⟨rfl,rfl⟩,st',fun b hb=>(hf b hb).1⟩⟩
  rw [Int.mul_one]
 done:=by
  intro X hP hw hK hc i pins s σ H E I hf st hg
  subst hP hw hK
  obtain ⟨f0,f1,f2,f3,f4,f5⟩:=hf it (by simp)
  exact wpAny_pyNext_range_end (I.ok.hd hc) st (by have:n<=i:=hg; omega) fun h' eb=>⟨rfl,I.turned (t' :=s.toks) (fun b o hb e=>eb b o hb e) f0 f1 f3 f4 f5⟩
 self:=fun _ _ _ _ _ st h=>wpAny_pyIter_rangeiter st h
end L2
namespace L2
open PySem PySem.Spec PyProof.Rows
section
variable {X:Cx} {tg:Expr}
theorem wF {pins:List (Addr×Obj)} {σ:St} {H:Hp} {s:Shared} {R:It->Hp->Prop} {E:Value->Shared->Prop} {lo hi:Int} {t u v:Tok} {tk:Nat} (I:Inv X pins σ H s) (h1: -(2 ^ 62)<=lo) (h2:lo < 2 ^ 62) (h3: -(2 ^ 62)<=hi) (h4:hi < 2 ^ 62)
  (q:R (Itr lo (hi - lo).toNat) H):wpAny (model X.prog X.w) X.A (pyIter (.ref s.heap.objs.size)) (PIE X pins σ tg R) E { s with heap:=s.heap.push { cls:= .type "range",data:= .fields #[.int lo t, .int hi u, .int 1 v] },toks:=tk }:=by
 refine wpAny_pyIter_range (IsRange.new ..) (small_one h1 h2 h3 h4) ?_
 have I1:Inv X pins σ H { s with heap:=s.heap.push { cls:= .type "range",data:= .fields #[.int lo t, .int hi u, .int 1 v] },toks:=tk }:=I.kept fun b o e=>Heap.get?_push_of_some _ e
 refine ⟨(s.heap.push { cls:= .type "range",data:= .fields #[.int lo t, .int hi u, .int 1 v] }).objs.size,[(s.heap.push { cls:= .type "range",data:= .fields #[.int lo t, .int hi u, .int 1 v] }).objs.size],_,_,H,rfl,
  I1.kept (t' :=tk) fun b o e=>Heap.get?_push_of_some _ e,W8 _ lo (hi - lo).toNat, ?_,fun b hb=> ?_,q⟩
 ·have e1:lo+((0:Nat):Int)*1=lo:=by simp
  have e2:(((hi - lo).toNat:Nat):Int) - ((0:Nat):Int)=Builtin.Range.rangeSize lo hi 1:=by rw [rangeSize_one]; split <;> omega
  show IsRangeIter _ _ (lo+((0:Nat):Int)*1) ((((hi - lo).toNat:Nat):Int) - ((0:Nat):Int)) 1
  rw [e1,e2]
  exact Heap.get?_push_size _ rfl
 ·have e:b=(s.heap.push { cls:= .type "range",data:= .fields #[.int lo t, .int hi u, .int 1 v] }).objs.size:=by simpa using hb
  subst e
  exact I1.fpOk (Nat.le_refl _) (I1.hok.fresh (Nat.le_refl _))
def QV (ta:TA):TI:=fun σ H R=>ta σ H fun vs H1=>∃ j:Int,vs=[.int j]/\ -(2 ^ 62)<=j/\j < 2 ^ 62/\R (Itr 0 j.toNat) H1
def QW (ta:TA):TI:=fun σ H R=>ta σ H fun vs H1=>∃ i j:Int,vs=[.int i, .int j]/\(-(2 ^ 62)<=i/\i < 2 ^ 62/\ -(2 ^ 62)<=j/\j < 2 ^ 62)/\R (Itr i (j - i).toNat) H1
theorem WB {a:Expr} {ta:TA} {p pos:Pos} (hg:Gl X "range") (hm:X.mg "range"=none) (ha:PA X [a] ta) (hs:starEach [a] X.env=[(false,eval a X.env)]:=by rfl):PI X tg (.Call (.Name "range" p) [a] [] pos) (QV ta):=by
 intro pins s σ H R I h
 refine Call_ (jo I hg hm boot_range (PyProof.Rows.callWith_type1 (thn (ha pos pins s σ H _ I h) fun us s1 ⟨vs,H1,I1,r1,q1⟩=> ?_) hs rfl))
 obtain ⟨j,e,q1,q2,q⟩:=q1
 subst e
 cases r1 with
 | cons r rr=>
  cases rr
  obtain ⟨t,rfl⟩:=r
  exact call_range_1 (wF I1 (by omega) (by omega) q1 q2 (by simpa using q))
theorem WC {a b:Expr} {ta:TA} {p pos:Pos} (hg:Gl X "range") (hm:X.mg "range"=none) (ha:PA X [a,b] ta) (hs:starEach [a,b] X.env=[(false,eval a X.env),(false,eval b X.env)]:=by rfl) (hs2:starEach [b] X.env=[(false,eval b X.env)]:=by rfl):
  PI X tg (.Call (.Name "range" p) [a,b] [] pos) (QW ta):=by
 intro pins s σ H R I h
 refine Call_ (jo I hg hm boot_range (PyProof.Rows.callWith_type1 (thn (ha pos pins s σ H _ I h) fun us s1 ⟨vs,H1,I1,r1,q1⟩=> ?_) (by rw [hs,hs2]) (by rw [hs2]; rfl)))
 obtain ⟨i,j,e,⟨q1,q2,q3,q4⟩,q⟩:=q1
 subst e
 cases r1 with
 | cons r rr=>
  cases rr with
  | cons r' rr=>
   cases rr
   obtain ⟨t,rfl⟩:=r
   obtain ⟨t',rfl⟩:=r'
   exact call_range_2 (wF I1 q1 q2 q3 q4 q)
def Vs (wi:TI) (g:TG) (tb:TS):TS:=fun D σ H=>wi σ H fun J H1=>∃ W:Nat->Nat->St->Hp->Prop,(∃ m,W 0 m σ H1)/\∀ i m σ H,W i m σ H->
 (J.stop i H/\D.nx σ H)\/(J.go i H/\∃ N:St->Hp->Prop,(∀ σ' H',N σ' H' ->∃ m',m' < m/\W (i+1) m' σ' H')/\∀ x H',J.yld i H x H' ->g x σ H' fun σ2 H2=>tb { D with nx:=N,ct:=N,bk:=D.nx } σ2 H2)
def Jv (fp:List Addr) (h:Heap):List (Addr×Obj):=fp.filterMap fun b=>(h.get? b).map fun o=>(b,o)
theorem ZH {fp:List Addr} {h:Heap} {b:Addr} {o:Obj} (hb:b∈fp) (e:h.get? b=some o):(b,o)∈Jv fp h:=List.mem_filterMap.mpr ⟨b,hb,by rw [e]; rfl⟩
theorem WD {fp:List Addr} {h:Heap} {p:Addr×Obj} (hp:p∈Jv fp h):p.1∈fp/\h.get? p.1=some p.2:=by
 obtain ⟨b,hb,e⟩:=List.mem_filterMap.mp hp
 cases q:h.get? b with
 | none=>rw [q] at e; cases e
 | some o=>
  rw [q] at e
  have e' :(b,o)=p:=Option.some.inj e
  subst e'
  exact ⟨hb,q⟩
theorem Inv.pinned {pins:List (Addr×Obj)} {σ:St} {H:Hp} {s:Shared} {fp:List Addr} (I:Inv X pins σ H s) (hf:∀ b∈fp,wd X pins H b) (ho:∀ b∈fp,∃ o,s.heap.get? b=some o/\∀ v,o.data ≠ .cell v):Inv X (pins++Jv fp s.heap) σ H s:=
 I.pins_of fun p hp=>(List.mem_append.mp hp).elim (fun z=>I.pin p (List.mem_append_right _ z)) fun z=>by
  obtain ⟨hb,e⟩:=WD z
  obtain ⟨f0,f1,f2,_⟩:=hf p.1 hb
  obtain ⟨o,e',d⟩:=ho p.1 hb
  rw [e] at e'; cases e'
  exact ⟨e,f0,f1,f2,d⟩
theorem Inv.unpinned {pins pl:List (Addr×Obj)} {σ:St} {H:Hp} {s:Shared} (I:Inv X (pins++pl) σ H s):Inv X pins σ H s:=I.pins_of fun p hp=>I.pin p (List.mem_append_right _ (List.mem_append_left _ hp))
theorem qb {iter:Expr} {body:List Stmt} {wi:TI} {g:TG} {tb:TS} {pos:Pos} (hp:PassesOwn (model X.prog X.w) X.A X.env X.xe) (hc:X.calm=true) (hi:PI X tg iter wi) (hg:PG X tg g) (hb:PSs X body tb)
  (hs:∀ x,foldedSetIterable iter X.env x=pure x:=by intro _; rfl):PS X (.For tg iter body [] pos) (Vs wi g tb):=by
 intro pins s σ H D I h
 refine wpAny_For (thn (hi pins s σ H _ I h) fun v s1 h1=>thn h1 fun itv s2 h2=> ?_) hs
 obtain ⟨it,fp,tn,J,H2,e,I2,T,st2,f2,W,⟨m0,w0⟩,turn⟩:=h2
 subst e
 have stat:∀ {H' :Hp},(∀ b∈fp,H' b=none)->∀ b∈fp,wd X pins H' b:=fun hn b hb=>⟨hn b hb,(f2 b hb).2⟩
 refine codeAny_forLoop_any (fun n s' =>∃ i σ' H',Inv X pins σ' H' s' /\tn i s'.heap/\(∀ b∈fp,H' b=none)/\W i n σ' H') ?_ m0 ⟨0,σ,H2,I2,st2,fun b hb=>(f2 b hb).1,w0⟩
 rintro n s3 ⟨i,σ3,H3,I3,st3,fr3,w3⟩
 rcases turn i n σ3 H3 w3 with ⟨stop,qn⟩ | ⟨go,N,hN,step⟩
 ·refine wpAny_passesOwn hp (thn (T.done X rfl rfl rfl hc i pins s3 σ3 H3 X.xe I3 (stat fr3) st3 stop) fun r s4 ⟨hr,I4⟩=> ?_)
  subst hr
  exact wpAny_execs_nil ⟨σ3,H3,I4,qn⟩
 ·refine wpAny_passesOwn hp (thn (T.item X rfl rfl rfl hc i pins s3 σ3 H3 X.xe I3 (stat fr3) st3 go) fun r s4 ⟨u,hr,h4⟩=> ?_)
  subst hr
  refine wpAny_passesOwn hp (thn h4 fun _ s5 ⟨x,H5,I5,r5,y5,st5,fr5⟩=> ?_)
  have I5' :=I5.pinned (stat fr5) (T.obj _ _ st5)
  refine wpAny_passesOwn hp (thn (hg _ s5 σ3 H5 x u _ I5' r5 (step x H5 y5)) fun _ s6 ⟨σ6,H6,I6,q6⟩=> ?_)
  refine wpAny_passesOwn hp (thn (hb _ s6 σ6 H6 _ I6 q6) fun f s7 q7=> ?_)
  have again:∀ {σ7:St} {H7:Hp},Inv X (pins++Jv fp s5.heap) σ7 H7 s7->N σ7 H7->∃ m,m < n/\∃ i σ' H',Inv X pins σ' H' s7/\tn i s7.heap/\(∀ b∈fp,H' b=none)/\W i m σ' H' :=fun {σ7 H7} I7 n7=>by
   obtain ⟨m',hm,w7⟩:=hN σ7 H7 n7
   refine ⟨m',hm,i+1,σ7,H7,I7.unpinned,T.keep _ _ _ st5 fun b hb o e=>(I7.pin (b,o) (List.mem_append_right _ (List.mem_append_right _ (ZH hb e)))).1,fun b hb=> ?_,w7⟩
   obtain ⟨o,e,d⟩:=T.obj _ _ st5 b hb
   exact (I7.pin (b,o) (List.mem_append_right _ (List.mem_append_right _ (ZH hb e)))).2.1
  cases f with
  | next=>obtain ⟨σ7,H7,I7,n7⟩:=q7; exact again I7 n7
  | cont=>obtain ⟨σ7,H7,I7,n7⟩:=q7; exact again I7 n7
  | brk=>obtain ⟨σ7,H7,I7,q7⟩:=q7; exact ⟨σ7,H7,I7.unpinned,q7⟩
  | ret v=>obtain ⟨x7,σ7,H7,I7,r7,q7⟩:=q7; exact ⟨x7,σ7,H7,I7.unpinned,r7,q7⟩
end
end L2
namespace L2
open PySem PySem.Spec PyProof.Rows
abbrev R2:=V->V->Hp->VK->Prop
def OpR (X:Cx) (f:Value->Value->Sem Value) (r:R2):Prop:=
 ∀ (pins:List (Addr×Obj)) (s:Shared) (σ:St) (H:Hp) (x y:V) (v u:Value) (Q:VK),Inv X pins σ H s->Z0 x v->Z0 y u->r x y H Q->
  wpAny (model X.prog X.w) X.A (f v u) (EP X pins σ Q) X.xe s
def UnR (X:Cx) (f:Value->Sem Value) (r:V->Hp->VK->Prop):Prop:=
 ∀ (pins:List (Addr×Obj)) (s:Shared) (σ:St) (H:Hp) (x:V) (v:Value) (Q:VK),Inv X pins σ H s->Z0 x v->r x H Q->
  wpAny (model X.prog X.w) X.A (f v) (EP X pins σ Q) X.xe s
def Zt (X:Cx) (f:Value) (r:List V->Hp->VK->Prop):Prop:=
 ∀ (pins:List (Addr×Obj)) (s:Shared) (σ:St) (H:Hp) (xs:List V) (us:List Value) (Q:VK),Inv X pins σ H s->zR xs us->r xs H Q->
  wpAny (model X.prog X.w) X.A (call f us) (EP X pins σ Q) X.xe s
def Vt (X:Cx) (r:V->Hp->(Bool->Hp->Prop)->Prop):Prop:=
 ∀ (pins:List (Addr×Obj)) (s:Shared) (σ:St) (H:Hp) (x:V) (v:Value) (Q:Bool->Hp->Prop),Inv X pins σ H s->Z0 x v->r x H Q->
  wpAny (model X.prog X.w) X.A (truthy v) (TP X pins σ Q) X.xe s
def tOp (r:R2) (ta tb:TE):TE:=fun σ H Q=>ta σ H fun x H1=>tb σ H1 fun y H2=>r x y H2 Q
def tUn (r:V->Hp->VK->Prop) (ta:TE):TE:=fun σ H Q=>ta σ H fun x H1=>r x H1 Q
def rI (C:Int->Int->Prop) (g:Int->Int->V):R2:=fun x y H Q=>∃ i j,x= .int i/\y= .int j/\C i j/\Q (g i j) H
def rI0 (g:Int->Int->V):R2:=fun x y H Q=>∃ i j,x= .int i/\y= .int j/\Q (g i j) H
def rU (g:Int->V):V->Hp->VK->Prop:=fun x H Q=>∃ i,x= .int i/\Q (g i) H
section
variable {X:Cx} {a b c:Expr} {ta tb tc:TE} {pos:Pos}
theorem QX (ha:PE X a ta) (hb:PE X b tb) {pins:List (Addr×Obj)} {s:Shared} {σ:St} {H:Hp} {R:V->V->Hp->Prop} (I:Inv X pins σ H s)
  (h:ta σ H fun x H1=>tb σ H1 fun y H2=>R x y H2) {Q:Value->Shared->Prop} {f:Value->Value->Sem Value}
  (hf:∀ v u s2 x y H2,Inv X pins σ H2 s2->Z0 x v->Z0 y u->R x y H2->wpAny (model X.prog X.w) X.A (f v u) Q X.xe s2):
  wpAny (model X.prog X.w) X.A (eval a X.env) (fun v s₁=>wpAny (model X.prog X.w) X.A (eval b X.env) (fun u s₂=>wpAny (model X.prog X.w) X.A (f v u) Q X.xe s₂) X.xe s₁) X.xe s:=by
 refine thn (ha pins s σ H _ I h) fun v s1 ⟨x,H1,I1,r1,q1⟩=> ?_
 refine thn (hb pins s1 σ H1 _ I1 q1) fun u s2 ⟨y,H2,I2,r2,q2⟩=> ?_
 exact hf v u s2 x y H2 I2 r1 r2 q2
theorem QY {op:Operator} {r:R2} (ho:OpR X (binaryOp op) r) (ha:PE X a ta) (hb:PE X b tb):PE X (.BinOp a op b pos) (tOp r ta tb):=by
 intro pins s σ H Q I h
 exact wpAny_BinOp (QX ha hb I h fun v u s2 x y H2 I2 rx ry q=>ho pins s2 σ H2 x y v u Q I2 rx ry q)
theorem QZ {op:UnaryOp} {r:V->Hp->VK->Prop} (ho:UnR X (unaryOp op) r) (ha:PE X a ta):PE X (.UnaryOp op a pos) (tUn r ta):=by
 intro pins s σ H Q I h
 exact UnaryOp_ (thn (ha pins s σ H _ I h) fun v s1 ⟨x,H1,I1,r1,q1⟩=>ho pins s1 σ H1 x v Q I1 r1 q1)
theorem opI {f:Value->Value->Sem Value} {C:Int->Int->Prop} {g:Int->Int->Int}
  (rule:∀ (i j:Int) (t u:Tok) (s:Shared) (Q:Value->Shared->Prop) (E:Value->Shared->Prop),C i j->Q (.int (g i j) s.toks) { s with toks:=s.toks+1 }->wpAny (model X.prog X.w) X.A (f (.int i t) (.int j u)) Q E s):
  OpR X f (rI C fun i j=> .int (g i j)):=by
 intro pins s σ H x y v u Q I rx ry h
 obtain ⟨i,j,rfl,rfl,hc,q⟩:=h
 obtain ⟨t,rfl⟩:=rx
 obtain ⟨t',rfl⟩:=ry
 exact rule i j t t' s _ _ hc ⟨.int (g i j),H,I.tok _,⟨_,rfl⟩,q⟩
theorem vZ {f:Value->Value->Sem Value} {g:Int->Int->Int}
  (rule:∀ (i j:Int) (t u:Tok) (s:Shared) (Q:Value->Shared->Prop) (E:Value->Shared->Prop),Q (.int (g i j) s.toks) { s with toks:=s.toks+1 }->wpAny (model X.prog X.w) X.A (f (.int i t) (.int j u)) Q E s):
  OpR X f (rI0 fun i j=> .int (g i j)):=by
 intro pins s σ H x y v u Q I rx ry h
 obtain ⟨i,j,rfl,rfl,q⟩:=h
 obtain ⟨t,rfl⟩:=rx
 obtain ⟨t',rfl⟩:=ry
 exact rule i j t t' s _ _ ⟨.int (g i j),H,I.tok _,⟨_,rfl⟩,q⟩
theorem v6 {f:Value->Value->Sem Value} {g:Int->Int->Bool}
  (rule:∀ (i j:Int) (t u:Tok) (s:Shared) (Q:Value->Shared->Prop) (E:Value->Shared->Prop),Q (.bool (g i j)) s->wpAny (model X.prog X.w) X.A (f (.int i t) (.int j u)) Q E s):
  OpR X f (rI0 fun i j=> .bl (g i j)):=by
 intro pins s σ H x y v u Q I rx ry h
 obtain ⟨i,j,rfl,rfl,q⟩:=h
 obtain ⟨t,rfl⟩:=rx
 obtain ⟨t',rfl⟩:=ry
 exact rule i j t t' s _ _ ⟨.bl (g i j),H,I,rfl,q⟩
def Vu (i j:Int):Prop:=0 < j/\j < 1073741824
def Jp (i j:Int):Prop:=(-(2 ^ 64) < i/\i < 2 ^ 64)\/(-(2 ^ 64) < j/\j < 2 ^ 64)
theorem Jp.ok {i j:Int} (h:Jp i j):IntMulOk i j:=by
 rcases h with ⟨h1,h2⟩ | ⟨h1,h2⟩
 ·exact .of_left (intBits_le_64 h1 h2)
 ·exact .of_right (intBits_le_64 h1 h2)
theorem qc:OpR X (binaryOp .Add) (rI0 fun i j=> .int (i+j)):=vZ fun _ _ _ _ _ _ _ q=>add_int q
theorem qd:OpR X (binaryOp .Sub) (rI0 fun i j=> .int (i - j)):=vZ fun _ _ _ _ _ _ _ q=>sub_int q
theorem qe:OpR X (binaryOp .Mult) (rI Jp fun i j=> .int (i*j)):=opI fun _ _ _ _ _ _ _ hc q=>mul_int q hc.ok
theorem yA:OpR X (binaryOp .FloorDiv) (rI Vu fun i j=> .int (i / j)):=opI fun i j _ _ _ _ _ hc q=>by
 have h1:(0:Int) < j:=hc.1
 have h2:j < 1073741824:=hc.2
 exact floordiv_int (by omega) (by rw [Int.fdiv_eq_ediv_of_nonneg i (by omega)]; exact q) (.inl (PyProof.noPylong_small (by omega)))
theorem qf:OpR X (binaryOp .Mod) (rI (fun _ j=>0 < j) fun i j=> .int (i % j)):=opI fun i j _ _ _ _ _ hc q=>by
 have h1:(0:Int) < j:=hc
 exact mod_int' (by omega) (by rw [Int.fmod_eq_emod_of_nonneg i (by omega)]; exact q)
theorem unI {f:Value->Sem Value} {g:Int->Int}
  (rule:∀ (i:Int) (t:Tok) (s:Shared) (Q:Value->Shared->Prop) (E:Value->Shared->Prop),Q (.int (g i) s.toks) { s with toks:=s.toks+1 }->wpAny (model X.prog X.w) X.A (f (.int i t)) Q E s):
  UnR X f (rU fun i=> .int (g i)):=by
 intro pins s σ H x v Q I rx h
 obtain ⟨i,rfl,q⟩:=h
 obtain ⟨t,rfl⟩:=rx
 exact rule i t s _ _ ⟨.int (g i),H,I.tok _,⟨_,rfl⟩,q⟩
theorem qg:UnR X (unaryOp .USub) (rU fun i=> .int (-i)):=unI fun _ _ _ _ _ q=>neg_int q
theorem WF:OpR X (binaryOp .Add) (fun x y H Q=>∃ i k,x= .int i/\y= .bl k/\Q (.int (i+b2i k)) H):=by
 intro pins s σ H x y v u Q I rx ry h
 obtain ⟨i,k,rfl,rfl,q⟩:=h
 obtain ⟨t,rfl⟩:=rx
 cases ry
 exact add_int_bool ⟨.int (i+b2i k),H,I.tok _,⟨_,rfl⟩,q⟩
end
section
variable {X:Cx} {a b c:Expr} {ta tb tc:TE} {pos:Pos}
theorem v7:OpR X (compareOp .Lt) (rI0 fun i j=> .bl (decide (i < j))):=v6 fun _ _ _ _ _ _ _ q=>lt_int q
theorem v8:OpR X (compareOp .LtE) (rI0 fun i j=> .bl (decide (i<=j))):=v6 fun _ _ _ _ _ _ _ q=>le_int q
theorem v9:OpR X (compareOp .Gt) (rI0 fun i j=> .bl (decide (j < i))):=v6 fun _ _ _ _ _ _ _ q=>gt_int q
theorem zp (b:Expr) {op:CmpOp} (h:op ≠ .In:=by decide) (h2:op ≠ .NotIn:=by decide):behindInMarks op b=false:=by
 have e1:(op == CmpOp.In)=false:=by cases op <;> first | rfl | exact absurd rfl h
 have e2:(op == CmpOp.NotIn)=false:=by cases op <;> first | rfl | exact absurd rfl h2
 cases b <;> simp [behindInMarks,e1,e2]
theorem yB {op:CmpOp} {r:R2} (ho:OpR X (compareOp op) r) (ha:PE X a ta) (hb:PE X b tb) (hm:behindInMarks op b=false):PE X (.Compare a [op] [b] pos) (tOp r ta tb):=by
 intro pins s σ H Q I h
 exact wpAny_Compare1 (QX ha hb I h fun v u s2 x y H2 I2 rx ry q=>ho pins s2 σ H2 x y v u Q I2 rx ry q) hm
def qh (t:TE):TT:=fun σ H Q=>t σ H fun x H' =>∃ k,x= .bl k/\Q k H'
theorem yC {op:CmpOp} {r:R2} (ho:OpR X (compareOp op) r) (ha:PE X a ta) (hb:PE X b tb) (hm:behindInMarks op b=false):PT X (.Compare a [op] [b] pos) (qh (tOp r ta tb)):=by
 intro pins s σ H Q I h
 refine wpAny_isTrue_Compare1 (thn (ha pins s σ H _ I h) fun v s1 ⟨x,H1,I1,r1,q1⟩=>thn (hb pins s1 σ H1 _ I1 q1) fun u s2 ⟨y,H2,I2,r2,q2⟩=>
  thn (ho pins s2 σ H2 x y v u _ I2 r1 r2 q2) fun c s3 ⟨z,H3,I3,r3,k,e,q3⟩=> ?_) hm
 subst e
 cases r3
 exact wpAny_truthy_bool ⟨H3,I3,q3⟩
def UT (r r' :R2) (ta tb tc:TE):TE:=fun σ H Q=>ta σ H fun x H1=>tb σ H1 fun y H2=>r x y H2 fun z H3=>∃ k,z= .bl k/\
 (if k=true then tc σ H3 fun w' H4=>r' y w' H4 Q else Q (.bl false) H3)
theorem Ug {op op' :CmpOp} {r r' :R2} (ho:OpR X (compareOp op) r) (ho' :OpR X (compareOp op') r') (ha:PE X a ta) (hb:PE X b tb) (hc:PE X c tc)
  (hm:lastMarks [op,op'] [b,c]=false:=by with_unfolding_all rfl):PE X (.Compare a [op,op'] [b,c] pos) (UT r r' ta tb tc):=by
 intro pins s σ H Q I h
 refine Compare_chain (thn (ha pins s σ H _ I h) fun v s1 ⟨x,H1,I1,r1,q1⟩=>chain_link (thn (hb pins s1 σ H1 _ I1 q1) fun u s2 ⟨y,H2,I2,r2,q2⟩=>
  thn (ho pins s2 σ H2 x y v u _ I2 r1 r2 q2) fun d s3 ⟨z,H3,I3,r3,k,e,q3⟩=> ?_)) hm
 subst e
 cases r3
 refine wpAny_truthy_bool ?_
 cases k with
 | false=>exact ite_ff ⟨.bl false,H3,I3,rfl,q3⟩
 | true=>exact ite_tt (chain_last (thn (hc pins s3 σ H3 _ I3 q3) fun w' s4 ⟨z',H4,I4,r4,q4⟩=>ho' pins s4 σ H4 y z' u w' Q I4 r2 r4 q4))
theorem Uh {op op' :CmpOp} {r r' :R2} (ho:OpR X (compareOp op) r) (ho' :OpR X (compareOp op') r') (ha:PE X a ta) (hb:PE X b tb) (hc:PE X c tc)
  (hm:lastMarks [op,op'] [b,c]=false:=by with_unfolding_all rfl):PT X (.Compare a [op,op'] [b,c] pos) (qh (UT r r' ta tb tc)):=by
 intro pins s σ H Q I h
 refine isTrue_chain (thn (ha pins s σ H _ I h) fun v s1 ⟨x,H1,I1,r1,q1⟩=>test_link (thn (hb pins s1 σ H1 _ I1 q1) fun u s2 ⟨y,H2,I2,r2,q2⟩=>
  thn (ho pins s2 σ H2 x y v u _ I2 r1 r2 q2) fun d s3 ⟨z,H3,I3,r3,k,e,q3⟩=> ?_)) hm
 subst e
 cases r3
 refine wpAny_truthy_bool ?_
 cases k with
 | false=>
  obtain ⟨k',e',q'⟩:=q3
  cases e'
  exact ite_ff ⟨H3,I3,q'⟩
 | true=>
  refine ite_tt (test_last (thn (hc pins s3 σ H3 _ I3 q3) fun w' s4 ⟨z',H4,I4,r4,q4⟩=>thn (ho' pins s4 σ H4 y z' u w' _ I4 r2 r4 q4) fun d' s5 ⟨z2,H5,I5,r5,k2,e2,q5⟩=> ?_))
  subst e2
  cases r5
  exact wpAny_truthy_bool ⟨H5,I5,q5⟩
def V0 (K:PySem.W.Frag) (x:V) (H:Hp) (k:Bool):Prop:=
 match x with
 | .non=>k=false
 | .bl b=>k=b
 | .int i=>k=(i != 0)
 | .str y=>y.length<=sizeLine/\k=((y.length:Int) != 0)
 | .byt y=>y.size<=sizeLine/\k=((y.size:Int) != 0)
 | .ref p=>(∃ xs,SqL K H p xs/\k= !xs.isEmpty)\/(∃ xs,SqT K H p xs/\k= !xs.isEmpty)\/∃ kvs,H p=some (.dK kvs)/\k= !kvs.isEmpty
 | _=>False
theorem W9 {κ:Type} {kvs:List (κ×V)} {vs:List (κ×Value)} (r:KV kvs vs):(!vs.isEmpty)= !kvs.isEmpty:=by
 cases r <;> rfl
theorem jN {xs:List V} {its:List Value} (r:zR xs its):(!its.toArray.isEmpty)= !xs.isEmpty:=by
 cases r <;> simp
theorem jO:(sizeLine:Nat) < 2 ^ 63:=by rw [sizeLine_eq]; decide
theorem qi:Vt X (fun x H Q=>∃ k,V0 X.K x H k/\Q k H):=by
 intro pins s σ H x v Q I rx h
 obtain ⟨k,e,q⟩:=h
 have hl:=jO
 have hs:sizeLine=16777216:=sizeLine_eq
 cases x with
 | non=>
  cases rx
  have e' :k=false:=e
  subst e'
  exact truthy_none ⟨H,I,q⟩
 | bl b=>
  cases rx
  have e' :k=b:=e
  subst e'
  exact wpAny_truthy_bool ⟨H,I,q⟩
 | int i=>
  obtain ⟨t,rfl⟩:=rx
  have e' :k=(i != 0):=e
  subst e'
  exact PySem.P.truthy_int ⟨H,I,q⟩
 | str y=>
  obtain ⟨t,rfl⟩:=rx
  obtain ⟨hy,e'⟩:y.length<=sizeLine/\k=((y.length:Int) != 0):=e
  subst e'
  exact PySem.P.truthy_str (by omega) ⟨H,I.tok _,q⟩
 | byt y=>
  obtain ⟨t,rfl⟩:=rx
  obtain ⟨hy,e'⟩:y.size<=sizeLine/\k=((y.size:Int) != 0):=e
  subst e'
  exact PySem.W.truthy_bytes (by omega) ⟨H,I.tok _,q⟩
 | ref p=>
  cases rx
  have e' :(∃ xs,SqL X.K H p xs/\k= !xs.isEmpty)\/(∃ xs,SqT X.K H p xs/\k= !xs.isEmpty)\/∃ kvs,H p=some (.dK kvs)/\k= !kvs.isEmpty:=e
  rcases e' with ⟨xs,hx,e'⟩ | ⟨xs,hx,e'⟩ | ⟨kvs,hx,e'⟩
  ·subst e'
   obtain ⟨its,r,pl,hz⟩:=I.list hx
   have hlen:=r.length
   exact wpAny_truthy_list pl.isList (by simp only [List.size_toArray]; omega) ⟨H,I.tok _,by rw [jN r]; exact q⟩
  ·subst e'
   obtain ⟨its,r,pl,hz⟩:=I.tuple hx
   have hlen:=r.length
   exact truthy_tuple pl (by simp only [List.size_toArray]; omega) ⟨H,I.tok _,by rw [jN r]; exact q⟩
  ·subst e'
   obtain ⟨hz,hS,vs,r,m⟩:kvs.length<=sizeLine/\(p == sysModules)=false/\∃ vs,KV kvs vs/\s.heap.DictOf (wc X.prog X.w) p vs:=I.hok p _ hx
   have hlen:kvs.length=vs.length:=Paired.length r
   exact wpAny_truthy_dict hS m (by omega) ⟨H,I.tok _,by rw [W9 r]; exact q⟩
 | _=>exact (show False from e).elim
theorem Ui (ha:PE X a ta) (he:∀ whole,isTrue a X.env whole=(do let v ← whole; standAt a.pos; holding [v] (truthy v))):
  PT X a (fun σ H Q=>ta σ H fun x H' =>∃ k,V0 X.K x H' k/\Q k H'):=by
 intro pins s σ H Q I h
 exact isTrue_plain (thn (ha pins s σ H _ I h) fun v s1 ⟨x,H1,I1,r1,q1⟩=>qi pins s1 σ H1 x v Q I1 r1 q1) (he _)
theorem Wa:OpR X (binaryOp .Add) (fun x y H Q=>∃ i j,x= .str i/\y= .str j/\i.length+j.length<=sizeLine/\Q (.str (i++j)) H):=by
 intro pins s σ H x y v u Q I rx ry h
 obtain ⟨i,j,rfl,rfl,hz,q⟩:=h
 obtain ⟨t,rfl⟩:=rx
 obtain ⟨t',rfl⟩:=ry
 exact add_str (fun t' tk=>⟨.str (i++j),H,I.tok _,⟨_,rfl⟩,q⟩) hz
theorem Zz {x:V} {us:List Value} (r:zR [x] us):∃ u,us=[u]/\Z0 x u:=by
 cases r with
 | cons r1 r2=>cases r2; exact ⟨_,rfl,r1⟩
theorem yD {x y:V} {us:List Value} (r:zR [x,y] us):∃ u w',us=[u,w']/\Z0 x u/\Z0 y w' :=by
 cases r with
 | cons r1 r2=>
  cases r2 with
  | cons r3 r4=>cases r4; exact ⟨_,_,rfl,r1,r3⟩
theorem WG (hc:X.calm=true):Zt X (.builtin "min") (fun xs H Q=>∃ i j,xs=[.int i, .int j]/\Q (.int (if j < i then j else i)) H):=by
 intro pins s σ H xs us Q I r h
 obtain ⟨i,j,rfl,q⟩:=h
 obtain ⟨u,w',rfl,⟨t,rfl⟩,⟨t',rfl⟩⟩:=yD r
 refine min_two_ints (I.ok.hd hc) fun h' tk k=>⟨_,H,I.kept k, ?_,q⟩
 by_cases hj:j < i
 ·rw [if_pos hj,if_pos hj]; exact ⟨_,rfl⟩
 ·rw [if_neg hj,if_neg hj]; exact ⟨_,rfl⟩
end
end L2
namespace L2
open PySem PySem.Spec PyProof.Rows
structure va (h:Heap) (x dx C:Addr) (mA:Str->Option Value):Prop where
 obj:h.get? x=some (PySem.W.instObj C dx)
 ns:h.Ns1 dx mA
 ne:dx ≠ x
theorem WH {h:Heap} {dx:Addr} {mA:Str->Option Value} (n:h.Ns1 dx mA):∃ od,h.get? dx=some od/\∀ name,PySem.W.lookIn name od=some (mA name):=by
 obtain ⟨o,es,ep,ho,hd,hk,_,hm⟩:=n
 refine ⟨o,ho,fun name=> ?_⟩
 have e:=hm name
 unfold nsFind findBy at e
 rw [← Array.find?_toList] at e
 unfold PySem.W.lookIn
 rw [hd]
 dsimp only
 split
 ·rename_i y q
  rw [q] at e
  exact congrArg some e
 ·rename_i q
  rw [q] at e
  have a:es.toList.any (·.refKey)=false:=by
   rw [List.any_eq_false]
   intro y hy
   obtain ⟨z,t,hkey⟩:=hk y (Array.mem_toList_iff.mp hy)
   simp [DictEntry.refKey,hkey]
  have a' :¬ es.toList.any (·.refKey)=true:=by rw [a]; exact Bool.false_ne_true
  rw [if_neg a']
  exact congrArg some e
theorem va.look {h:Heap} {x dx C:Addr} {mA:Str->Option Value} (I:va h x dx C mA):∃ od,PySem.W.InstAt h x (PySem.W.instObj C dx) C (some od)/\∀ name,PySem.W.lookIn name od=some (mA name):=
 let ⟨od,ho,hl⟩:=WH I.ns
 ⟨od,⟨I.obj,rfl,rfl,ho⟩,hl⟩
section
variable {prog:Program} {w:World} {A:Around} {E:Value->Shared->Prop} {s:Shared} {K:PySem.W.Frag} {x dx C f:Addr} {mA:Str->Option Value} {name:Str} {v:Value}
end
section
variable {P:Program} {w:World} {H H' :Hp} {h h' :Heap} {a C dx:Addr} {fs fs' :List (Str×V)}
theorem yE (hok:HOk P w H h) (e:H a=some (.ins C dx fs)):∃ mA,va h a dx C mA/\(∀ f,QL (fs.lookup f) (mA f))/\PySem.Within mA (fs.map (·.1))/\fs.length<=1000/\H dx=some (.own a):=by
 obtain ⟨d,z,ne,ob,mA,n,r,q⟩:=(show Zk P w H h a (.ins C dx fs) from hok a _ e)
 exact ⟨mA,⟨ob,n,ne⟩,r,q,z,d⟩
end
structure Cls (K:PySem.W.Frag) (C:Addr):Prop where
 pg:PySem.W.plainGet K C Str.empty=true
 hd:PySem.W.hasDictIn K C=true
 po:PySem.W.plainOver K C=true
 sa:PySem.W.findIn K (.ref C) "__setattr__"=some (some (.builtin "object.__setattr__"))
theorem Cls.get {K:PySem.W.Frag} {C:Addr} (c:Cls K C) (f:Str):PySem.W.plainGet K C f=true:=c.pg
section
variable {X:Cx} {pins:List (Addr×Obj)} {σ:St} {H:Hp} {s:Shared} {a C dx:Addr} {fs:List (Str×V)} {f:Str} {v:V} {A:Around} {E:Value->Shared->Prop}
end
section
variable {X:Cx} {o e value:Expr} {f:Str} {pos pos' tpos:Pos} {ta tv:TE}
end
section
variable {X:Cx} {pins:List (Addr×Obj)} {σ:St} {H:Hp} {s:Shared} {A:Around} {E:Value->Shared->Prop} {Q:Value->Shared->Prop} {c:Value} {b:Bool}
inductive Wb (K:PySem.W.Frag) (H:Hp):V->Value->Prop where
 | non:Wb K H .non (.type "NoneType")
 | bl (x:Bool):Wb K H (.bl x) (.type "bool")
 | int (i:Int):Wb K H (.int i) (.type "int")
 | str (x:Str):Wb K H (.str x) (.type "str")
 | flt (x:UInt64):Wb K H (.flt x) (.type "float")
 | lst {a:Addr} {xs:List V} (e:H a=some (.lst xs)):Wb K H (.ref a) (.type "list")
 | frz {a:Addr} {o:Obj} {xs:List V} (e:H a=some (.frz o (.lst xs))):Wb K H (.ref a) (.type "list")
 | tup {a:Addr} {xs:List V} (e:H a=some (.tup xs)):Wb K H (.ref a) (.type "tuple")
 | dK {a:Addr} {kvs:List (Key×V)} (e:H a=some (.dK kvs)):Wb K H (.ref a) (.type "dict")
 | dT {a:Addr} {kvs:List (List Key×V)} (e:H a=some (.dT kvs)):Wb K H (.ref a) (.type "dict")
 | ins {a C dx:Addr} {fs:List (Str×V)} (e:H a=some (.ins C dx fs)) (cl:Cls K C) (ha:PySem.W.findIn K (.ref C) "__class__"=some (some (.builtin "object.__class__")))
   (hn:PySem.W.specialIn K (.builtin "object.__class__") "__get__"=some (some (.builtin "getset_descriptor.__get__"))) (htk:PySem.W.takesIn K (.builtin "object.__class__")=some true)
   (hm:PySem.W.mroIn K C (.type "object")=some true):Wb K H (.ref a) (.ref C)
theorem WI {x:V} {u t:Value} (I:Inv X pins σ H s) (rx:Z0 x u) (ty:Wb X.K H x t) (e:PySem.W.kitOne X.K t c=some b) (h:∀ tk,Q (.bool b) { s with toks:=tk }):
  wpAny (model X.prog X.w) A (call (.builtin "isinstance") [u,c]) Q E s:=by
 cases ty with
 | non=>cases (show u=Value.none from rx); exact PySem.W.kia_one PySem.W.kitx_none I.kIn True.intro e (fun z=>nomatch z) h
 | bl y=>cases (show u=Value.bool y from rx); exact PySem.W.kia_one PySem.W.kitx_bool I.kIn True.intro e (fun z=>nomatch z) h
 | int i=>obtain ⟨t,q⟩:=(show ∃ t,u=Value.int i t from rx); cases q; exact PySem.W.kia_one PySem.W.kitx_int I.kIn True.intro e (fun z=>nomatch z) h
 | str y=>obtain ⟨t,q⟩:=(show ∃ t,u=Value.str y t from rx); cases q; exact PySem.W.kia_one PySem.W.kitx_str I.kIn True.intro e (fun z=>nomatch z) h
 | flt y=>obtain ⟨t,q⟩:=(show ∃ t,u=Value.float y t from rx); cases q; exact PySem.W.kia_one PySem.W.kitx_float I.kIn True.intro e (fun z=>nomatch z) h
 | @lst a xs ea=>
  cases (show u=Value.ref a from rx)
  obtain ⟨_,_,n,_,h1⟩:=(show Zk X.prog X.w H s.heap a (.lst xs) from I.hok a _ ea)
  exact PySem.W.kia_one PySem.W.kitx_list I.kIn ⟨_,h1,rfl⟩ e (fun z=>nomatch z) h
 | @frz a ob xs ea=>
  cases (show u=Value.ref a from rx)
  obtain ⟨_,_,_,n,_,h1⟩:=(show Zk X.prog X.w H s.heap a (.frz ob (.lst xs)) from I.hok a _ ea)
  exact PySem.W.kia_one PySem.W.kitx_list I.kIn ⟨_,h1,rfl⟩ e (fun z=>nomatch z) h
 | @tup a xs ea=>
  cases (show u=Value.ref a from rx)
  obtain ⟨_,_,_,p,_⟩:=(show Zk X.prog X.w H s.heap a (.tup xs) from I.hok a _ ea)
  obtain ⟨o,h1,h2,_⟩:=p
  exact PySem.W.kia_one PySem.W.kitx_tuple I.kIn ⟨o,h1,h2⟩ e (fun z=>nomatch z) h
 | @dK a kvs ea=>
  cases (show u=Value.ref a from rx)
  obtain ⟨_,_,vs,_,p⟩:=(show Zk X.prog X.w H s.heap a (.dK kvs) from I.hok a _ ea)
  obtain ⟨o,es,ep,h1,h2,_⟩:=p
  exact PySem.W.kia_one PySem.W.kitx_dict I.kIn ⟨o,h1,h2.1⟩ e (fun z=>nomatch z) h
 | @dT a kvs ea=>
  cases (show u=Value.ref a from rx)
  obtain ⟨_,_,xs,_,o,es,ep,h1,h2,_⟩:=(show Zk X.prog X.w H s.heap a (.dT kvs) from I.hok a _ ea)
  exact PySem.W.kia_one PySem.W.kitx_dict I.kIn ⟨o,h1,h2.1⟩ e (fun z=>nomatch z) h
 | @ins a C dx fs ea cl ha hn htk hm=>
  cases (show u=Value.ref a from rx)
  obtain ⟨mA,O,_⟩:=yE I.hok ea
  obtain ⟨od,J,_⟩:=O.look
  exact PySem.W.kia_one (PySem.W.kitx_own (cl.get _) cl.hd ha hn htk hm) I.kIn J e (fun z=>nomatch z) h
end
end L2
namespace L2
open PySem PySem.Spec PyProof.Rows
structure jI (k:Nat) (A:Around):Prop where
 hd:A.handled=none
 dp:A.depth+3*k+5 < recursionLimit
 un:A.units+16*k+200 < cLine
theorem jI.mono {j k:Nat} {A:Around} (r:jI k A) (h:j<=k):jI j A:=⟨r.hd,by have:=r.dp; omega,by have:=r.un; omega⟩
theorem jI.deeper {k:Nat} {A:Around} (r:jI (k+1) A) (env:Env):jI k (A.deeper env):=
 ⟨r.hd,by have:=r.dp; show A.depth+1+3*k+5 < _; omega,by have:=r.un; show A.units+3+16*k+200 < _; omega⟩
theorem jI.depth {k:Nat} {A:Around} (r:jI k A):A.depth < recursionLimit:=by have:=r.dp; omega
theorem jI.units {k:Nat} {A:Around} (r:jI k A):A.units+64 < cLine:=by have:=r.un; omega
def Vv:TA:=fun _ H Q=>Q [] H
def vb (ta:TE) (tr:TA):TA:=fun σ H Q=>ta σ H fun x H1=>tr σ H1 fun xs H2=>Q (x :: xs) H2
section
variable {X:Cx} {e:Expr} {es:List Expr} {te:TE} {t:TA} {pos:Pos}
theorem zU:PA X [] Vv:=fun _ _ _ _ H Q I h=>Calls.spliced_nil ⟨[],H,I, .nil,h⟩
theorem zu (ha:PE X e te) (hr:PA X es t) (hs:starEach (e :: es) X.env=(false,eval e X.env) :: starEach es X.env:=by rfl):PA X (e :: es) (vb te t):=by
 intro pos pins s σ H Q I h
 rw [hs]
 show wpAny _ _ (spliced ((false,eval e X.env) :: backTo pos (starEach es X.env))) _ _ s
 refine Calls.spliced_cons (thn (ha pins s σ H _ I h) fun u s1 ⟨x,H1,I1,r1,q1⟩=> ?_)
 exact thn (hr pos pins s1 σ H1 _ I1 q1) fun us s2 ⟨xs,H2,I2,r2,q2⟩=>⟨x :: xs,H2,I2, .cons r1 r2,q2⟩
def Vw (t:TA):TE:=fun σ H Q=>t σ H fun xs H1=>xs.length<=sizeLine/\∀ p,H1 p=none->Q (.ref p) (upd H1 p (.tup xs))
def Vx (t:TA):TE:=fun σ H Q=>t σ H fun xs H1=>xs.length<=sizeLine/\∀ p,H1 p=none->Q (.ref p) (upd H1 p (.lst xs))
theorem qj {x1} (h:PA X es t):PE X (.Tuple es x1 pos) (Vw t):=by
 intro pins s σ H Q I hq
 refine wpAny_Tuple_spliced (thn (h pos pins s σ H _ I hq) fun us s1 ⟨xs,H1,I1,r,z,q⟩=>⟨by rw [← r.length]; exact z, ?_⟩)
 have hf:H1 s1.heap.objs.size=none:=I1.hok.fresh (Nat.le_refl _)
 refine ⟨.ref s1.heap.objs.size,upd H1 s1.heap.objs.size (.tup xs),I1.laid (t' :=s1.toks) (fun b u e=>Heap.get?_push_of_some _ e) (Nat.le_refl _) ?_,rfl,q _ hf⟩
 exact ⟨z,us,r,⟨_,Heap.get?_push_size _ rfl,rfl,_,rfl⟩, .inr ⟨_,Heap.get?_push_size _ rfl,rfl⟩⟩
theorem UU (h:PA X es t):PE X (.List es pos) (Vx t):=by
 intro pins s σ H Q I hq
 refine wpAny_List_spliced (thn (h pos pins s σ H _ I hq) fun us s1 ⟨xs,H1,I1,r,z,q⟩=>⟨by rw [← r.length]; exact z, ?_⟩)
 have hf:H1 s1.heap.objs.size=none:=I1.hok.fresh (Nat.le_refl _)
 refine ⟨.ref s1.heap.objs.size,upd H1 s1.heap.objs.size (.lst xs),I1.laid (t' :=s1.toks) (fun b u e=>Heap.get?_push_of_some _ e) (Nat.le_refl _) ?_,rfl,q _ hf⟩
 exact ⟨z,us,0,r,Heap.get?_push_size _ rfl⟩
end
abbrev Sp:=List V->Hp->VK->XK->Prop
abbrev CXT:=List Env->Hp->Shared->XK->Value->Shared->Prop
structure Qw (P:Program) (w:World) (K:PySem.W.Frag) (mg:Str->Option Value) (base:Heap) (A:Around) (outer:List Env) (s:Shared) (H:Hp):Prop where
 frames:A.frames=some outer
 mod:Mod K mg base
 bs:∀ b o,base.get? b=some o->s.heap.get? b=some o/\H b=none
 bsz:base.objs.size<=s.heap.objs.size
 funs:s.heap.FunFrames base outer
 frf:∀ b∈frs outer,H b=none
 hok:HOk P w H s.heap
 bare:AllBare s.gens
def CE (outer:List Env) (P:Program) (w:World) (H:Hp) (s:Shared) (Q:VK) (u:Value) (s' :Shared):Prop:=
 ∃ v H',s'.os=s.os/\AllBare s'.gens/\Un (frs outer) [] H H' s.heap s'.heap/\HOk P w H' s'.heap/\Z0 v u/\Q v H'
def CR (CX:CXT) (outer:List Env) (P:Program) (w:World) (H:Hp) (s:Shared) (Q:VK) (E:XK) (r:Result) (s' :Shared):Prop:=
 match r with
 | .ok (.ret u)=>CE outer P w H s Q u s'
 | .ok _=>False
 | .error e=>CX outer H s E e s'
structure Zl (P:Program) (w:World) (K:PySem.W.Frag) (mg:Str->Option Value) (base:Heap) (CX:CXT) (k:Nat) (f:Addr) (fd:FuncData) (ps:List Str) (sp:Sp):Prop where
 len:∀ vs H Q E,sp vs H Q E->vs.length=ps.length
 run:∀ (A:Around) (outer:List Env) (s:Shared) (H:Hp) (args:Args) (us:List Value) (vs:List V) (Q:VK) (E:XK),jI k A->Qw P w K mg base A outer s H->BindsTo s fd args (ps.zip us)->zR vs us->sp vs H Q E->
  codeAny (model P w) A (.call (.ref f) args) (CR CX outer P w H s Q E) s
section
variable {X:Cx} {pins:List (Addr×Obj)} {σ:St} {H:Hp} {s s' :Shared}
theorem Inv.env0 (I:Inv X pins σ H s):Qw X.prog X.w X.K X.mg X.base X.A X.stack s H:=
 ⟨I.ok.frames,I.ok.mod,I.bs,Nat.le_trans I.ok.bsz I.sz,I.stack,I.stkFree,I.hok,I.bare⟩
theorem Inv.after {Q:VK} {u:Value} (I:Inv X pins σ H s) (h:CE X.stack X.prog X.w H s Q u s'):EP X pins σ Q u s' :=by
 obtain ⟨v,H',os,bare,un,hok,r,q⟩:=h
 obtain ⟨hh,g,d,t,os'⟩:=s'
 obtain rfl:os' =s.os:=os
 exact ⟨v,H',I.call (h' :=hh) (g' :=g) (d' :=d) (t' :=t) (ch:=[]) un hok bare (fun b z=>absurd z (by simp)),r,q⟩
end
def vc (sp:Sp) (dvs:List V) (E:XK) (t:TA):TE:=fun σ H Q=>t σ H fun vs H1=>sp (vs++dvs) H1 Q E
def Binds (K:PySem.W.Frag) (fd:FuncData) (ps:List Str) (ds:List Value):Prop:=
 ∀ (s:Shared) (us:List Value),K.In s.heap->(us++ds).length=ps.length->BindsTo s fd ⟨us,[]⟩ (ps.zip (us++ds))
theorem Binds.all {K:PySem.W.Frag} {fd:FuncData} {ps:List Str} (h:∀ us:List Value,us.length=ps.length->bindArgs fd ⟨us,[]⟩=pure (ps.zip us)):Binds K fd ps []:=fun s us _ hl=>by
 rw [List.append_nil] at hl ⊢
 exact .of_eq (h us hl)
def wG (CX:CXT) (X:Cx) (E:XK):Prop:=∀ (pins:List (Addr×Obj)) (σ:St) (H:Hp) (s:Shared) (e:Value) (s' :Shared),Inv X pins σ H s->CX X.stack H s E e s' ->X.xe e s'
section
variable {X:Cx} {CX:CXT} {k:Nat} {f C:Addr} {fd:FuncData} {ps:List Str} {sp:Sp} {dvs:List V} {ds:List Value} {E:XK} {x m:Str} {p pos apos:Pos} {e o:Expr} {es:List Expr} {ta:TE} {t:TA}
theorem qk {pins:List (Addr×Obj)} {σ:St} {H:Hp} {s:Shared} {Q:VK} {us:List Value} {vs:List V} (F:Zl X.prog X.w X.K X.mg X.base CX k f fd ps sp) (hr:jI k X.A) (hb:Binds X.K fd ps ds) (hd:zR dvs ds) (hx:wG CX X E)
  (I:Inv X pins σ H s) (r:zR vs us) (h:sp (vs++dvs) H Q E):wpAny (model X.prog X.w) X.A (call (.ref f) us) (EP X pins σ Q) X.xe s:=by
 have r2:zR (vs++dvs) (us++ds):=r.append hd
 have hl:(us++ds).length=ps.length:=by rw [← r2.length]; exact F.len _ _ _ _ h
 refine wpAny_call (codeAny_mono (F.run X.A X.stack s H ⟨us,[]⟩ (us++ds) (vs++dvs) Q E hr I.env0 (hb s us I.kIn hl) r2 h) fun r s' hq=> ?_)
 cases r with
 | error e=>exact hx pins σ H s e s' I hq
 | ok fl=>
  cases fl with
  | ret u=>exact I.after hq
  | next=>exact False.elim hq
  | brk=>exact False.elim hq
  | cont=>exact False.elim hq
theorem yF (F:Zl X.prog X.w X.K X.mg X.base CX k f fd ps sp) (hr:jI k X.A) (hg:Gl X x) (hm:X.mg x=some (.ref f)) (hk:PySem.W.keepIn X.K (.ref f)=true) (hb:Binds X.K fd ps ds) (hd:zR dvs ds) (hx:wG CX X E)
  (ha:PA X (e :: es) t) (hdb:(x == ("__debug__":Str))=false:=by decide) (he:starEach (e :: es) X.env=(false,eval e X.env) :: starEach es X.env:=by rfl) (hpl:(backTo pos (starEach es X.env)).any (·.1)=false:=by rfl):
  PE X (.Call (.Name x p) (e :: es) [] pos) (vc sp dvs E t):=by
 intro pins s σ H Q I h
 refine wpAny_Call_Name_kw (Wx I hg hm ?_ hdb)
 refine PySem.W.callWith_K (h₀:=X.base) I.ok.mod.kin hk (thn (ha pos pins s σ H _ I h) fun us s1 ⟨vs,H1,I1,r,q⟩=>⟨I1.kIn, ?_⟩) he hpl
 exact qk F hr hb hd hx I1 r q
end
section
variable {X:Cx} {CX:CXT} {k:Nat} {f C:Addr} {fd:FuncData} {ps ks:List Str} {sp:Sp} {E:XK} {x m:Str} {p pos apos kpos:Pos} {e o:Expr} {es:List Expr} {kws:List Keyword} {te ta:TE} {t tk:TA} {nm:Option Str}
variable {g:List Value->List Value->List Value} {gV:List V->List V->List V}
end
structure zi (N P:List Str) (sc:Scope):Prop where
 kind:sc.kind= .function
 co:sc.isCoroutine=false
 gen:sc.isGenerator=false
 nd:N.Nodup
 pre:N.take P.length=P
 par:∀ x∈P,sc.names.lookup x=some .local\/sc.names.lookup x=some .cell
 nofree:∀ y∈sc.names,y.2 ≠ .free
theorem Jw {kindOf:Str->Option NameKind} {x:Str}:∀ {binds:List (Str×Value)} {m:Str->Option Value},(∀ v,(x,v) ∉ binds)->bindL kindOf binds m x=m x
 | [],_,_=>rfl
 | (n,v) :: r,m,h=>by
  unfold bindL
  rw [Jw fun w hw=>h w (List.mem_cons_of_mem _ hw)]
  split
  ·have:x ≠ n:=by rintro rfl; exact h v List.mem_cons_self
   simp [this]
  ·rfl
theorem Jx {kindOf:Str->Option NameKind} {x:Str}:∀ {binds:List (Str×Value)} {m:Str->Option Value},(∀ v,(x,v) ∉ binds)->bindC kindOf binds m x=m x
 | [],_,_=>rfl
 | (n,v) :: r,m,h=>by
  unfold bindC
  rw [Jx fun w hw=>h w (List.mem_cons_of_mem _ hw)]
  split
  ·rfl
  ·have:x ≠ n:=by rintro rfl; exact h v List.mem_cons_self
   simp [this]
theorem Jy {kindOf:Str->Option NameKind} {x:Str} {v:Value}:∀ {P:List Str} {vs:List Value} {i:Nat} {m:Str->Option Value},P.Nodup->P[i]? =some x->vs[i]? =some v->kindOf x=some .local->
  bindL kindOf (P.zip vs) m x=some v
 | [],_,_,_,_,h,_,_=>by simp at h
 | _ :: _,[],_,_,_,_,h,_=>by simp at h
 | p :: P,w :: vs,0,m,nd,h1,h2,hk=>by
  simp at h1 h2; subst h1; subst h2
  show bindL kindOf ((p,w) :: P.zip vs) m p=_
  unfold bindL
  rw [Jw fun v hv=>(List.nodup_cons.mp nd).1 (List.of_mem_zip hv).1,if_pos hk]
  simp
 | p :: P,w :: vs,i+1,m,nd,h1,h2,hk=>by
  show bindL kindOf ((p,w) :: P.zip vs) m x=_
  unfold bindL
  exact Jy (i:=i) (List.nodup_cons.mp nd).2 (by simpa using h1) (by simpa using h2) hk
theorem Jz {kindOf:Str->Option NameKind} {x:Str} {v:Value}:∀ {P:List Str} {vs:List Value} {i:Nat} {m:Str->Option Value},P.Nodup->P[i]? =some x->vs[i]? =some v->kindOf x ≠ some .local->
  bindC kindOf (P.zip vs) m x=some v
 | [],_,_,_,_,h,_,_=>by simp at h
 | _ :: _,[],_,_,_,_,h,_=>by simp at h
 | p :: P,w :: vs,0,m,nd,h1,h2,hk=>by
  simp at h1 h2; subst h1; subst h2
  show bindC kindOf ((p,w) :: P.zip vs) m p=_
  unfold bindC
  rw [Jx fun v hv=>(List.nodup_cons.mp nd).1 (List.of_mem_zip hv).1,if_neg hk]
  simp
 | p :: P,w :: vs,i+1,m,nd,h1,h2,hk=>by
  show bindC kindOf ((p,w) :: P.zip vs) m x=_
  unfold bindC
  exact Jz (i:=i) (List.nodup_cons.mp nd).2 (by simpa using h1) (by simpa using h2) hk
def start (N:List Str) (vs:List V):St:=vs.map some++List.replicate (N.length - vs.length) none
def yG (CX:CXT) (P:Program) (w:World) (K:PySem.W.Frag) (mg:Str->Option Value) (base:Heap) (N:List Str) (qual:Str) (scope:Scope) (f:Addr) (cd:Value) (A:Around) (outer:List Env) (s:Shared) (H:Hp) (E:XK):Cx where
 prog:=P
 w:=w
 K:=K
 mg:=mg
 base:=base
 A:=A.deeper (envOfC qual scope s.heap.objs.size f cd)
 N:=N
 s₀:=s
 H₀:=H
 env:=envOfC qual scope s.heap.objs.size f cd
 outer:=outer
 stack:=envOfC qual scope s.heap.objs.size f cd :: outer
 ex:=[]
 calm:=true
 fn:=fun _=>true
 pn:=[]
 xe:=fun e s' =>wpAny (model P w) (A.deeper (envOfC qual scope s.heap.objs.size f cd)) (leaving (envOfC qual scope s.heap.objs.size f cd) e) (fun _ s'' =>CX outer H s E e s'') (fun e' s'' =>CX outer H s E e' s'') s'
theorem wH {sc:Scope} {n:Nat} {x:Str} (h:sc.names.lookup x=some .cell):∃ c,(cellsFrom n sc.names []).lookup x=some c:=by
 have q:=PySem.W.cellsFrom_some sc.names n [] (.inl h)
 exact Option.isSome_iff_exists.mp q
theorem WJ {CX:CXT} {P:Program} {w:World} {K:PySem.W.Frag} {mg:Str->Option Value} {base:Heap} {N ps:List Str} {qual:Str} {scope:Scope} {f:Addr} {cd:Value} {A:Around} {outer:List Env} {s s1:Shared} {H:Hp} {E:XK} {us:List Value} {vs:List V}
  (S:zi N ps scope) (hd:A.handled=none) (e0:Qw P w K mg base A outer s H) (hl:vs.length=ps.length) (r:zR vs us)
  (x:InCallC s s.heap.objs.size (bindL (envOfC qual scope s.heap.objs.size f cd).kindOf (ps.zip us) fun _=>none) (cellsFrom (s.heap.objs.size+1) scope.names []) (bindC (envOfC qual scope s.heap.objs.size f cd).kindOf (ps.zip us) fun _=>none) s1):
  Inv (yG CX P w K mg base N qual scope f cd A outer s H E) [] (start N vs) H s1:=by
 have hpl:ps.length<=N.length:=by have:=congrArg List.length S.pre; rw [List.length_take] at this; omega
 obtain ⟨h1,tk,rfl,hk⟩:=x.done
 have noA:∀ b:Addr,b ∉ (yG CX P w K mg base N qual scope f cd A outer s H E).ex:=fun b z=>absurd (show b∈([]:List Addr) from z) (by simp)
 refine ⟨⟨e0.mod,S.kind,rfl,rfl,Nat.le_refl _,fun y z c h1 h2=> ?_,fun y hy=> ?_,fun y c _ h=> ?_,fun _=>hd,Around.frames_deeper e0.frames, .inr ⟨rfl,rfl⟩,fun b z=>absurd z (noA b),e0.bs,e0.bsz,fun b _ _=>noA b,fun b z=>absurd z (noA b),e0.funs,e0.frf⟩,
  rfl,e0.bare,Un.kept hk,⟨_,x.toInCall.ns,fun i y v h1 h2 h3=> ?_⟩,fun y c h=>⟨_,x.cell y c h⟩,e0.hok.fresh (Nat.le_refl _),fun y c h=> ?_,fun p hp=>absurd (show p∈([]:List (Addr×Obj)) from hp) (by simp),e0.hok.kept hk, ?_⟩
 ·exact name_of_addr x.apart (PySem.mem_of_lookup h1) (PySem.mem_of_lookup h2)
 ·have hy:scope.names.lookup y=some .cell\/scope.names.lookup y=some .free:=hy
  rcases hy with hy | hy
  ·exact wH hy
  ·exact absurd rfl (S.nofree _ (PySem.mem_of_lookup hy))
 ·exact Nat.le_of_lt (x.above y c (PySem.mem_of_lookup h))
 ·have hi:i < vs.length:=by
   unfold start at h2
   by_cases hi:i < vs.length
   ·exact hi
   ·rw [List.getElem?_append_right (by simpa using hi)] at h2
    rw [List.getElem?_replicate] at h2
    split at h2 <;> cases h2
  have ha:vs[i]? =some v:=by
   unfold start at h2
   rw [List.getElem?_append_left (by simpa using hi),List.getElem?_map] at h2
   cases e:vs[i]? with
   | none=>rw [e] at h2; cases h2
   | some a=>rw [e] at h2; cases h2; rfl
  obtain ⟨u,hu,rv⟩:=r.get ha
  have hp:ps[i]? =some y:=by
   rw [← S.pre,List.getElem?_take_of_lt (by omega)]; exact h1
  have ndP:ps.Nodup:=by rw [← S.pre]; exact S.nd.sublist (List.take_sublist _ _)
  refine ⟨u,rv, ?_⟩
  rcases S.par y (List.mem_of_getElem? hp) with k | k
  ·exact .inl ⟨k,Jy ndP hp hu k⟩
  ·obtain ⟨c,e⟩:=wH (n:=s.heap.objs.size+1) k
   refine .inr ⟨.inl k,c,e, ?_⟩
   have q:=x.cell y c e
   rw [Jz ndP hp hu (by show scope.names.lookup y ≠ _; rw [k]; decide)] at q
   exact q
 ·exact e0.hok.fresh (Nat.le_of_lt (x.above y c (PySem.mem_of_lookup h)))
 ·unfold start
  show _=N.length
  rw [List.length_append,List.length_map,List.length_replicate]
  omega
theorem vd {CX:CXT} {P:Program} {w:World} {K:PySem.W.Frag} {mg:Str->Option Value} {base:Heap} {k:Nat} {f:Addr} {name qual:Str} {params:Arguments} {body:List Stmt} {scope:Scope} {dV kV doc pm cdv ct oc:Value} {an od:Option Addr}
  {osl:Array (Option Value)} {N ps:List Str} {sp:Sp} (lk:K.lookup f=some ⟨oc,od, .func (PySem.W.fnOf name qual params body scope dV kV doc pm an cdv ct),osl⟩) (hcd:PySem.W.codeIn K cdv qual=true) (S:zi N ps scope)
  (len:∀ vs H Q E,sp vs H Q E->vs.length=ps.length)
  (hbody:∀ (A:Around) (outer:List Env) (s:Shared) (H:Hp) (vs:List V) (Q:VK) (E:XK),jI k (A.deeper (envOfC qual scope s.heap.objs.size f cdv))->sp vs H Q E->
   ∃ t,PSs (yG CX P w K mg base N qual scope f cdv A outer s H E) body t/\t { nx:=fun _ H' =>Q .non H',rt:=Q } (start N vs) H):
  Zl P w K mg base CX (k+1) f (PySem.W.fnOf name qual params body scope dV kV doc pm an cdv ct) ps sp:=by
 refine ⟨len,fun A outer s H args us vs Q E hr e0 hb r hsp=> ?_⟩
 have hl:=len _ _ _ _ hsp
 have KX:K.In s.heap:=e0.mod.kin.keeps fun b o e=>(e0.bs b o e).1
 have lim:s.heap.NoLimit:=e0.mod.nolimit.keeps fun b o e=>(e0.bs b o e).1
 have hkind:∀ y∈ps.zip us,scope.names.lookup y.1=some .local\/(scope.names.lookup y.1=some .cell/\((cellsFrom (s.heap.objs.size+1) scope.names []).lookup y.1).isSome=true):=fun ⟨n,v⟩ hy=>by
  rcases S.par n (List.of_mem_zip hy).1 with q | q
  ·exact .inl q
  ·exact .inr ⟨q,PySem.W.cellsFrom_some _ _ _ (.inl q)⟩
 refine codeAny_call_function hr.depth (KX _ _ lk) rfl S.co S.gen rfl (PySem.W.codeRec_of KX hcd) (hb _ _ _ _ ?_)
 refine wpAny_newFunctionEnv_cells S.kind hkind fun env he s1 x=> ?_
 subst he
 refine ⟨lim.keeps x.toInCall.keep,codeAny_func ?_⟩
 obtain ⟨t,ht,hq⟩:=hbody A outer s H vs Q E (hr.deeper _) hsp
 have I:Inv (yG CX P w K mg base N qual scope f cdv A outer s H E) [] (start N vs) H s1:=WJ S hr.hd e0 hl r x
 refine wpAny_mono (ht [] s1 (start N vs) H _ I hq) (fun fl s' hs=> ?_) fun e s' hs=>hs
 have fin:∀ {σ' :St} {H' :Hp} {v:V} {u:Value},Inv (yG CX P w K mg base N qual scope f cdv A outer s H E) [] σ' H' s' ->Z0 v u->Q v H' ->CE outer P w H s Q u s' :=
  fun {σ' H' v u} J rv q=>⟨v,H',J.os,J.bare,J.base,J.hok,rv,q⟩
 cases fl with
 | ret u=>
  obtain ⟨v,σ',H',J,rv,q⟩:=hs
  exact fin J rv q
 | next=>
  obtain ⟨σ',H',J,q⟩:=hs
  exact fin (v:=V.non) (u:=Value.none) J rfl q
 | brk=>
  obtain ⟨_,_,_,q⟩:=hs
  exact False.elim q
 | cont=>
  obtain ⟨_,_,_,q⟩:=hs
  exact False.elim q
end L2
namespace L2
open PySem PySem.Spec PyProof.Rows
section
variable {X:Cx} {x:Str} {p pos:Pos} {e:Expr} {es:List Expr} {t:TA} {id T:String} {r:List V->Hp->VK->Prop}
def tCB (r:List V->Hp->VK->Prop) (t:TA):TE:=fun σ H Q=>t σ H fun vs H1=>r vs H1 Q
theorem jj (hc:Zt X (.builtin id) r) (hg:Gl X x) (hm:X.mg x=none) (hv:bootBuiltins x=some (.builtin id)) (ha:PA X (e :: es) t) (hn:x ≠ "__name__":=by decide) (hdb:(x == ("__debug__":Str))=false:=by decide)
  (he:starEach (e :: es) X.env=(false,eval e X.env) :: starEach es X.env:=by rfl) (hpl:(backTo pos (starEach es X.env)).any (·.1)=false:=by rfl):PE X (.Call (.Name x p) (e :: es) [] pos) (tCB r t):=by
 intro pins s σ H Q I h
 refine wpAny_Call_Name_kw (jo I hg hm hv ?_ hn hdb)
 exact PyProof.Rows.callWith_builtin1 (thn (ha pos pins s σ H _ I h) fun us s1 ⟨vs,H1,I1,r1,q1⟩=>hc pins s1 σ H1 vs us Q I1 r1 q1) he hpl
theorem JA (hc:Zt X (.type T) r) (hg:Gl X x) (hm:X.mg x=none) (hv:bootBuiltins x=some (.type T)) (ha:PA X (e :: es) t) (hn:x ≠ "__name__":=by decide) (hdb:(x == ("__debug__":Str))=false:=by decide)
  (he:starEach (e :: es) X.env=(false,eval e X.env) :: starEach es X.env:=by rfl) (hpl:(backTo pos (starEach es X.env)).any (·.1)=false:=by rfl):PE X (.Call (.Name x p) (e :: es) [] pos) (tCB r t):=by
 intro pins s σ H Q I h
 refine wpAny_Call_Name_kw (jo I hg hm hv ?_ hn hdb)
 exact PyProof.Rows.callWith_type1 (thn (ha pos pins s σ H _ I h) fun us s1 ⟨vs,H1,I1,r1,q1⟩=>hc pins s1 σ H1 vs us Q I1 r1 q1) he hpl
end
end L2
namespace HT
open PySem PyProof.Rows
section
open PySem.SeqAt
open PySem.AutoSeq1 (wpAny_loadPart')
open PySem.MeetsSeq PySem.MeetsSeq2 PySem.MeetsSeq3
end
section
variable {prog:Program} {w:World} {A:Around} {E:Value->Shared->Prop} {s:Shared}
theorem cat_tup {t b:Addr} {vs ws:List Value} {Q:Value->Shared->Prop} (ht:IsTup s.heap t vs.toArray) (hb:IsTup s.heap b ws.toArray) (hv:vs ≠ [])
  (h1:ws=[]->Q (.ref t) s) (h2:ws ≠ []->Q (.ref s.heap.objs.size) { s with heap:=s.heap.push { cls:= .type "tuple",data:= .seq (vs++ws).toArray } })
  (hsz:vs.length+ws.length<=sizeLine):wpAny (model prog w) A (binaryOp .Add (.ref t) (.ref b)) Q E s:=by
 obtain ⟨⟨cls,dd,data,sl⟩,ho,hc,n,hd⟩:=id ht
 obtain ⟨⟨cls2,dd2,data2,sl2⟩,ho2,hc2,n2,hd2⟩:=id hb
 simp only at hc hd hc2 hd2
 subst hc hd hc2 hd2
 have e:vs.toArray++ws.toArray=(vs++ws).toArray:=by simp
 by_cases hw:ws=[]
 ·exact concat_meets ⟨_,ho,rfl⟩ ⟨_,ho2,rfl⟩ noFill_tuple_add seq_tuple_add PySem.F.slot_tuple_add PySem.F.entry_tuple_add (PySem.F.args_tuple_add_2 _ _)
   (tuple_addW1 t b vs.toArray ws.toArray n n2 dd dd2 sl sl2 (by simpa using hv) (by simp [hw])) ⟨ho,ho2,h1 hw⟩
 ·refine concat_meets ⟨_,ho,rfl⟩ ⟨_,ho2,rfl⟩ noFill_tuple_add seq_tuple_add PySem.F.slot_tuple_add PySem.F.entry_tuple_add (PySem.F.args_tuple_add_2 _ _)
   (tuple_addW2 t b vs.toArray ws.toArray n n2 dd dd2 sl sl2 (by simpa using hv) (by simpa using hw) (by rw [List.size_toArray,List.size_toArray]; exact hsz)) ⟨ho,ho2, ?_⟩
  rw [e]
  exact h2 hw
def sIx (n d:Nat):Option Int->Nat
 | none=>d
 | some v=>if v < 0 then (v+(n:Int)).toNat else min v.toNat n
end
end HT
namespace L2
open PySem PySem.Spec PyProof.Rows
abbrev TO:=St->Hp->(Option Int->Hp->Prop)->Prop
def PO (X:Cx) (e:Option Expr) (t:TO):Prop:=
 ∀ (pins:List (Addr×Obj)) (s:Shared) (σ:St) (H:Hp) (Q:Option Int->Hp->Prop),Inv X pins σ H s->t σ H Q->
  wpAny (model X.prog X.w) X.A (evalPart e X.env) (fun u s' =>∃ o H',Inv X pins σ H' s' /\IsPart u o/\Q o H') X.xe s
def yH:TO:=fun _ H Q=>Q none H
def ve (t:TE):TO:=fun σ H Q=>t σ H fun x H1=>∃ i,x= .int i/\Q (some i) H1
section
variable {X:Cx} {e:Expr} {te:TE} {lo hi:Option Expr} {tl th:TO} {pos p2:Pos}
theorem yI:PO X none yH:=by
 intro pins s σ H Q I h
 rw [evalPart_none]
 exact wpAny_pure ⟨none,H,I, .none,h⟩
theorem yJ (h:PE X e te):PO X (some e) (ve te):=by
 intro pins s σ H Q I hw
 rw [evalPart_some]
 refine thn (h pins s σ H _ I hw) fun u s1 ⟨x,H1,I1,r1,q1⟩=> ?_
 obtain ⟨i,rfl,q⟩:=q1
 obtain ⟨t,rfl⟩:=r1
 exact ⟨some i,H1,I1, .int i t,q⟩
def SlR (X:Cx) (r:V->Option Int->Option Int->Hp->VK->Prop):Prop:=
 ∀ (pins:List (Addr×Obj)) (s:Shared) (σ:St) (H:Hp) (x:V) (v vl vu:Value) (lo hi:Option Int) (sl:Addr) (Q:VK),Inv X pins σ H s->Z0 x v->s.heap.IsSliceOf sl vl vu .none->IsPart vl lo->IsPart vu hi->r x lo hi H Q->
  ∃ T id,typeLookup (.type T) "__getitem__"=pure (some (.builtin id))/\s.TypeIs v T/\wpAny (model X.prog X.w) X.A (getItem v (.ref sl)) (EP X pins σ Q) X.xe s
def tSl (r:V->Option Int->Option Int->Hp->VK->Prop) (te:TE) (tl th:TO):TE:=fun σ H Q=>te σ H fun x H1=>tl σ H1 fun l H2=>th σ H2 fun u H3=>r x l u H3 Q
theorem Uj {r:V->Option Int->Option Int->Hp->VK->Prop} (hr:SlR X r) (he:PE X e te) (hl:PO X lo tl) (hu:PO X hi th):PE X (.Subscript e (.Slice lo hi none p2) pos) (tSl r te tl th):=by
 intro pins s σ H Q I h
 refine Subscript_ (thn (he pins s σ H _ I h) fun v s1 ⟨x,H1,I1,r1,q1⟩=> ?_)
 refine wpAny_Slice (thn (hl pins s1 σ H1 _ I1 q1) fun vl s2 ⟨l,H2,I2,pl,q2⟩=>thn (hu pins s2 σ H2 _ I2 q2) fun vu s3 ⟨u,H3,I3,pu,q3⟩=> ?_)
 rw [evalPart_none]
 refine wpAny_pure ?_
 have I4:Inv X pins σ H3 { s3 with heap:=s3.heap.push { cls:= .type "slice",data:= .fields #[vl,vu, .none] } }:=I3.kept (t' :=s3.toks) fun b ob q=>Heap.get?_push_of_some _ q
 obtain ⟨T,id,hT,ht,hg⟩:=hr pins { s3 with heap:=s3.heap.push { cls:= .type "slice",data:= .fields #[vl,vu, .none] } } σ H3 x v vl vu l u s3.heap.objs.size Q I4 r1 (Heap.IsSliceOf.new ..) pl pu q3
 show wpAny (model X.prog X.w) X.A (subscriptTail e (.Slice lo hi none p2) v (.ref s3.heap.objs.size)) (EP X pins σ Q) X.xe { s3 with heap:=s3.heap.push { cls:= .type "slice",data:= .fields #[vl,vu, .none] } }
 exact tail_any (ops:=[.ref s3.heap.objs.size,v]) ht hT hg (by with_unfolding_all rfl)
def Qx (xs:List V) (lo hi:Option Int):List V:=(xs.drop (HT.sIx xs.length 0 lo)).take (HT.sIx xs.length xs.length hi - HT.sIx xs.length 0 lo)
theorem we (xs:List V) (lo hi:Option Int):(Qx xs lo hi).length<=xs.length:=by
 unfold Qx
 rw [List.length_take,List.length_drop]
 omega
def vf (K:PySem.W.Frag):R2:=fun x y H Q=>∃ a b xs ys,x= .ref a/\y= .ref b/\SqT K H a xs/\SqT K H b ys/\xs ≠ []/\xs.length+ys.length<=sizeLine/\
 (ys=[]->Q (.ref a) H)/\(ys ≠ []->∀ p,H p=none->Q (.ref p) (upd H p (.tup (xs++ys))))
theorem zR.nil_iff {xs:List V} {us:List Value} (r:zR xs us):us=[]↔xs=[]:=by
 cases r with
 | nil=>simp
 | cons _ _=>simp
theorem yK:OpR X (binaryOp .Add) (vf X.K):=by
 intro pins s σ H x y v u Q I rx ry h
 obtain ⟨a,b,xs,ys,rfl,rfl,ha,hb,hx,hz,q1,q2⟩:=h
 cases rx
 cases ry
 obtain ⟨its,r1,p1,_⟩:=I.tuple ha
 obtain ⟨its2,r2,p2,_⟩:=I.tuple hb
 refine HT.cat_tup p1 p2 (fun z=>hx (r1.nil_iff.mp z)) (fun z=>⟨.ref a,H,I,rfl,q1 (r2.nil_iff.mp z)⟩) (fun z=> ?_) (by rw [← r1.length,← r2.length]; exact hz)
 refine ⟨.ref s.heap.objs.size,_,I.laid (t' :=s.toks) (o:= .tup (xs++ys)) (fun b ob q=>Heap.get?_push_of_some _ q) (Nat.le_refl _) ?_,rfl,q2 (fun w=>z (r2.nil_iff.mpr w)) _ (I.hok.fresh (Nat.le_refl _))⟩
 exact ⟨by rw [List.length_append]; exact hz,_,r1.append r2,ITN.new _ _⟩
end
end L2
namespace L2
open PySem PySem.Spec PyProof.Rows
def ixN (n:Nat) (i:Int):Option Nat:=if 0<=i then (if i < n then some i.toNat else none) else if -(n:Int)<=i then some (i+n).toNat else none
def atI {α:Type} (xs:List α) (i:Int):Option α:=(ixN xs.length i).bind fun j=>xs[j]?
theorem yL {n:Nat} {i:Int} {j:Nat} (h:ixN n i=some j):seqIndex? i n=some j/\j < n/\ -(n:Int)<=i/\i < n:=by
 unfold ixN at h
 by_cases h0:0<=i
 ·rw [if_pos h0] at h
  by_cases h1:i < n
  ·rw [if_pos h1] at h
   have e:i.toNat=j:=Option.some.inj h
   exact ⟨by rw [seqIndex_of h0 h1,e],by omega,by omega,h1⟩
  ·rw [if_neg h1] at h; cases h
 ·rw [if_neg h0] at h
  by_cases h1: -(n:Int)<=i
  ·rw [if_pos h1] at h
   have e:(i+n).toNat=j:=Option.some.inj h
   exact ⟨by rw [seqIndex_neg (by omega) h1,e],by omega,h1,by omega⟩
  ·rw [if_neg h1] at h; cases h
theorem wf {α:Type} {xs:List α} {i:Int} {v:α} (h:atI xs i=some v):∃ j,seqIndex? i xs.length=some j/\xs[j]? =some v/\j < xs.length/\ -(xs.length:Int)<=i/\i < xs.length:=by
 unfold atI at h
 cases e:ixN xs.length i with
 | none=>rw [e] at h; cases h
 | some j=>
  rw [e] at h
  obtain ⟨h1,h2,h3,h4⟩:=yL e
  exact ⟨j,h1,h,h2,h3,h4⟩
theorem j1 {α:Type} {xs:List α} {j:Nat} {v:α} (h:xs[j]? =some v):atI xs (j:Int)=some v:=by
 have hj:j < xs.length:=(List.getElem?_eq_some_iff.mp h).1
 have e:ixN xs.length (j:Int)=some j:=by
  unfold ixN
  rw [if_pos (by omega),if_pos (by omega)]; simp
 unfold atI; rw [e]; exact h
def WK (b:Expr):Prop:=∀ o i,subscripted b false o i=operate [o,i] (getItem o i)
def IxR (X:Cx) (r:R2):Prop:=
 ∀ (value slice:Expr) (pins:List (Addr×Obj)) (s:Shared) (σ:St) (H:Hp) (x y:V) (v u:Value) (Q:VK),Inv X pins σ H s->Z0 x v->Z0 y u->r x y H Q->
  subscripted slice false v u=operate [v,u] (getItem v u)->wpAny (model X.prog X.w) X.A (subscriptTail value slice v u) (EP X pins σ Q) X.xe s
def MtR (X:Cx) (id:String) (r:V->List V->Hp->VK->Prop):Prop:=
 ∀ (pins:List (Addr×Obj)) (s:Shared) (σ:St) (H:Hp) (x:V) (xs:List V) (v:Value) (us:List Value) (Q:VK),Inv X pins σ H s->Z0 x v->zR xs us->r x xs H Q->
  wpAny (model X.prog X.w) X.A (call (.builtin id) (v :: us)) (EP X pins σ Q) X.xe s
section
variable {X:Cx} {a b:Expr} {ta tb:TE} {pos:Pos}
theorem IxR.or {r r' :R2} (h:IxR X r) (h' :IxR X r'):IxR X (fun x y H Q=>r x y H Q\/r' x y H Q):=by
 intro value slice pins s σ H x y v u Q I rx ry q hs
 rcases q with q | q
 ·exact h value slice pins s σ H x y v u Q I rx ry q hs
 ·exact h' value slice pins s σ H x y v u Q I rx ry q hs
theorem vg {r:R2} (hr:IxR X r) (ha:PE X a ta) (hb:PE X b tb) (hs:WK b):PE X (.Subscript a b pos) (tOp r ta tb):=by
 intro pins s σ H Q I h
 exact Subscript_ (QX ha hb I h fun v u s2 x y H2 I2 rx ry q=>hr a b pins s2 σ H2 x y v u Q I2 rx ry q (hs _ _))
def V1 (K:PySem.W.Frag):R2:=fun x y H Q=>∃ p xs i v,x= .ref p/\y= .int i/\SqL K H p xs/\atI xs i=some v/\Q v H
def V2 (K:PySem.W.Frag):R2:=fun x y H Q=>∃ p xs i v,x= .ref p/\y= .int i/\SqT K H p xs/\atI xs i=some v/\Q v H
def V3:R2:=fun x y H Q=>∃ z i c,x= .str z/\y= .int i/\z.length<=sizeLine/\atI z.cps.toList i=some c/\Q (.str ⟨#[c]⟩) H
theorem yM:IxR X (V1 X.K):=by
 intro value slice pins s σ H x y v u Q I rx ry h hs
 obtain ⟨p,xs,i,z,rfl,rfl,hq,he,q⟩:=h
 cases rx
 obtain ⟨t,rfl⟩:=ry
 obtain ⟨its,r,pl,hz⟩:=I.list hq
 obtain ⟨j,h1,h2,h3,h4,h5⟩:=wf he
 obtain ⟨w,ew,rw'⟩:=r.get h2
 have hl:=r.length
 have hn:=jO
 have fin:EP X pins σ Q w s:=⟨z,H,I,rw',q⟩
 by_cases h0:0<=i
 ·have hj:i.toNat=j:=by
   rw [seqIndex_of h0 h5] at h1
   exact Option.some.inj h1
  exact item_listR pl.isList h0 (by omega) (by rw [hj]; simpa using ew) fin hs
 ·have hj:(i+(its.toArray.size:Int)).toNat=j:=by
   rw [seqIndex_neg (by omega) h4] at h1
   rw [List.size_toArray,← hl]
   exact Option.some.inj h1
  exact subscriptTail_builtinR (x:=w) pl.isList.typeIs slot_list_getitem.lookup
   (wpAny_getItem_list_neg (Q:=fun r s' =>r=w/\EP X pins σ Q r s') pl.isList (by omega) (by rw [List.size_toArray] <;> omega) (by omega) (by rw [hj]; simpa using ew) ⟨rfl,fin⟩) hs
theorem ql:IxR X (V2 X.K):=by
 intro value slice pins s σ H x y v u Q I rx ry h hs
 obtain ⟨p,xs,i,z,rfl,rfl,hq,he,q⟩:=h
 cases rx
 obtain ⟨t,rfl⟩:=ry
 obtain ⟨its,r,pl,hz⟩:=I.tuple hq
 obtain ⟨j,h1,h2,h3,h4,h5⟩:=wf he
 obtain ⟨w,ew,rw'⟩:=r.get h2
 have hl:=r.length
 have hn:=jO
 have fin:EP X pins σ Q w s:=⟨z,H,I,rw',q⟩
 exact subscriptTail_builtinR (x:=w) pl.typeIs slot_tuple_getitem.lookup
  (getItem_tuple (j:=j) (Q:=fun r s' =>r=w/\EP X pins σ Q r s') pl (by omega) (by omega) (by rw [List.size_toArray,← hl]; exact h1) (by simpa using ew) ⟨rfl,fin⟩) hs
theorem qm:IxR X V3:=by
 intro value slice pins s σ H x y v u Q I rx ry h hs
 obtain ⟨z,i,c,rfl,rfl,hz,he,q⟩:=h
 obtain ⟨t,rfl⟩:=rx
 obtain ⟨t',rfl⟩:=ry
 obtain ⟨j,h1,h2,h3,h4,h5⟩:=wf he
 have hl:z.cps.toList.length=z.length:=by simp [Str.length]
 rw [hl] at h1 h4 h5
 have hn:=jO
 exact tail_any (typeIs_str s z t) slot_str_getitem.lookup (getItem_str (c:=c) (by
  have e1:decide (i < -(2 ^ 63:Int))=false:=decide_eq_false (by omega)
  have e2:decide (i ≥ 2 ^ 63)=false:=decide_eq_false (by omega)
  rw [e1,e2,Bool.or_false]) (by rw [h1]; simpa using h2) ⟨.str ⟨#[c]⟩,H,I.tok _,⟨_,rfl⟩,q⟩) hs
def rIx (K:PySem.W.Frag):R2:=fun x y H Q=>V1 K x y H Q\/V2 K x y H Q\/V3 x y H Q
theorem qo:IxR X (rIx X.K):=yM.or (ql.or qm)
theorem JB (lo hi:Option Int) (n:Nat):(sliceBounds lo hi none n).1=((HT.sIx n 0 lo:Nat):Int)/\(sliceBounds lo hi none n).2.1=((HT.sIx n n hi:Nat):Int)/\(sliceBounds lo hi none n).2.2=1:=by
 refine ⟨?_, ?_,rfl⟩
 ·cases lo with
  | none=>simp [sliceBounds,HT.sIx]
  | some i=>
   simp only [sliceBounds,HT.sIx,Option.getD_none,show (1:Int) > 0 by decide,if_true]
   by_cases h:i < 0
   ·simp only [h,if_true] <;> omega
   ·simp only [h,if_false] <;> omega
 ·cases hi with
  | none=>simp [sliceBounds,HT.sIx]
  | some i=>
   simp only [sliceBounds,HT.sIx,Option.getD_none,show (1:Int) > 0 by decide,if_true]
   by_cases h:i < 0
   ·simp only [h,if_true] <;> omega
   ·simp only [h,if_false] <;> omega
theorem jW (its:List Value) (lo hi:Option Int):slicePick its.toArray lo hi none=((its.drop (HT.sIx its.length 0 lo)).take (HT.sIx its.length its.length hi - HT.sIx its.length 0 lo)).toArray:=by
 obtain ⟨h1,h2,h3⟩:=JB lo hi its.toArray.size
 unfold slicePick
 rw [h1,h2,h3]
 simp only [sliceRange_one,pick_run,List.size_toArray] <;> rfl
def Vy (K:PySem.W.Frag):V->Option Int->Option Int->Hp->VK->Prop:=fun x lo hi H Q=>∃ a xs,x= .ref a/\SqL K H a xs/\∀ p,H p=none->Q (.ref p) (upd H p (.lst (Qx xs lo hi)))
theorem vh:SlR X (Vy X.K):=by
 intro pins s σ H x v vl vu lo hi sl Q I rx hs pl pu h
 obtain ⟨a,xs,rfl,hx,q⟩:=h
 cases rx
 obtain ⟨its,r,ht,hz⟩:=I.list hx
 have hlen:=r.length
 refine ⟨"list",_,slot_list_getitem.lookup,ht.isList.typeIs, ?_⟩
 refine wpAny_getItem_list_slice ht.isList hs pl pu .none (by simp) ?_ (by rw [List.size_toArray] <;> omega)
 rw [jW,← hlen]
 refine ⟨.ref s.heap.objs.size,_,I.laid (t' :=s.toks) (o:= .lst (Qx xs lo hi)) (fun b ob q=>Heap.get?_push_of_some _ q) (Nat.le_refl _) ?_,rfl,q _ (I.hok.fresh (Nat.le_refl _))⟩
 exact ⟨Nat.le_trans (we xs lo hi) hz,_,0,(r.drop (HT.sIx xs.length 0 lo)).take (HT.sIx xs.length xs.length hi - HT.sIx xs.length 0 lo),Heap.get?_push_size _ rfl⟩
theorem JC:Zt X (.builtin "len") (fun xs H Q=>∃ p ys,xs=[.ref p]/\(SqL X.K H p ys\/SqT X.K H p ys)/\Q (.int ys.length) H):=by
 intro pins s σ H xs us Q I r h
 obtain ⟨p,ys,rfl,hq,q⟩:=h
 obtain ⟨u,rfl,rx⟩:=Zz r
 cases rx
 have hn:=jO
 rcases hq with hq | hq
 ·obtain ⟨its,r',pl,hz⟩:=I.list hq
  have hlen:=r'.length
  exact Calls.call_len_list pl.isList (by simp only [List.size_toArray] <;> omega) ⟨.int ys.length,H,I.tok _,⟨s.toks+1,by rw [List.size_toArray,hlen]⟩,q⟩
 ·obtain ⟨its,r',pl,hz⟩:=I.tuple hq
  have hlen:=r'.length
  exact len_tuple pl (by simp only [List.size_toArray] <;> omega) ⟨.int ys.length,H,I.tok _,⟨s.toks+1,by rw [List.size_toArray,hlen]⟩,q⟩
theorem JD:Zt X (.builtin "len") (fun xs H Q=>∃ z,xs=[.str z]/\z.length<=sizeLine/\Q (.int z.length) H):=by
 intro pins s σ H xs us Q I r h
 obtain ⟨z,rfl,hz,q⟩:=h
 obtain ⟨u,rfl,t,rfl⟩:=Zz r
 have hn:=jO
 exact len_str (by omega) ⟨.int z.length,H,I.tok _,⟨_,rfl⟩,q⟩
theorem Zt.or {f:Value} {r r' :List V->Hp->VK->Prop} (h:Zt X f r) (h' :Zt X f r'):Zt X f (fun xs H Q=>r xs H Q\/r' xs H Q):=by
 intro pins s σ H xs us Q I rs q
 rcases q with q | q
 ·exact h pins s σ H xs us Q I rs q
 ·exact h' pins s σ H xs us Q I rs q
theorem jX:Zt X (.type "tuple") (fun xs H Q=>∃ p ys,xs=[.ref p]/\((SqL X.K H p ys/\∀ l,H l=none->Q (.ref l) (upd H l (.tup ys)))\/(SqT X.K H p ys/\Q (.ref p) H))):=by
 intro pins s σ H xs us Q I r h
 obtain ⟨p,ys,rfl,h⟩:=h
 obtain ⟨u,rfl,rx⟩:=Zz r
 cases rx
 rcases h with ⟨hq,q⟩ | ⟨hq,q⟩
 ·obtain ⟨its,r',pl,hz⟩:=I.list hq
  have hlen:=r'.length
  refine call_tuple_list pl.isList (fun h' kp=> ?_) (by simp only [List.size_toArray] <;> omega)
  have I1:Inv X pins σ H { s with heap:=h' }:=I.kept (t' :=s.toks) kp
  have I2:Inv X pins σ (upd H h'.objs.size (.tup ys)) { s with heap:=h'.push { cls:= .type "tuple",data:= .seq its.toArray } }:=
   I1.laid (t' :=s.toks) (fun b o e=>Heap.get?_push_of_some _ e) (Nat.le_refl _) (show Zk X.prog X.w _ _ _ (.tup ys) from ⟨hz,its,r',ITN.new _ _⟩)
  exact ⟨.ref h'.objs.size,_,I2,rfl,q _ (I1.hok.fresh (Nat.le_refl _))⟩
 ·obtain ⟨its,r',pl,hz⟩:=I.tuple hq
  exact call_tuple_same pl ⟨.ref p,H,I,rfl,q⟩
def tyV (K:PySem.W.Frag) (T:String) (x:V) (H:Hp):Prop:=match x with
 | .str _=>T="str"
 | .int _=>T="int"
 | .ref p=>(T="list"/\∃ xs,SqL K H p xs)\/(T="tuple"/\∃ o,K.lookup p=some o/\o.cls= .type "tuple"/\o.dict=none)\/
   (T="dict"/\((∃ kvs,H p=some (.dK kvs))\/∃ kvs,H p=some (.dT kvs)))\/(T="set"/\∃ S n,H p=some (.set S n))
 | _=>False
theorem qp {pins:List (Addr×Obj)} {σ:St} {H:Hp} {s:Shared} {T:String} {x:V} {v:Value} (I:Inv X pins σ H s) (r:Z0 x v) (ty:tyV X.K T x H):
  s.TypeIs v T/\∀ a,v= .ref a->∃ ob,s.heap.get? a=some ob/\ob.dict=none:=by
 cases x with
 | str z=>
  obtain ⟨t,rfl⟩:=r
  cases (show T="str" from ty)
  exact ⟨typeIs_str s z t,fun _ e=>nomatch e⟩
 | int i=>
  obtain ⟨t,rfl⟩:=r
  cases (show T="int" from ty)
  exact ⟨typeIs_int s i t,fun _ e=>nomatch e⟩
 | ref p=>
  cases r
  rcases ty with ⟨rfl,xs,hq⟩ | ⟨rfl,o,hk,hc,hd⟩ | ⟨rfl,hk⟩ | ⟨rfl,S,n,hk⟩
  ·obtain ⟨its,_,pl,_⟩:=I.list hq
   refine ⟨pl.isList.typeIs,fun a e=> ?_⟩
   cases e
   obtain ⟨o,n,e,c,hd,_⟩:=pl
   exact ⟨o,e,hd⟩
  ·refine ⟨⟨o,I.kIn p o hk,hc⟩,fun a e=> ?_⟩
   cases e
   exact ⟨o,I.kIn _ o hk,hd⟩
  ·have z:∃ o,s.heap.get? p=some o/\o.ExactDict:=by
    rcases hk with ⟨kvs,hk⟩ | ⟨kvs,hk⟩
    ·obtain ⟨_,_,_,_,o,_,_,e,ex,_⟩:=I.hok p _ hk
     exact ⟨o,e,ex⟩
    ·obtain ⟨_,_,_,_,o,_,_,e,ex,_⟩:=I.hok p _ hk
     exact ⟨o,e,ex⟩
   obtain ⟨o,e,ex⟩:=z
   refine ⟨⟨o,e,ex.1⟩,fun a e2=> ?_⟩
   cases e2
   exact ⟨o,e,ex.2.1⟩
  ·obtain ⟨o,_,_,_,e,ex,_⟩:=I.hok p _ hk
   refine ⟨⟨o,e,ex.1⟩,fun a e2=> ?_⟩
   cases e2
   exact ⟨o,e,ex.2.1⟩
 | _=>exact False.elim ty
def tBM (K:PySem.W.Frag) (T:String) (r:V->List V->Hp->VK->Prop) (to:TE) (t:TA):TE:=fun σ H Q=>to σ H fun x H1=>tyV K T x H1/\t σ H1 fun xs H2=>r x xs H2 Q
variable {o e:Expr} {es:List Expr} {to:TE} {t:TA} {name:Str} {apos cpos:Pos} {T id:String} {r:V->List V->Hp->VK->Prop}
theorem JE (pa:PlainAttrs T) (slot:Slot T name id) (hty:typeOf (.builtin id)=pure (.type "method_descriptor")) (hm:MtR X id r) (ho:PE X o to) (ha:PA X (e :: es) t)
  (hbase:attributeBase o name X.env (eval o X.env)=eval o X.env:=by rfl)
  (hfew:((backTo cpos (starEach (e :: es) X.env)).all (fun x=> !x.1) && (backToKw cpos (keywordEach [] X.env)).all (fun x=>x.1.isSome)
   && decide ((e :: es).length+([]:List Keyword).length+(if ([]:List Keyword).isEmpty then 0 else 1) < 30))=true:=by rfl)
  (hline:(apos.endLine == cpos.line)=true:=by rfl) (hs:starEach (e :: es) X.env=(false,eval e X.env) :: starEach es X.env:=by rfl) (hplain:(backTo cpos (starEach es X.env)).any (·.1)=false:=by rfl):
  PE X (.Call (.Attribute o name apos) (e :: es) [] cpos) (tBM X.K T r to t):=by
 intro pins s σ H Q I h
 refine wpAny_Call_method_late hbase hfew hline rfl (thn (ho pins s σ H _ I h) fun v s1 ⟨x,H1,I1,r1,ty,q1⟩=> ?_)
 obtain ⟨h1,h2⟩:=qp I1 r1 ty
 refine ⟨T,id,pa,slot,hty,h1,h2, ?_⟩
 have hA:=ha cpos pins s1 σ H1 _ I1 q1
 rw [hs] at hA ⊢
 refine Calls.callWith_builtin (by show (false || (backTo cpos (starEach es X.env)).any (·.1))=false; rw [hplain] <;> rfl) (Calls.evalArgs_plain ?_)
 exact thn hA fun us s2 ⟨vs,H2,I2,r2,q2⟩=>hm pins s2 σ H2 x vs v us Q I2 r1 r2 q2
end
end L2
namespace L2
open PySem PySem.Spec PyProof.Rows
def MtM (X:Cx) (id:String) (r:V->List V->Hp->VK->Prop):Prop:=
 ∀ (pins:List (Addr×Obj)) (s:Shared) (σ:St) (H:Hp) (x:V) (xs:List V) (v:Value) (us:List Value) (Q:VK),Inv X pins σ H s->Z0 x v->zR xs us->r x xs H Q->
  wpAny (model X.prog X.w) X.A (call (.builtin id) (v :: us)) (EP X pins σ Q) X.xe s
theorem zR.one:∀ {x:V} {us:List Value},zR [x] us->∃ u,us=[u]/\Z0 x u
 | _,_, .cons r .nil=>⟨_,rfl,r⟩
theorem zR.rep {xs:List V} {us:List Value} (h:zR xs us):∀ k:Nat,zR (List.replicate k xs).flatten (List.replicate k us).flatten
 | 0=> .nil
 | k+1=>by
  rw [List.replicate_succ,List.replicate_succ,List.flatten_cons,List.flatten_cons]
  exact zR.append h (zR.rep h k)
theorem ZR (its:List Value):∀ (k:Nat) (acc:List Value),
  List.foldl (fun x1 x2=>x1++x2) acc.toArray (List.replicate k its.toArray)=(acc++(List.replicate k its).flatten).toArray
 | 0,acc=>by simp
 | k+1,acc=>by
  have e:acc.toArray++its.toArray=(acc++its).toArray:=by simp
  have e2:(acc++its)++(List.replicate k its).flatten=acc++(List.replicate (k+1) its).flatten:=by
   rw [List.replicate_succ,List.flatten_cons,List.append_assoc]
  rw [← e2,← ZR its k (acc++its),← e,List.replicate_succ,List.foldl_cons]
section
variable {X:Cx} {pins:List (Addr×Obj)} {σ:St} {H:Hp} {s:Shared} {l b:Addr} {xs ys zs:List V}
theorem Inv.lset {its its' :List Value} {n:Nat} {f:Array Value->Array Value} {t' :Nat} (I:Inv X pins σ H s) (hH:H l=some (.lst xs))
  (e:s.heap.get? l=some { cls:= .type "list",data:= .seq its.toArray n }) (hf:f its.toArray=its'.toArray) (hv:zR ys its') (hz:ys.length<=sizeLine):
  Inv X pins σ (upd H l (.lst ys)) { s with heap:=s.heap.update l (Obj.mapSeq f),toks:=t' }:=by
 have q:=PySem.IsL.update e f
 rw [hf] at q
 refine I.write (x:=l) (e:=l) (by rw [hH]; exact trivial) (.inl rfl) (fun b' u hb hu=>(Heap.get?_update_other s.heap (Obj.mapSeq f) (Ne.symm hb)).trans hu) ⟨_,q⟩ ?_
 exact ⟨hz,its',_,hv,q⟩
theorem Inv.lnew {its:List Value} {t' :Nat} (I:Inv X pins σ H s) (hv:zR ys its) (hz:ys.length<=sizeLine):
  Inv X pins σ (upd H s.heap.objs.size (.lst ys)) { s with heap:=s.heap.push { cls:= .type "list",data:= .seq its.toArray },toks:=t' }:=
 I.laid (fun _ _ q=>Heap.get?_push_of_some _ q) (Nat.le_refl _) ⟨hz,its,0,hv,Heap.get?_push_size _ rfl⟩
theorem Inv.fresh (I:Inv X pins σ H s):H s.heap.objs.size=none:=I.hok.fresh (Nat.le_refl _)
theorem Inv.lstM (I:Inv X pins σ H s) (hH:H l=some (.lst xs)):xs.length<=sizeLine/\∃ (its:List Value) (n:Nat),zR xs its/\xs.length=its.length/\s.heap.get? l=some { cls:= .type "list",data:= .seq its.toArray n }:=by
 obtain ⟨z,its,n,r,e⟩:=I.hok l _ hH
 exact ⟨z,its,n,r,r.length,e⟩
theorem wI {n:Nat} (h:n<=sizeLine):Builtin.List.listTooLong n=false:=by
 unfold Builtin.List.listTooLong
 exact decide_eq_false (by omega)
end
section
variable {X:Cx}
def yN:V->List V->Hp->VK->Prop:=fun x vs H Q=>∃ l xs y,x= .ref l/\vs=[y]/\H l=some (.lst xs)/\xs.length < sizeLine/\Q .non (upd H l (.lst (xs++[y])))
theorem JF:MtM X "list.append" yN:=by
 intro pins s σ H x vs v us Q I rx rv h
 obtain ⟨l,xs,y,rfl,rfl,hH,hz,q⟩:=h
 cases rx
 obtain ⟨u,rfl,ru⟩:=rv.one
 obtain ⟨z,its,n,r,hl,e⟩:=I.lstM hH
 refine call_meets F.slot_list_append ⟨_,e,rfl⟩ F.entry_list_append (F.args_list_append_2 _ _) (PySem.list_append l its.toArray n u (by rw [List.size_toArray]; omega)) ⟨e, ?_⟩
 refine ⟨.non,_,I.lset (its' :=its++[u]) hH e (by simp) (r.append (.cons ru .nil)) ?_,rfl,q⟩
 rw [List.length_append,List.length_singleton]
 omega
def yO:V->List V->Hp->VK->Prop:=fun x vs H Q=>∃ l b xs zs,x= .ref l/\vs=[.ref b]/\H l=some (.lst xs)/\H b=some (.lst zs)/\xs.length+zs.length<=sizeLine/\Q .non (upd H l (.lst (xs++zs)))
theorem qq:MtM X "list.extend" yO:=by
 intro pins s σ H x vs v us Q I rx rv h
 obtain ⟨l,b,xs,zs,rfl,rfl,hH,hB,hz,q⟩:=h
 cases rx
 obtain ⟨u,rfl,ru⟩:=rv.one
 cases ru
 obtain ⟨z,its,n,r,hl,e⟩:=I.lstM hH
 obtain ⟨z2,its2,n2,r2,hl2,e2⟩:=I.lstM hB
 have hsz:its.toArray.size+its2.toArray.size<=sizeLine:=by rw [List.size_toArray,List.size_toArray]; omega
 have hlong:¬ (!its.toArray.isEmpty && Builtin.List.listTooLong (its.toArray.size+its2.toArray.size))=true:=by
  rw [wI hsz,Bool.and_false]
  exact Bool.false_ne_true
 refine call_meets F.slot_list_extend ⟨_,e,rfl⟩ F.entry_list_extend (F.args_list_extend_2 _ _)
  (AutoSeq1.list_extend_list_list_0 l its.toArray n b its2.toArray n2 hlong (by rw [List.size_toArray]; omega) (by omega)) ⟨e,e2, ?_⟩
 refine ⟨.non,_,I.lset (its' :=its++its2) hH e (by simp) (r.append r2) ?_,rfl,q⟩
 rw [List.length_append]
 omega
def Vz:R2:=fun x y H Q=>∃ l b xs zs,x= .ref l/\y= .ref b/\H l=some (.lst xs)/\H b=some (.lst zs)/\xs.length+zs.length<=sizeLine/\∀ p,H p=none->Q (.ref p) (upd H p (.lst (xs++zs)))
theorem qr:OpR X (binaryOp .Add) Vz:=by
 intro pins s σ H x y v u Q I rx ry h
 obtain ⟨l,b,xs,zs,rfl,rfl,hH,hB,hz,q⟩:=h
 cases rx
 cases ry
 obtain ⟨z,its,n,r,hl,e⟩:=I.lstM hH
 obtain ⟨z2,its2,n2,r2,hl2,e2⟩:=I.lstM hB
 refine PySem.P.add_list e e2 ?_ (by rw [List.size_toArray,List.size_toArray]; omega)
 have ea:its.toArray++its2.toArray=(its++its2).toArray:=by simp
 rw [ea]
 exact ⟨.ref _,_,I.lnew (t' :=s.toks) (r.append r2) (by rw [List.length_append]; omega),rfl,q _ I.fresh⟩
def VA:R2:=fun x y H Q=>∃ l k xs,x= .ref l/\y= .int k/\H l=some (.lst xs)/\ -(2 ^ 63)<=k/\k < 2 ^ 63/\xs.length*k.toNat<=sizeLine/\
 ∀ p,H p=none->Q (.ref p) (upd H p (.lst (List.replicate k.toNat xs).flatten))
theorem jp {α:Type} (xs:List α) (k:Nat):(List.replicate k xs).flatten.length=k*xs.length:=by
 induction k with
 | zero=>simp
 | succ k ih=>rw [List.replicate_succ,List.flatten_cons,List.length_append,ih,Nat.succ_mul,Nat.add_comm]
theorem qs:OpR X (binaryOp .Mult) VA:=by
 intro pins s σ H x y v u Q I rx ry h
 obtain ⟨l,k,xs,rfl,rfl,hH,h1,h2,hz,q⟩:=h
 cases rx
 obtain ⟨t,rfl⟩:=ry
 obtain ⟨z,its,n,r,hl,e⟩:=I.lstM hH
 have hlen:its.toArray.size*k.toNat<=sizeLine:=by rw [List.size_toArray,← hl]; exact hz
 have hcap:¬ its.toArray.size*k.toNat > (2 ^ 63 - 1) / 8:=by
  have:(sizeLine:Nat)<=(2 ^ 63 - 1) / 8:=by decide
  omega
 have hfit:¬ (!Builtin.List.listFitsIndex k)=true:=by
  rw [fitsIndex_both h1 h2]
  exact Bool.false_ne_true
 have hlong:¬ Builtin.List.listTooLong (its.toArray.size*k.toNat)=true:=by
  rw [wI hlen]
  exact Bool.false_ne_true
 have hnew:List.foldl (fun x1 x2=>x1++x2) #[] (List.replicate (if its.toArray.isEmpty=true then 0 else k.toNat) its.toArray)=(List.replicate k.toNat its).flatten.toArray:=by
  have f0:∀ m:Nat,List.foldl (fun x1 x2=>x1++x2) #[] (List.replicate m its.toArray)=(List.replicate m its).flatten.toArray:=fun m=>by
   have:=ZR its m []
   rw [List.nil_append] at this
   exact this
  rw [f0]
  cases its with
  | nil=>simp
  | cons a r' =>rw [if_neg (by simp)]
 refine wpAny_binaryOp_repeat_ref (T:="list") (U:="int") (by decide) ⟨_,e,rfl⟩ (fun s' =>typeIs_int s' k t) noFill_list_mul F.fills_int_mul F.slot_int_rmul repeat_list F.slot_int_index.lookup
  (call_meets F.slot_int_rmul (typeIs_int s k t) F.entry_int_rmul (F.args_int_rmul_2 _ _) (int___rmul___int_list k t l its.toArray n)
   ⟨e,rfl,⟨_,e,rfl⟩,call_meets F.slot_list_mul ⟨_,e,rfl⟩ F.entry_list_mul (F.args_list_mul_2 _ _) (AutoListH.list___mul___list_int_3 l its.toArray n k t hfit hcap hlong) ⟨e, ?_⟩⟩)
 rw [hnew]
 exact ⟨.ref _,_,I.lnew (t' :=s.toks) (r.rep k.toNat) (by rw [jp,Nat.mul_comm]; exact hz),rfl,q _ I.fresh⟩
end
section
variable {prog:Program} {w:World} {A:Around} {E:Value->Shared->Prop} {s:Shared}
end
section
variable {X:Cx}
end
end L2
namespace Att
open PySem PySem.W PySem.Calls PyProof.Rows
theorem jq {P:Params} {h:Heap}:∀ (ns:List Int) (vs:List Value),WellAll P h vs (ns.map WData.int)->IntsAre vs ns:=by
 intro ns
 induction ns with
 | nil=>
  intro vs w
  rw [List.map_nil] at w
  cases w
  exact .nil
 | cons n ns ih=>
  intro vs w
  rw [List.map_cons] at w
  cases w with
  | cons a b=>
   cases a
   exact .cons _ _ (ih _ b)
theorem WL {l:OpenLaw} {n:Nat} (hn:l.most=some n) {P:Params} {h:Heap} {args:List WData} {vals:List Value}
  (hpre:l.row.toRowW.claim.pre args=true) (hwl:WellAll P h vals args):
  ∃ a vs ns,vals=[Value.ref a]/\args=[WData.list (ns.map WData.int)]/\h.get? a=some { cls:= .type "list",data:= .seq vs.toArray }/\IntsAre vs ns/\ns.length<=n:=by
 have hsh:WShape.hasAll [] args [.list .int]=true:=(pre_splitW hpre).1
 have hc:l.pre.holds [] { args:=args }=true:=(pre_splitW hpre).2
 obtain ⟨d,r,rfl,h1,h2⟩:=hasAllW_cons hsh
 obtain rfl:=hasAllW_nil h2
 obtain ⟨xs,rfl,h3⟩:=hasW_list h1
 obtain ⟨ns,rfl⟩:=items_int h3
 have hlen:ns.length<=n:=by
  unfold OpenLaw.pre at hc
  have h4:(WTm.not (.lt (.lit (.int (n:Int))) (.len (.arg 0)))).holds [] { args:=[.list (ns.map .int)] }=true:=by
   have h4:=(holds_andW hc).1
   rw [hn] at h4
   exact h4
  have h5:=condW_of h4 (w_not (w_lt w_lit (w_len_list (w_arg rfl))))
  rw [List.length_map] at h5
  refine Nat.le_of_not_lt fun q=> ?_
  have q' :(n:Int) < ((ns.length:Nat):Int):=by omega
  first
   | (rw [decide_eq_true q'] at h5; exact absurd h5 (by decide))
   | (simp at h5; omega)
 cases hwl with
 | cons w1 w2=>
  cases w2
  cases w1 with
  | list ho hall=>exact ⟨_,_,ns,rfl,rfl,ho,jq ns _ hall,hlen⟩
theorem WM (l:OpenLaw) (args:List WData):l.row.toRowW.claim.post args (.bool true) args=true:=
 postW_of (r:=l.row.toRowW) (X:=(true == true))
  (show WShape.has [] (.bool true) .bool=true by first | rfl | decide | simp [WShape.has,WShape.arms,WShape.armsAll])
  (show (WTm.eq .res (.lit (.bool true))).value [] { args:=args,res:=some (.bool true),after:=args }=some (.bool (true == true)) from w_eq_bool (w_res rfl) w_lit) rfl
theorem attach_call {l:OpenLaw} {n:Nat} {q:Program} {loose:List Str} {XP:(Str->Option Value)->Heap->Prop} {YP:World->Heap->Prop} {d:DefRec}
  (hn:l.most=some n) (hdf:d.params.defaults=[])
  (call:∀ (w:World) (s₀ s₁:Shared) (mg mb:Str->Option Value) (fa:Addr) (o:Obj) (pm cd doc:Value) (a:Addr) (vs:List Value) (ns:List Int),
   Ground q loose [] XP w s₀ mg mb s₁.heap->YP w s₁.heap->
   s₁.heap.get? fa=some o->o.data= .func (docDef d.name d.params d.body d.scope pm cd doc)->s₁.heap.CodeRec cd d.name->mg d.name=some (.ref fa)->
   s₁.heap.get? a=some { cls:= .type "list",data:= .seq vs.toArray }->IntsAre vs ns->ns.length<=n->s₁.gens= #[]->
   codeAny (model l.prog w) callerA (.call (.ref fa) ⟨[.ref a],[]⟩) (fun r s' =>r= .ok (.ret (.bool true))/\OldK s₁.heap s'.heap/\s'.os=s₁.os/\AllBare s'.gens) s₁):
  WalkO q loose XP YP l.row.toRowW d [] (fun f vs=>PySem.call f vs):=by
 intro w s₀ s₁ mg mb G Y fa o pm cd doc dV kV ho hd hcd hD hmg hg args vals as hpre hlay hrd hwl hlo
 obtain rfl:dV= .none:=Dflts.none hD hdf
 obtain rfl:kV= .none:=Dflts.noKw hD
 obtain ⟨a,vs,ns,rfl,rfl,hobj,hints,hlen⟩:=WL hn hpre hwl
 refine enter_call (codeAny_mono (call w s₀ s₁ mg mb fa o pm cd doc a vs ns G Y ho (fd_plain hd) hcd hmg hobj hints hlen hg) fun r s' hq=> ?_)
 obtain ⟨rfl,h2,h3,h4⟩:=hq
 exact ⟨.inl ⟨.bool true, .bool true,[],rfl,fun _=>rfl, .bool true,WM l _,fun _=>⟨List.Pairwise.nil,fun _ hm=>(nomatch hm)⟩⟩,h2,h3,h4⟩
section
variable {prog:Program} {w:World} {A:Around} {E:Value->Shared->Prop} {s:Shared} {K:Frag}
end
end Att
namespace L2
open PySem PySem.Spec PyProof.Rows
theorem JG:∀ {vs:List Value} {ns:List Int},IntsAre vs ns->zR (ns.map V.int) vs
 | _,_, .nil=> .nil
 | _,_, .cons n t h=> .cons ⟨t,rfl⟩ (JG h)
def Qy (H:Hp):Prop:=∀ b,H b=none\/∃ o xs,H b=some (.frz o (.lst xs))
theorem Uk {P:Program} {w:World} {K:PySem.W.Frag} {mg mb:Str->Option Value} {CX:CXT} {k:Nat} {fa a:Addr} {fd:FuncData} {x:Str} {sp:Sp} {s₁:Shared} {vs:List Value} {ns:List Int}
  (KX:K.In s₁.heap) (hns:s₁.heap.Ns mainGlobals mg) (hb:s₁.heap.Ns builtinsNs mb) (hbb:∀ x:Str,x ≠ "__name__"->mb x=bootBuiltins x) (hlim:s₁.heap.NoLimit) (hg:s₁.gens= #[])
  (ha:s₁.heap.get? a=some { cls:= .type "list",data:= .seq vs.toArray }) (hi:IntsAre vs ns) (hl:ns.length<=sizeLine) (hr:jI k callerA)
  (F:∀ base:Heap,K.In base->base.Ns mainGlobals mg->Zl P w K mg base CX k fa fd [x] sp) (hbind:∀ (s:Shared) (u:Value),BindsTo s fd ⟨[u],[]⟩ [(x,u)])
  (hsp:∀ H:Hp,Qy H->SqL K H a (ns.map V.int)->sp [.ref a] H (fun v _=>v= .bl true) fun _ _ _=>False)
  (hCX:∀ H e s',CX [] H s₁ (fun _ _ _=>False) e s' ->False):
  codeAny (model P w) callerA (.call (.ref fa) ⟨[.ref a],[]⟩) (fun r s' =>r= .ok (.ret (.bool true))/\OldK s₁.heap s'.heap/\s'.os=s₁.os/\AllBare s'.gens) s₁:=by
 have rv:=JG hi
 have lenV:=hi.length
 have core:∀ H:Hp,Qy H->SqL K H a (ns.map V.int)->HOk P w H s₁.heap->(∀ b,H b ≠ none->b=a)->(H a ≠ none->K.lookup a=none)->
   codeAny (model P w) callerA (.call (.ref fa) ⟨[.ref a],[]⟩) (fun r s' =>r= .ok (.ret (.bool true))/\OldK s₁.heap s'.heap/\s'.os=s₁.os/\AllBare s'.gens) s₁:=by
  intro H hO hS hok hA hK
  have base_of:∀ {b:Addr} {o:Obj},s₁.heap.get? b=some o->H b=none->(U9 s₁.heap H).get? b=some o:=fun e n=>Ua e n
  have noA:∀ {b:Addr} {o:Obj} {es:Array DictEntry} {ep:Nat},s₁.heap.get? b=some o->o.data= .dict es ep->H b=none:=fun {b o es ep} e d=>by
   cases q:H b with
   | none=>rfl
   | some u=>
    have e' :b=a:=hA b (by rw [q]; simp)
    subst e'
    rw [ha] at e; cases e
    have d' :Data.seq vs.toArray _=Data.dict es ep:=d
    cases d'
  have nsK:∀ {b:Addr} {m:Str->Option Value},s₁.heap.Ns b m->(U9 s₁.heap H).Ns b m:=fun {b m} ⟨o,es,ep,e,d,r⟩=>⟨o,es,ep,base_of e (noA e d),d,r⟩
  have hKb:K.In (U9 s₁.heap H):=fun b o e=>base_of (KX b o e) (by
   cases q:H b with
   | none=>rfl
   | some u=>
    have e' :b=a:=hA b (by rw [q]; simp)
    subst e'
    rw [hK (by rw [q]; simp)] at e; cases e)
  have hM:Mod K mg (U9 s₁.heap H):=⟨hKb,nsK hns,⟨mb,nsK hb,hbb⟩,let ⟨mc,h1,h2⟩:=hlim; ⟨mc,nsK h1,h2⟩⟩
  have e0:Qw P w K mg (U9 s₁.heap H) callerA [] s₁ H:=⟨rfl,hM,fun b o e=>yu e,Nat.le_of_eq (Wv _ _),trivial,fun b hb=>absurd (show b∈([]:List Addr) from hb) (by simp),hok, .of_eq hg⟩
  refine codeAny_mono ((F _ hKb (nsK hns)).run callerA [] s₁ H ⟨[.ref a],[]⟩ [.ref a] [.ref a] _ _ hr e0 (hbind s₁ (.ref a)) (.cons rfl .nil) (hsp H hO hS)) fun r s' h=> ?_
  cases r with
  | error e=>exact (hCX H e s' h).elim
  | ok fl=>
   cases fl with
   | next=>exact False.elim h
   | brk=>exact False.elim h
   | cont=>exact False.elim h
   | ret u=>
    obtain ⟨v,H',os,bare,un,hok',r',q⟩:=h
    have q' :v= .bl true:=q
    subst q'
    obtain rfl:u=Value.bool true:=r'
    refine ⟨rfl,OldK.of_keep fun b o e=> ?_,os,bare⟩
    cases q:H b with
    | none=>exact un.keep b o e q (by intro z; exact absurd (show b∈([]:List Addr) from z) (by simp)) (by simp)
    | some u=>
     rcases hO b with z | ⟨ob,xs,z⟩
     ·rw [q] at z; cases z
     ·have z2:=un.frzs b ob _ z
      obtain ⟨e1,_⟩:=hok b _ z
      obtain ⟨e2,_⟩:=hok' b _ z2
      rw [e] at e1; cases e1
      exact e2
 cases hk:K.lookup a with
 | some o=>
  have e:=KX a o hk
  rw [ha] at e
  cases e
  refine core (fun _=>none) (fun _=> .inl rfl) (.inr ⟨_,vs.toArray,_,hk,rfl,rfl,rfl,by rw [List.size_toArray,lenV]; exact hl,by simpa using rv⟩) (fun b u z=>by have z' :(none:Option HO)=some u:=z; cases z') (fun b z=>absurd rfl z) fun z=>absurd rfl z
 | none=>
  refine core (fun b=>if b=a then some (.frz { cls:= .type "list",data:= .seq vs.toArray } (.lst (ns.map V.int))) else none) (fun b=> ?_) (.inl (.inr ⟨{ cls:= .type "list",data:= .seq vs.toArray },if_pos rfl⟩)) (fun b u z=> ?_) (fun b z=> ?_) fun _=>hk
  ·by_cases hb:b=a
   ·exact .inr ⟨_,_,if_pos hb⟩
   ·exact .inl (if_neg hb)
  ·by_cases hb:b=a
   ·have z' :=(if_pos hb).symm.trans z
    cases z'
    subst hb
    exact ⟨ha,by rw [List.length_map]; exact hl,vs,_,rv,ha⟩
   ·have z' :=(if_neg hb).symm.trans z
    cases z'
  ·by_cases hb:b=a
   ·exact hb
   ·exact absurd (if_neg hb) z
end L2
namespace L2
open PySem PySem.Spec PyProof.Rows
theorem walk_of {l:PySem.W.OpenLaw} {n k:Nat} {q:Program} {loose:List Str} {XP:(Str->Option Value)->Heap->Prop} {YP:World->Heap->Prop} {d:DefRec} {K:Params->PySem.W.Frag} {CX:World->CXT} {sp:World->Sp} {x:Str}
  (hn:l.most=some n) (hn2:n<=sizeLine) (hdf:d.params.defaults=[]) (hr:jI k callerA)
  (hY:∀ (w:World) (h:Heap),YP w h->(K w.params).In h)
  (F:∀ (w:World) (mg:Str->Option Value) (fa:Addr) (h:Heap),(K w.params).In h->h.Ns mainGlobals mg->mg d.name=some (.ref fa)->
   ∃ fd:FuncData,(∀ (s:Shared) (u:Value),BindsTo s fd ⟨[u],[]⟩ [(x,u)])/\
    ∀ base:Heap,(K w.params).In base->base.Ns mainGlobals mg->Zl l.prog w (K w.params) mg base (CX w) k fa fd [x] (sp w))
  (hsp:∀ (w:World) (H:Hp) (a:Addr) (ns:List Int),ns.length<=n->Qy H->SqL (K w.params) H a (ns.map V.int)->sp w [.ref a] H (fun v _=>v= .bl true) fun _ _ _=>False)
  (hCX:∀ (w:World) (H:Hp) (s:Shared) (e:Value) (s' :Shared),CX w [] H s (fun _ _ _=>False) e s' ->False):
  PySem.W.WalkO q loose XP YP l.row.toRowW d [] (fun f vs=>PySem.call f vs):=by
 refine Att.attach_call hn hdf fun w s₀ s₁ mg mb fa o pm cd doc a vs ns G Y ho hd hcd hmg hobj hints hlen hg=> ?_
 have KX:=hY w _ Y
 obtain ⟨fd,hb,hF⟩:=F w mg fa _ KX G.T.g hmg
 exact Uk KX G.T.g G.T.b G.T.builtins G.T.nolimit hg hobj hints (Nat.le_trans hlen hn2) hr hF hb (fun H hO hS=>hsp w H a ns hlen hO hS) fun H e s' =>hCX w H s₁ e s'
end L2
namespace L2
open PySem PySem.Spec PyProof.Rows
def ZA (s:Stmt):Arguments:=match s with
 | .FunctionDef _ a _ _ _ _ _ _ _ _=>a
 | _=>{ posonlyargs:=[],args:=[],vararg:=none,kwonlyargs:=[],kw_defaults:=[],kwarg:=none,defaults:=[] }
def Zq (s:Stmt):List Stmt:=match s with
 | .FunctionDef _ _ b _ _ _ _ _ _ _=>b
 | _=>[]
def zb (s:Stmt):Scope:=match s with
 | .FunctionDef _ _ _ _ _ _ sc _ _ _=>sc
 | _=>{ kind:= .function,names:=[],isGenerator:=false,isCoroutine:=false }
abbrev CX0:CXT:=fun _ _ _ _ _ _=>False
structure Fun (K:PySem.W.Frag) (x qual:Str) (st:Stmt) (f:Addr) (fd:FuncData):Prop where
 ex:∃ (oc:Value) (od:Option Addr) (kV doc pm:Value) (an:Option Addr) (cdv ct:Value) (osl:Array (Option Value)),
  fd=PySem.W.fnOf x qual (ZA st) (Zq st) (zb st) .none kV doc pm an cdv ct/\K.lookup f=some ⟨oc,od, .func fd,osl⟩/\PySem.W.codeIn K cdv qual=true
 kp:PySem.W.keepIn K (.ref f)=true
section
variable {P:Program} {w:World} {K:PySem.W.Frag} {mg:Str->Option Value} {base:Heap}
theorem Fun.ok {x qual:Str} {st:Stmt} {f:Addr} {fd:FuncData} {N ps:List Str} {k:Nat} {sp:Sp} (F:Fun K x qual st f fd) (S:zi N ps (zb st)) (len:∀ vs H Q E,sp vs H Q E->vs.length=ps.length)
  (hbody:∀ (cdv:Value) (A:Around) (outer:List Env) (s:Shared) (H:Hp) (vs:List V) (Q:VK) (E:XK),jI k (A.deeper (envOfC qual (zb st) s.heap.objs.size f cdv))->sp vs H Q E->
   ∃ t,PSs (yG CX0 P w K mg base N qual (zb st) f cdv A outer s H E).nox (Zq st) t/\t { nx:=fun _ H' =>Q .non H',rt:=Q } (start N vs) H):Zl P w K mg base CX0 (k+1) f fd ps sp:=by
 obtain ⟨oc,od,kV,doc,pm,an,cdv,ct,osl,rfl,lk,hcd⟩:=F.ex
 refine vd lk hcd S len fun A outer s H vs Q E hr hsp=> ?_
 obtain ⟨t,h,q⟩:=hbody cdv A outer s H vs Q E hr hsp
 exact ⟨t,h.nox,q⟩
theorem Fun.binds {x qual:Str} {st:Stmt} {f:Addr} {fd:FuncData} {ps:List Str} (F:Fun K x qual st f fd)
  (h:∀ (kV doc pm:Value) (an:Option Addr) (cdv ct:Value) (us:List Value),us.length=ps.length->bindArgs (PySem.W.fnOf x qual (ZA st) (Zq st) (zb st) .none kV doc pm an cdv ct) ⟨us,[]⟩=pure (ps.zip us)):Binds K fd ps []:=by
 obtain ⟨oc,od,kV,doc,pm,an,cdv,ct,osl,rfl,lk,hcd⟩:=F.ex
 exact .all (h kV doc pm an cdv ct)
theorem qt {x qual:Str} {st:Stmt} {f:Addr} {oc:Value} {od an:Option Addr} {osl:Array (Option Value)} {kV doc pm cdv ct:Value} (l:K.lookup f=some ⟨oc,od, .func (PySem.W.fnOf x qual (ZA st) (Zq st) (zb st) .none kV doc pm an cdv ct),osl⟩)
  (c:PySem.W.codeIn K cdv qual=true) (k:PySem.W.keepIn K (.ref f)=true):Fun K x qual st f (PySem.W.fnOf x qual (ZA st) (Zq st) (zb st) .none kV doc pm an cdv ct):=⟨⟨oc,od,kV,doc,pm,an,cdv,ct,osl,rfl,l,c⟩,k⟩
end
section
variable {X:Cx}
theorem pv (i:Nat) {x:Str} {pos:Pos} (hN:X.N[i]? =some x:=by rfl) (hv:Vis X.env.scope x:=by first | exact Or.inl rfl | exact Or.inr (Or.inl rfl) | exact Or.inr (Or.inr rfl)) (hd:(x == ("__debug__":Str))=false:=by decide)
  (hcd:(x == ("__classdict__":Str))=false:=by decide):PE X (.Name x pos) (YR i):=YS hN hv hd hcd
end
def zt (H H' :Hp):Prop:=∀ b o,H b=some o->H' b=some o
theorem zt.refl (H:Hp):zt H H:=fun _ _ h=>h
theorem zt.trans {H H1 H2:Hp} (a:zt H H1) (b:zt H1 H2):zt H H2:=fun c o h=>b c o (a c o h)
theorem zt.free {H H' :Hp} (e:zt H H') {l:Addr} (h:H' l=Option.none):H l=Option.none:=by
 cases q:H l with
 | none=>rfl
 | some o=>
  rw [e l o q] at h
  cases h
end L2
namespace L2
open PySem PySem.Spec PyProof.Rows PySem.W
section
variable {X:Cx} {pins:List (Addr×Obj)} {σ:St} {H H' :Hp} {s s' :Shared} {ea:Addr} {cls a0:Value} {B:Heap} {h' h'' :Heap}
end
section
variable {P:Program} {w:World} {K:Frag} {mg:Str->Option Value} {base:Heap} {N:List Str} {qual:Str} {scope:Scope} {f:Addr} {cd:Value} {A:Around} {outer:List Env} {s:Shared} {H:Hp} {E:XK}
end
end L2
namespace L2
open PySem PySem.Spec PyProof.Rows PySem.W
def VB (cls:Value) (a:Addr) (h:Heap):Prop:=∃ o,h.get? a=some o/\o.cls=cls
abbrev Cx.try' (X:Cx) (pn:List (Addr×Obj)) (xe:Value->Shared->Prop):Cx:={ X with pn:=pn,xe:=xe }
section
variable {X:Cx} {pins pins' :List (Addr×Obj)} {σ:St} {H H' :Hp} {s s' :Shared} {xe:Value->Shared->Prop}
theorem Cx.Ok.try' (ok:X.Ok) {pn:List (Addr×Obj)}:(X.try' pn xe).Ok:=
 ⟨ok.mod,ok.kind,ok.glob,ok.blt,ok.above,ok.inj,ok.has,ok.cab,ok.hd,ok.frames,ok.stk,ok.exf,ok.bs,ok.bsz,ok.noex,ok.exfs,ok.funs,ok.frf⟩
theorem Cx.Ok.untry {pn:List (Addr×Obj)} (ok:(X.try' pn xe).Ok):X.Ok:=
 ⟨ok.mod,ok.kind,ok.glob,ok.blt,ok.above,ok.inj,ok.has,ok.cab,ok.hd,ok.frames,ok.stk,ok.exf,ok.bs,ok.bsz,ok.noex,ok.exfs,ok.funs,ok.frf⟩
theorem Inv.try' (I:Inv X pins σ H s) (xe:Value->Shared->Prop):Inv (X.try' (X.pn++pins) xe) [] σ H s:=
 ⟨I.ok.try',I.os,I.bare,I.base,I.loc,I.cell,I.free,I.freeC,fun p hp=>I.pin p (by simpa using hp),I.hok,I.len⟩
theorem Inv.untry (I:Inv (X.try' (X.pn++pins) xe) pins' σ H s):Inv X pins σ H s:=
 ⟨I.ok.untry,I.os,I.bare,I.base,I.loc,I.cell,I.free,I.freeC,fun p hp=>I.pin p (List.mem_append_left _ hp),I.hok,I.len⟩
theorem SP.untry {D:Ub} {f:Flow} {pins' :List (Addr×Obj)} (h:SP (X.try' (X.pn++pins) xe) pins' D f s'):SP X pins D f s' :=by
 cases f with
 | next=>obtain ⟨σ',H',I,q⟩:=h; exact ⟨σ',H',I.untry,q⟩
 | brk=>obtain ⟨σ',H',I,q⟩:=h; exact ⟨σ',H',I.untry,q⟩
 | cont=>obtain ⟨σ',H',I,q⟩:=h; exact ⟨σ',H',I.untry,q⟩
 | ret u=>obtain ⟨v,σ',H',I,r,q⟩:=h; exact ⟨v,σ',H',I.untry,r,q⟩
end
section
variable {prog:Program} {w:World} {A:Around} {E:Value->Shared->Prop} {s:Shared} {env:Env}
end
end L2
namespace L2
open PySem PySem.Spec PyProof.Rows PySem.W
section
variable {X:Cx} {pins:List (Addr×Obj)} {σ:St} {H H' :Hp} {s s' :Shared} {ea:Addr} {cls a0:Value} {B:Heap} {h3:Heap}
end
end L2
namespace L2
open PySem PySem.Spec PyProof.Rows
theorem PE.imp {X:Cx} {e:Expr} {t t' :TE} (h:PE X e t) (i:∀ σ H Q,t' σ H Q->t σ H Q):PE X e t' :=fun pins s σ H Q I q=>h pins s σ H Q I (i σ H Q q)
theorem PT.imp {X:Cx} {e:Expr} {t t' :TT} (h:PT X e t) (i:∀ σ H Q,t' σ H Q->t σ H Q):PT X e t' :=fun pins s σ H Q I q=>h pins s σ H Q I (i σ H Q q)
theorem PA.imp {X:Cx} {e:List Expr} {t t' :TA} (h:PA X e t) (i:∀ σ H Q,t' σ H Q->t σ H Q):PA X e t' :=fun pos pins s σ H Q I q=>h pos pins s σ H Q I (i σ H Q q)
theorem PS.imp {X:Cx} {e:Stmt} {t t' :TS} (h:PS X e t) (i:∀ D σ H,t' D σ H->t D σ H):PS X e t' :=fun pins s σ H D I q=>h pins s σ H D I (i D σ H q)
theorem PSs.imp {X:Cx} {e:List Stmt} {t t' :TS} (h:PSs X e t) (i:∀ D σ H,t' D σ H->t D σ H):PSs X e t' :=fun pins s σ H D I q=>h pins s σ H D I (i D σ H q)
end L2
namespace PV
open PySem
def JH:Expr->Bool
 | .Starred _ _=>false
 | _=>true
theorem Z6 {e:Expr} {rest:List Expr} {env:Env} (h:JH e=true):starEach (e :: rest) env=(false,eval e env) :: starEach rest env:=by
 cases e <;> first | rfl | cases h
theorem st2 {a b:Expr} {env:Env} (h:JH a=true) (h' :JH b=true):starEach [a,b] env=[(false,eval a env),(false,eval b env)]:=by
 rw [Z6 h,Z6 h']; rfl
theorem st1 {a:Expr} {env:Env} (h:JH a=true):starEach [a] env=[(false,eval a env)]:=by
 rw [Z6 h]; rfl
theorem ZS {pos:Pos} {env:Env}:∀ {es:List Expr},es.all JH=true->((backTo pos (starEach es env)).any fun x=>x.fst)=false
 | [],_=>rfl
 | e :: es,h=>by
  rw [List.all_cons,Bool.and_eq_true] at h
  rw [Z6 h.1]
  have:=ZS (pos:=pos) (env:=env) h.2
  show (false || ((backTo pos (starEach es env)).any fun x=>x.fst))=false
  rw [this]; rfl
open PySem PySem.Spec PyProof.Rows L2
abbrev Sg:=L2.St
inductive T where
 | non | bl (b:Bool) | int (i:Int) | str (x:Str) | tup (xs:List T) | lst (xs:List T) | fz (xs:List T)
inductive R (α:Type) where
 | ok (a:α) | ex (c:Nat) | bad
def R.bind {α β:Type} (r:R α) (f:α->R β):R β:=match r with
 | .ok a=>f a
 | .ex c=> .ex c
 | .bad=> .bad
mutual
inductive Rep (H:Hp):V->T->Prop where
 | non:Rep H .non .non
 | bl (b:Bool):Rep H (.bl b) (.bl b)
 | int (i:Int):Rep H (.int i) (.int i)
 | str (x:Str):Rep H (.str x) (.str x)
 | tup {a:Addr} {xs:List V} {ts:List T}:H a=some (.tup xs)->zy H xs ts->Rep H (.ref a) (.tup ts)
 | lst {a:Addr} {xs:List V} {ts:List T}:H a=some (.lst xs)->zy H xs ts->Rep H (.ref a) (.lst ts)
 | fz {a:Addr} {o:Obj} {xs:List V} {ts:List T}:H a=some (.frz o (.lst xs))->zy H xs ts->Rep H (.ref a) (.fz ts)
inductive zy (H:Hp):List V->List T->Prop where
 | nil:zy H [] []
 | cons {v:V} {t:T} {vs:List V} {ts:List T}:Rep H v t->zy H vs ts->zy H (v :: vs) (t :: ts)
end
mutual
theorem Rep.mono {H H' :Hp} (s:zt H H'):∀ {v:V} {t:T},Rep H v t->Rep H' v t
 | _,_, .non=> .non
 | _,_, .bl b=> .bl b
 | _,_, .int i=> .int i
 | _,_, .str x=> .str x
 | _,_, .tup h r=> .tup (s _ _ h) (zy.mono s r)
 | _,_, .lst h r=> .lst (s _ _ h) (zy.mono s r)
 | _,_, .fz h r=> .fz (s _ _ h) (zy.mono s r)
theorem zy.mono {H H' :Hp} (s:zt H H'):∀ {v:List V} {t:List T},zy H v t->zy H' v t
 | _,_, .nil=> .nil
 | _,_, .cons h r=> .cons (Rep.mono s h) (zy.mono s r)
end
theorem zy.length {H:Hp}:∀ {vs:List V} {ts:List T},zy H vs ts->vs.length=ts.length
 | _,_, .nil=>rfl
 | _,_, .cons _ r=>congrArg (·+1) (zy.length r)
theorem zy.get {H:Hp}:∀ {vs:List V} {ts:List T} {i:Nat} {t:T},zy H vs ts->ts[i]? =some t->∃ v,vs[i]? =some v/\Rep H v t
 | _,_,_,_, .nil,e=>by simp at e
 | _,_,0,_, .cons r _,e=>by simp at e; subst e; exact ⟨_,rfl,r⟩
 | _,_,i+1,t, .cons _ q,e=>by
  obtain ⟨v,h1,h2⟩:=zy.get (i:=i) (t:=t) q (by simpa using e)
  exact ⟨v,by simpa using h1,h2⟩
theorem zy.getV {H:Hp}:∀ {vs:List V} {ts:List T} {i:Nat} {v:V},zy H vs ts->vs[i]? =some v->∃ t,ts[i]? =some t/\Rep H v t
 | _,_,_,_, .nil,e=>by simp at e
 | _,_,0,_, .cons r _,e=>by simp at e; subst e; exact ⟨_,rfl,r⟩
 | _,_,i+1,v, .cons _ q,e=>by
  obtain ⟨t,h1,h2⟩:=zy.getV (i:=i) (v:=v) q (by simpa using e)
  exact ⟨t,by simpa using h1,h2⟩
theorem zy.append {H:Hp}:∀ {vs ws:List V} {ts us:List T},zy H vs ts->zy H ws us->zy H (vs++ws) (ts++us)
 | _,_,_,_, .nil,q=>q
 | _,_,_,_, .cons r t,q=> .cons r (zy.append t q)
theorem zy.rep {H:Hp} {vs:List V} {ts:List T} (h:zy H vs ts):∀ n:Nat,zy H (List.replicate n vs).flatten (List.replicate n ts).flatten
 | 0=> .nil
 | n+1=>by
  rw [List.replicate_succ,List.replicate_succ,List.flatten_cons,List.flatten_cons]
  exact h.append (zy.rep h n)
theorem zy.nil_iff {H:Hp} {vs:List V} {ts:List T} (h:zy H vs ts):vs=[]↔ts=[]:=by
 cases h <;> simp
def zE (B H H' :Hp):Hp:=fun b=>match H b with
 | none=>H' b
 | some _=>B b
theorem Z7 {B H H' :Hp} {b:Addr} (h:H b=none):zE B H H' b=H' b:=by unfold zE; rw [h]
theorem zV {B H H' :Hp} {b:Addr} {o:HO} (h:H b=some o):zE B H H' b=B b:=by unfold zE; rw [h]
theorem zE.ge {B H H' :Hp} (s:zt B H) (s' :zt H H'):zt B (zE B H H'):=fun b o h=>by
 rw [zV (s b o h)]; exact h
theorem zE.le {B H H' :Hp} (s:zt B H) (s' :zt H H'):zt (zE B H H') H' :=fun b o h=>by
 cases q:H b with
 | none=>rw [Z7 q] at h; exact h
 | some u=>rw [zV q] at h; exact s' b o (s b o h)
theorem zE.self (B H:Hp) (s:zt B H):zE B H H=B:=by
 funext b
 cases q:H b with
 | none=>
  rw [Z7 q,q]
  cases z:B b with
  | none=>rfl
  | some o=>rw [s b o z] at q; cases q
 | some u=>rw [zV q]
theorem zE.trans {B H H1 H2:Hp} (s1:zt H H1) (s2:zt H1 H2):zE (zE B H H1) H1 H2=zE B H H2:=by
 funext b
 cases q:H b with
 | none=>
  rw [Z7 q]
  cases z:H1 b with
  | none=>rw [Z7 z]
  | some o=>rw [zV z,Z7 q,z,s2 b o z]
 | some u=>rw [zV q,zV (s1 b u q),zV q]
inductive Sl where
 | un | vl (t:T) | ow (ts:List T) | xc (c:Nat)
abbrev En:=List Sl
structure Fx where
 B0:Hp
 H0:Hp
 E:XK
 cl:Nat->Value
structure SI (Y:Fx) (B:Hp) (ρ:En) (σ:Sg) (H:Hp):Prop where
 s0:zt Y.B0 Y.H0
 sH:zt Y.H0 H
 sB:zt B H
 old:∀ b o,Y.H0 b=some o->B b=Y.B0 b
 len:ρ.length=σ.length
 vl:∀ (i:Nat) (t:T),ρ[i]? =some (Sl.vl t)->∃ v:V,σ[i]? =some (some v)/\Rep B v t
 ow:∀ (i:Nat) (ts:List T),ρ[i]? =some (Sl.ow ts)->∃ (a:Addr) (xs:List V),σ[i]? =some (some (V.ref a))/\B a=none/\Y.H0 a=none/\H a=some (.lst xs)/\zy B xs ts/\
  ∀ (j:Nat) (us:List T),j ≠ i->ρ[j]? =some (Sl.ow us)->σ[j]? ≠ some (some (V.ref a))
 xc:∀ (i:Nat) (c:Nat),ρ[i]? =some (Sl.xc c)->∃ a:Addr,σ[i]? =some (some (V.ref a))/\B a=some (.ext (VB (Y.cl c) a))
theorem SI.grow {Y:Fx} {B:Hp} {ρ:En} {σ:Sg} {H H' :Hp} (I:SI Y B ρ σ H) (s:zt H H'):SI Y (zE B H H') ρ σ H' where
 s0:=I.s0
 sH:=I.sH.trans s
 sB:=zE.le I.sB s
 old:=fun b o h=>by rw [zV (I.sH b o h)]; exact I.old b o h
 len:=I.len
 vl:=fun i t h=>let ⟨v,e,r⟩:=I.vl i t h; ⟨v,e,r.mono (zE.ge I.sB s)⟩
 ow:=fun i ts h=>let ⟨a,xs,e,b,h0,hh,r,d⟩:=I.ow i ts h; ⟨a,xs,e,by rw [zV hh]; exact b,h0,s _ _ hh,r.mono (zE.ge I.sB s),d⟩
 xc:=fun i c h=>let ⟨a,e,r⟩:=I.xc i c h; ⟨a,e,zE.ge I.sB s a _ r⟩
def XP (Y:Fx) (B:Hp) (c:Nat):Prop:=∀ (d:Option Addr) (H' :Hp),zt Y.H0 H' ->zt B H' ->Y.E (Y.cl c) d H'
def Po {α β:Type} (Y:Fx) (rel:Hp->Hp->β->α->Prop) (B H:Hp) (r:R α) (Q:β->Hp->Prop):Prop:=match r with
 | .ok a=>∀ b H',zt H H' ->rel (zE B H H') H' b a->Q b H'
 | .ex c=>XP Y B c
 | .bad=>False
abbrev rC:Hp->Hp->V->T->Prop:=fun B _ v t=>Rep B v t
abbrev rB:Hp->Hp->V->T->Prop:=fun _ H v t=>Rep H v t
abbrev rCs:Hp->Hp->List V->List T->Prop:=fun B _ v t=>zy B v t
abbrev rE {α:Type}:Hp->Hp->α->α->Prop:=fun _ _ a b=>a=b
def tS {α β:Type} (Y:Fx) (rel:Hp->Hp->β->α->Prop) (f:En->R α) (ρ:En):Sg->Hp->(β->Hp->Prop)->Prop:=fun σ H Q=>∃ B,SI Y B ρ σ H/\Po Y rel B H (f ρ) Q
structure Snd (X:Cx) (Y:Fx) (e:Expr) (f:En->R T):Prop where
 mk ::
 go:∀ ρ,PE X e (tS Y rC f ρ)
instance {X:Cx} {Y:Fx} {e:Expr} {f:En->R T}:CoeFun (Snd X Y e f) fun _=>∀ ρ,PE X e (tS Y rC f ρ):=⟨Snd.go⟩
structure j8 (X:Cx) (Y:Fx) (e:Expr) (f:En->R T):Prop where
 mk ::
 go:∀ ρ,PE X e (tS Y rB f ρ)
instance {X:Cx} {Y:Fx} {e:Expr} {f:En->R T}:CoeFun (j8 X Y e f) fun _=>∀ ρ,PE X e (tS Y rB f ρ):=⟨j8.go⟩
structure wJ (X:Cx) (Y:Fx) (e:Expr) (f:En->R Bool):Prop where
 mk ::
 go:∀ ρ,PT X e (tS Y rE f ρ)
instance {X:Cx} {Y:Fx} {e:Expr} {f:En->R Bool}:CoeFun (wJ X Y e f) fun _=>∀ ρ,PT X e (tS Y rE f ρ):=⟨wJ.go⟩
structure WN (X:Cx) (Y:Fx) (es:List Expr) (f:En->R (List T)):Prop where
 mk ::
 go:∀ ρ,PA X es (tS Y rCs f ρ)
instance {X:Cx} {Y:Fx} {es:List Expr} {f:En->R (List T)}:CoeFun (WN X Y es f) fun _=>∀ ρ,PA X es (tS Y rCs f ρ):=⟨WN.go⟩
theorem step {α α' β β' :Type} {Y:Fx} {rel:Hp->Hp->β->α->Prop} {rel' :Hp->Hp->β' ->α' ->Prop} {f:En->R α} {k:α->R α'} {ρ:En} {B:Hp} {σ:Sg} {H:Hp} {Q:β' ->Hp->Prop} {K:β->Hp->Prop}
  (I:SI Y B ρ σ H) (h:Po Y rel' B H ((f ρ).bind k) Q)
  (n:∀ a b H1,f ρ= .ok a->zt H H1->rel (zE B H H1) H1 b a->SI Y (zE B H H1) ρ σ H1->Po Y rel' (zE B H H1) H1 (k a) Q->K b H1):tS Y rel f ρ σ H K:=by
 refine ⟨B,I, ?_⟩
 cases e:f ρ with
 | bad=>rw [e] at h; exact h
 | ex c=>rw [e] at h; exact h
 | ok a=>
  rw [e] at h
  intro b H1 s r
  refine n a b H1 e s r (I.grow s) ?_
  have h' :Po Y rel' B H (k a) Q:=h
  revert h'
  cases k a with
  | bad=>exact fun h' =>h'
  | ex c=>exact fun h' d H' s0 sB' =>h' d H' s0 ((zE.ge I.sB s).trans sB')
  | ok a' =>exact fun h' b' H2 s2 r2=>h' b' H2 (s.trans s2) (by rw [← zE.trans s s2]; exact r2)
theorem Zv {α β:Type} {Y:Fx} {rel:Hp->Hp->β->α->Prop} {ρ:En} {B:Hp} {σ:Sg} {H:Hp} {a:α} {b:β} {Q:β->Hp->Prop} (I:SI Y B ρ σ H) (h:Po Y rel B H (.ok a) Q) (r:rel B H b a):Q b H:=h b H (zt.refl H) (by rw [zE.self B H I.sB]; exact r)
theorem Snd.b {X:Cx} {Y:Fx} {e:Expr} {f:En->R T} (h:Snd X Y e f):j8 X Y e f:= .mk fun ρ=>PE.imp (h ρ) fun σ H Q ⟨B,I,q⟩=>⟨B,I,by
 revert q
 cases f ρ with
 | bad=>exact fun q=>q
 | ex c=>exact fun q=>q
 | ok a=>exact fun q b H' s r=>q b H' s (r.mono (zE.le I.sB s))⟩
section
variable {X:Cx} {Y:Fx} {a b c:Expr} {fa fb fc:En->R T} {pos:Pos}
def vE (i:Nat):En->R T:=fun ρ=>match ρ[i]? with
 | some (.vl t)=> .ok t
 | _=> .bad
def vB (i:Nat):En->R T:=fun ρ=>match ρ[i]? with
 | some (.vl t)=> .ok t
 | some (.ow ts)=> .ok (.lst ts)
 | _=> .bad
def cE (t:T):En->R T:=fun _=> .ok t
theorem z8 (i:Nat) {x:Str} (h:PE X (.Name x pos) (YR i)):Snd X Y (.Name x pos) (vE i):= .mk fun ρ=>PE.imp h fun σ H Q ⟨B,I,q⟩=>by
 unfold vE at q
 split at q
 ·rename_i t e
  obtain ⟨v,e1,r⟩:=I.vl i t e
  exact ⟨v,e1,Zv I q r⟩
 ·exact q.elim
theorem zj (i:Nat) {x:Str} (h:PE X (.Name x pos) (YR i)):j8 X Y (.Name x pos) (vB i):= .mk fun ρ=>PE.imp h fun σ H Q ⟨B,I,q⟩=>by
 unfold vB at q
 split at q
 ·rename_i t e
  obtain ⟨v,e1,r⟩:=I.vl i t e
  exact ⟨v,e1,Zv I q (r.mono I.sB)⟩
 ·rename_i ts e
  obtain ⟨a,xs,e1,_,_,hh,r,_⟩:=I.ow i ts e
  exact ⟨.ref a,e1,Zv I q (.lst hh (r.mono I.sB))⟩
 ·exact q.elim
theorem z9 {i j}:Snd X Y (.Constant (.int i) j pos) (cE (.int i)):= .mk fun ρ=>PE.imp YT fun σ H Q ⟨B,I,q⟩=>Zv I q (.int i)
theorem qu {i j}:Snd X Y (.Constant (.bool i) j pos) (cE (.bl i)):= .mk fun ρ=>PE.imp QM fun σ H Q ⟨B,I,q⟩=>Zv I q (.bl i)
theorem zm {i j}:Snd X Y (.Constant (.str i) j pos) (cE (.str i)):= .mk fun ρ=>PE.imp Ww fun σ H Q ⟨B,I,q⟩=>Zv I q (.str i)
def ze:En->R (List T):=fun _=> .ok []
def z4 (f:En->R T) (g:En->R (List T)):En->R (List T):=fun ρ=>(f ρ).bind fun t=>(g ρ).bind fun ts=> .ok (t :: ts)
theorem zf:WN X Y [] ze:= .mk fun ρ=>PA.imp zU fun σ H Q ⟨B,I,q⟩=>Zv I q .nil
theorem z7 {es:List Expr} {g:En->R (List T)} (h:Snd X Y a fa) (hs:WN X Y es g) (hq:starEach (a :: es) X.env=(false,eval a X.env) :: starEach es X.env:=by exact Z6 rfl):WN X Y (a :: es) (z4 fa g):= .mk fun ρ=>
 PA.imp (zu (h ρ) (hs ρ) hq) fun σ H Q ⟨B,I,q⟩=>step I q fun t v H1 _ s1 r1 I1 q1=>step I1 q1 fun ts vs H2 _ s2 r2 I2 q2=>Zv I2 q2 (.cons (r1.mono (zE.ge I1.sB s2)) r2)
theorem zt.new {H:Hp} {p:Addr} (h:H p=none) (o:HO):zt H (upd H p o):=fun b u q=>by rw [zr (zv q h)]; exact q
theorem j2 {B H:Hp} {p:Addr} (h:H p=none) (o:HO):zE B H (upd H p o) p=some o:=by rw [Z7 h,Zc]
def bnd:Nat:=16777216
theorem Z8 {n:Nat} (h:n<=bnd):n<=sizeLine:=by rw [sizeLine_eq]; exact h
def ZJ (g:En->R (List T)):En->R T:=fun ρ=>(g ρ).bind fun ts=>if ts.length<=bnd then .ok (.tup ts) else .bad
def Wt (g:En->R (List T)):En->R T:=fun ρ=>(g ρ).bind fun ts=>if ts.length<=bnd then .ok (.lst ts) else .bad
theorem yP {ρ:En} {σ:Sg} {B H:Hp} {xs:List V} {ts:List T} (I:SI Y B ρ σ H) (r:zy B xs ts) {p:Addr} (h:H p=none):Rep (zE B H (upd H p (.tup xs))) (.ref p) (.tup ts):=
 .tup (j2 h _) (r.mono (zE.ge I.sB (zt.new h _)))
theorem yQ {ρ:En} {σ:Sg} {B H:Hp} {xs:List V} {ts:List T} (I:SI Y B ρ σ H) (r:zy B xs ts) {p:Addr} (h:H p=none):Rep (zE B H (upd H p (.lst xs))) (.ref p) (.lst ts):=
 .lst (j2 h _) (r.mono (zE.ge I.sB (zt.new h _)))
theorem ZT {es:List Expr} {g:En->R (List T)} {x1} (h:WN X Y es g):Snd X Y (.Tuple es x1 pos) (ZJ g):= .mk fun ρ=>PE.imp (qj (h ρ)) fun σ H Q ⟨B,I,q⟩=>
 step I q fun ts vs H1 _ s1 r1 I1 q1=>by
  split at q1
  ·rename_i hb
   refine ⟨by rw [r1.length]; exact Z8 hb,fun p hp=>q1 _ _ (zt.new hp _) (yP I1 r1 hp)⟩
  ·exact q1.elim
theorem Ul {es:List Expr} {g:En->R (List T)} (h:WN X Y es g):Snd X Y (.List es pos) (Wt g):= .mk fun ρ=>PE.imp (UU (h ρ)) fun σ H Q ⟨B,I,q⟩=>
 step I q fun ts vs H1 _ s1 r1 I1 q1=>by
  split at q1
  ·rename_i hb
   refine ⟨by rw [r1.length]; exact Z8 hb,fun p hp=>q1 _ _ (zt.new hp _) (yQ I1 r1 hp)⟩
  ·exact q1.elim
end
end PV
namespace PV
open PySem PySem.Spec PyProof.Rows L2
def eqL (f:T->T->Option Bool):List T->List T->Option Bool
 | [],[]=>some true
 | [],_ :: _=>some false
 | _ :: _,[]=>some false
 | x :: xs,y :: ys=>match f x y with
  | none=>none
  | some b=>match eqL f xs ys with
   | none=>none
   | some c=>some (b && c)
def b2 (b:Bool):Int:=if b then 1 else 0
def eqF:Nat->T->T->Option Bool
 | _, .non, .non=>some true
 | _, .bl a, .bl b=>some (a == b)
 | _, .bl a, .int j=>some (b2 a == j)
 | _, .int i, .bl b=>some (i == b2 b)
 | _, .int i, .int j=>some (i == j)
 | _, .str x, .str y=>some (x == y)
 | n+1, .tup xs, .tup ys=>eqL (eqF n) xs ys
 | n+1, .lst xs, .lst ys=>eqL (eqF n) xs ys
 | n+1, .fz xs, .lst ys=>eqL (eqF n) xs ys
 | n+1, .lst xs, .fz ys=>eqL (eqF n) xs ys
 | n+1, .fz xs, .fz ys=>eqL (eqF n) xs ys
 | 0, .tup _, .tup _=>none
 | 0, .lst _, .lst _=>none
 | 0, .fz _, .lst _=>none
 | 0, .lst _, .fz _=>none
 | 0, .fz _, .fz _=>none
 | _, .non,_=>some false
 | _, .bl _,_=>some false
 | _, .int _,_=>some false
 | _, .str _,_=>some false
 | _, .tup _,_=>some false
 | _, .lst _,_=>some false
 | _, .fz _,_=>some false
mutual
theorem Rep.fn {H:Hp}:∀ {v:V} {t t' :T},Rep H v t->Rep H v t' ->t=t'
 | _,_,_, .non, .non=>rfl
 | _,_,_, .bl _, .bl _=>rfl
 | _,_,_, .int _, .int _=>rfl
 | _,_,_, .str _, .str _=>rfl
 | _,_,_, .tup h r, .tup h' r' =>by
  rw [h] at h'; cases h'; rw [zy.fn r r']
 | _,_,_, .tup h r, .lst h' r' =>by rw [h] at h'; cases h'
 | _,_,_, .tup h r, .fz h' r' =>by rw [h] at h'; cases h'
 | _,_,_, .lst h r, .tup h' r' =>by rw [h] at h'; cases h'
 | _,_,_, .lst h r, .lst h' r' =>by
  rw [h] at h'; cases h'; rw [zy.fn r r']
 | _,_,_, .lst h r, .fz h' r' =>by rw [h] at h'; cases h'
 | _,_,_, .fz h r, .tup h' r' =>by rw [h] at h'; cases h'
 | _,_,_, .fz h r, .lst h' r' =>by rw [h] at h'; cases h'
 | _,_,_, .fz h r, .fz h' r' =>by
  rw [h] at h'; cases h'; rw [zy.fn r r']
theorem zy.fn {H:Hp}:∀ {v:List V} {t t' :List T},zy H v t->zy H v t' ->t=t'
 | _,_,_, .nil, .nil=>rfl
 | _,_,_, .cons h r, .cons h' r' =>by rw [Rep.fn h h',zy.fn r r']
end
theorem Z3 {f:T->T->Option Bool} (hf:∀ x b,f x x=some b->b=true):∀ (xs:List T) (b:Bool),eqL f xs xs=some b->b=true
 | [],b,h=>by
  have h' :some true=some b:=h
  cases h'; rfl
 | x :: xs,b,h=>by
  unfold eqL at h
  cases e:f x x with
  | none=>rw [e] at h; cases h
  | some c=>
   rw [e] at h
   cases e' :eqL f xs xs with
   | none=>rw [e'] at h; cases h
   | some d=>
    rw [e'] at h
    cases h
    rw [hf x c e,Z3 hf xs d e']
    rfl
theorem zJ:∀ (n:Nat) (t:T) (b:Bool),eqF n t t=some b->b=true
 | n, .non,b,h=>by unfold eqF at h; cases h; rfl
 | n, .bl x,b,h=>by unfold eqF at h; cases h; simp
 | n, .int x,b,h=>by unfold eqF at h; cases h; simp
 | n, .str x,b,h=>by unfold eqF at h; cases h; simp
 | 0, .tup x,b,h=>by unfold eqF at h; cases h
 | 0, .lst x,b,h=>by unfold eqF at h; cases h
 | 0, .fz x,b,h=>by unfold eqF at h; cases h
 | n+1, .tup x,b,h=>by unfold eqF at h; exact Z3 (zJ n) x b h
 | n+1, .lst x,b,h=>by unfold eqF at h; exact Z3 (zJ n) x b h
 | n+1, .fz x,b,h=>by unfold eqF at h; exact Z3 (zJ n) x b h
theorem WO {f:T->T->Option Bool}:∀ {xs ys:List T} {b:Bool},eqL f xs ys=some b->
  ∃ e:Nat->Bool,(∀ j x y,xs[j]? =some x->ys[j]? =some y->f x y=some (e j))/\((List.range (min xs.length ys.length)).all e && xs.length == ys.length)=b
 | [],[],b,h=>by
  have h' :some true=some b:=h
  cases h'
  exact ⟨fun _=>true,fun j x y h=>by simp at h,by simp⟩
 | [],y :: ys,b,h=>by
  have h' :some false=some b:=h
  cases h'
  exact ⟨fun _=>true,fun j x y h=>by simp at h,by simp⟩
 | x :: xs,[],b,h=>by
  have h' :some false=some b:=h
  cases h'
  exact ⟨fun _=>true,fun j x y h h' =>by simp at h',by simp⟩
 | x :: xs,y :: ys,b,h=>by
  unfold eqL at h
  cases e:f x y with
  | none=>rw [e] at h; cases h
  | some c=>
   rw [e] at h
   cases e' :eqL f xs ys with
   | none=>rw [e'] at h; cases h
   | some d=>
    rw [e'] at h
    cases h
    obtain ⟨g,h1,h2⟩:=WO e'
    refine ⟨fun j=>match j with | 0=>c | j+1=>g j,fun j u v hu hv=> ?_, ?_⟩
    ·cases j with
     | zero=>simp at hu hv; subst hu hv; exact e
     | succ j=>exact h1 j u v (by simpa using hu) (by simpa using hv)
    ·have z:min (x :: xs).length (y :: ys).length=min xs.length ys.length+1:=by simp only [List.length_cons]; omega
     rw [z,List.range_succ_eq_map,List.all_cons,List.all_map]
     have z2:((x :: xs).length == (y :: ys).length)=(xs.length == ys.length):=by simp
     rw [z2,← h2,Bool.and_assoc]
     rfl
section
variable {X:Cx} {pins:List (Addr×Obj)} {σ:Sg} {H:Hp} {s:Shared}
theorem Zr {a:Addr} {xs:List V} {ts:List T} (I:L2.Inv X pins σ H s) (h:H a=some (.tup xs)) (r:zy H xs ts):∃ its:List Value,zR xs its/\s.heap.IsTuple a its.toArray/\ts.length=its.length/\xs.length<=sizeLine:=by
 obtain ⟨its,rv,p,z⟩:=I.tuple (SqT.of h)
 exact ⟨its,rv,p,by rw [← r.length]; exact rv.length,z⟩
theorem zC {a:Addr} {xs:List V} {ts:List T} (I:L2.Inv X pins σ H s) (h:Rd H a (.lst xs)) (r:zy H xs ts):∃ its:List Value,zR xs its/\s.heap.IsList a its.toArray/\ts.length=its.length/\xs.length<=sizeLine:=by
 obtain ⟨its,rv,p,z⟩:=I.list (.inl h)
 exact ⟨its,rv,p.isList,by rw [← r.length]; exact rv.length,z⟩
end
abbrev EqN (A:Around) (s:Shared) (u u' :Value) (b:Bool):Prop:=SeqAt.EqAt A s u u' b/\SeqAt.RcAt A s u u' b/\SeqAt.RcNeAt A s u u' (!b)
section
variable {X:Cx} {pins:List (Addr×Obj)} {σ:Sg} {H:Hp} {s:Shared}
theorem WP {xs ys:List V} {ts us:List T} {its its' :List Value} {A:Around} {f:T->T->Option Bool} {e:Nat->Bool} (r:zy H xs ts) (r' :zy H ys us) (v:zR xs its) (v' :zR ys its')
  (he:∀ (j:Nat) (x y:T),ts[j]? =some x->us[j]? =some y->f x y=some (e j))
  (ih:∀ (x y:T) (b:Bool) (p q:V) (u w:Value),f x y=some b->Rep H p x->Rep H q y->Z0 p u->Z0 q w->EqN A s u w b) (j:Nat) (h1:j < its.toArray.size) (h2:j < its'.toArray.size):
  SeqAt.EqAt A s its.toArray[j] its'.toArray[j] (e j):=by
 have l1:=v.length
 have l2:=v'.length
 have m1:=r.length
 have m2:=r'.length
 have k1:j < xs.length:=by simp at h1; omega
 have k2:j < ys.length:=by simp at h2; omega
 obtain ⟨t,et,rt⟩:=r.getV (List.getElem?_eq_getElem k1)
 obtain ⟨t',et',rt'⟩:=r'.getV (List.getElem?_eq_getElem k2)
 obtain ⟨u,eu,ru⟩:=v.get (List.getElem?_eq_getElem k1)
 obtain ⟨u',eu',ru'⟩:=v'.get (List.getElem?_eq_getElem k2)
 have q1:its.toArray[j]=u:=by
  have:its[j]? =some its.toArray[j]:=by simp at h1 ⊢
  rw [eu] at this; exact (Option.some.inj this).symm
 have q2:its'.toArray[j]=u' :=by
  have:its'[j]? =some its'.toArray[j]:=by simp at h2 ⊢
  rw [eu'] at this; exact (Option.some.inj this).symm
 rw [q1,q2]
 exact (ih t t' (e j) _ _ u u' (he j t t' et et') rt rt' ru ru').1
theorem yR {A:Around} {a c:Addr} {xs ys:List V} {ts us:List T} {b:Bool} {f:T->T->Option Bool} (I:L2.Inv X pins σ H s) (hu:A.units < cLine) (ha:H a=some (.tup xs)) (hc:H c=some (.tup ys)) (r:zy H xs ts) (r' :zy H ys us)
  (hb:eqL f ts us=some b) (hr:∀ x b,f x x=some b->b=true)
  (ih:∀ (x y:T) (b:Bool) (p q:V) (u w:Value),f x y=some b->Rep H p x->Rep H q y->Z0 p u->Z0 q w->EqN A.in1 s u w b):EqN A s (.ref a) (.ref c) b:=by
 obtain ⟨its,v,p,l,_⟩:=Zr I ha r
 obtain ⟨its',v',p',l',_⟩:=Zr I hc r'
 obtain ⟨e,he,hb'⟩:=WO hb
 have hp:=WP (A:=A.in1) r r' v v' he ih
 have z:((List.range (min its.toArray.size its'.toArray.size)).all e && its.toArray.size == its'.toArray.size)=b:=by
  rw [← hb']; simp [l,l']
 have R:=SeqAt.RcAt.tuples p p' hu hp
 have N:=SeqAt.RcNeAt.tuples p p' hu hp
 rw [z] at R
 have N' :SeqAt.RcNeAt A s (.ref a) (.ref c) (!b):=by
  rw [← z]; exact N
 refine ⟨?_,R,N'⟩
 by_cases hac:a=c
 ·subst hac
  rw [ha] at hc; cases hc
  have:=r.fn r'; subst this
  rw [Z3 hr ts b hb]
  exact SeqAt.EqAt.same _
 ·exact SeqAt.EqAt.of_refs hac R
theorem jY {A:Around} {a c:Addr} {xs ys:List V} {ts us:List T} {b:Bool} {f:T->T->Option Bool} (I:L2.Inv X pins σ H s) (hu:A.units < cLine) (ha:Rd H a (.lst xs)) (hc:Rd H c (.lst ys)) (r:zy H xs ts) (r' :zy H ys us)
  (hb:eqL f ts us=some b) (hr:∀ x b,f x x=some b->b=true)
  (ih:∀ (x y:T) (b:Bool) (p q:V) (u w:Value),f x y=some b->Rep H p x->Rep H q y->Z0 p u->Z0 q w->EqN A.in1 s u w b):EqN A s (.ref a) (.ref c) b:=by
 obtain ⟨its,v,p,l,_⟩:=zC I ha r
 obtain ⟨its',v',p',l',_⟩:=zC I hc r'
 obtain ⟨e,he,hb'⟩:=WO hb
 have hp:=WP (A:=A.in1) r r' v v' he ih
 have RN:SeqAt.RcAt A s (.ref a) (.ref c) b/\SeqAt.RcNeAt A s (.ref a) (.ref c) (!b):=by
  by_cases hl:its.toArray.size=its'.toArray.size
  ·have z:(List.range its.toArray.size).all e=b:=by
    rw [← hb']
    have:ts.length=us.length:=by simp at hl; omega
    rw [this]
    have k:its.toArray.size=us.length:=by simp; omega
    rw [k]; simp
   have R:=SeqAt.RcAt.lists p p' hl hu hp
   have N:=SeqAt.RcNeAt.lists p p' hl hu hp
   rw [z] at R
   refine ⟨R, ?_⟩
   rw [← z]; exact N
  ·have hl' :(its.toArray.size != its'.toArray.size)=true:=by simpa using hl
   have z:b=false:=by
    rw [← hb']
    have:¬ ts.length=us.length:=by simp at hl; omega
    simp [this]
   subst z
   exact ⟨SeqAt.RcAt.lists_lengths p p' hl' hu,SeqAt.RcNeAt.lists_lengths p p' hl' hu⟩
 refine ⟨?_,RN.1,RN.2⟩
 by_cases hac:a=c
 ·subst hac
  have hxy:xs=ys:=by
   rcases ha with ha | ⟨o,ha⟩ <;> rcases hc with hc | ⟨o',hc⟩ <;> (rw [ha] at hc; cases hc) <;> rfl
  subst hxy
  have:=r.fn r'; subst this
  rw [Z3 hr ts b hb]
  exact SeqAt.EqAt.same _
 ·exact SeqAt.EqAt.of_refs hac RN.1
end
section
variable {X:Cx} {pins:List (Addr×Obj)} {σ:Sg} {H:Hp} {s:Shared}
theorem JI {A:Around}:A.in1.units=A.units+1:=rfl
set_option maxHeartbeats 2000000 in
theorem WQ (I:L2.Inv X pins σ H s):∀ (A:Around),A.units < cLine->∀ (x y:T) (b:Bool) (p q:V) (u w:Value),eqF 0 x y=some b->Rep H p x->Rep H q y->Z0 p u->Z0 q w->EqN A s u w b:=by
 intro A hu x y b p q u w h rp rq ru rw'
 have hu' :=hu
 cases rp with
 | non=>
  obtain rfl:u=Value.none:=ru
  cases rq with
  | non=>obtain rfl:w=Value.none:=rw'; unfold eqF at h; cases h; exact ⟨.same _, .none_none, .none_none⟩
  | bl c=>obtain rfl:w=Value.bool c:=rw'; unfold eqF at h; cases h; exact ⟨.none_bool _, .none_bool _, .none_bool _⟩
  | int c=>obtain ⟨t,rfl⟩:=rw'; unfold eqF at h; cases h; exact ⟨.none_int _ _, .none_int _ _, .none_int _ _⟩
  | str c=>obtain ⟨t,rfl⟩:=rw'; unfold eqF at h; cases h; exact ⟨.none_str _ _, .none_str _ _, .none_str _ _⟩
  | tup h1 r1=>obtain rfl:w=Value.ref _:=rw'; unfold eqF at h; cases h; obtain ⟨i,_,p,_⟩:=Zr I h1 r1; exact ⟨.none_tuple p hu', .none_tuple p hu', .none_tuple p hu'⟩
  | lst h1 r1=>obtain rfl:w=Value.ref _:=rw'; unfold eqF at h; cases h; obtain ⟨i,_,p,_⟩:=zC I (.inl h1) r1; exact ⟨.none_list p hu', .none_list p hu', .none_list p hu'⟩
  | fz h1 r1=>obtain rfl:w=Value.ref _:=rw'; unfold eqF at h; cases h; obtain ⟨i,_,p,_⟩:=zC I (.inr ⟨_,h1⟩) r1; exact ⟨.none_list p hu', .none_list p hu', .none_list p hu'⟩
 | bl d=>
  obtain rfl:u=Value.bool d:=ru
  cases rq with
  | non=>obtain rfl:w=Value.none:=rw'; unfold eqF at h; cases h; exact ⟨.bool_none _, .bool_none _, .bool_none _⟩
  | bl c=>obtain rfl:w=Value.bool c:=rw'; unfold eqF at h; cases h; exact ⟨.bool_bool _ _, .bool_bool _ _, .bool_bool _ _⟩
  | int c=>obtain ⟨t,rfl⟩:=rw'; unfold eqF at h; cases h; exact ⟨.bool_int _ _ _, .bool_int _ _ _, .bool_int _ _ _⟩
  | str c=>obtain ⟨t,rfl⟩:=rw'; unfold eqF at h; cases h; exact ⟨.bool_str _ _ _, .bool_str _ _ _, .bool_str _ _ _⟩
  | tup h1 r1=>obtain rfl:w=Value.ref _:=rw'; unfold eqF at h; cases h; obtain ⟨i,_,p,_⟩:=Zr I h1 r1; exact ⟨.bool_tuple _ p hu', .bool_tuple _ p hu', .bool_tuple _ p hu'⟩
  | lst h1 r1=>obtain rfl:w=Value.ref _:=rw'; unfold eqF at h; cases h; obtain ⟨i,_,p,_⟩:=zC I (.inl h1) r1; exact ⟨.bool_list _ p hu', .bool_list _ p hu', .bool_list _ p hu'⟩
  | fz h1 r1=>obtain rfl:w=Value.ref _:=rw'; unfold eqF at h; cases h; obtain ⟨i,_,p,_⟩:=zC I (.inr ⟨_,h1⟩) r1; exact ⟨.bool_list _ p hu', .bool_list _ p hu', .bool_list _ p hu'⟩
 | int d=>
  obtain ⟨t0,rfl⟩:=ru
  cases rq with
  | non=>obtain rfl:w=Value.none:=rw'; unfold eqF at h; cases h; exact ⟨.int_none _ _, .int_none _ _, .int_none _ _⟩
  | bl c=>obtain rfl:w=Value.bool c:=rw'; unfold eqF at h; cases h; exact ⟨.int_bool _ _ _, .int_bool _ _ _, .int_bool _ _ _⟩
  | int c=>obtain ⟨t,rfl⟩:=rw'; unfold eqF at h; cases h; exact ⟨.int_int _ _ _ _, .int_int _ _ _ _, .int_int _ _ _ _⟩
  | str c=>obtain ⟨t,rfl⟩:=rw'; unfold eqF at h; cases h; exact ⟨.int_str _ _ _ _, .int_str _ _ _ _, .int_str _ _ _ _⟩
  | tup h1 r1=>obtain rfl:w=Value.ref _:=rw'; unfold eqF at h; cases h; obtain ⟨i,_,p,_⟩:=Zr I h1 r1; exact ⟨.int_tuple _ _ p hu', .int_tuple _ _ p hu', .int_tuple _ _ p hu'⟩
  | lst h1 r1=>obtain rfl:w=Value.ref _:=rw'; unfold eqF at h; cases h; obtain ⟨i,_,p,_⟩:=zC I (.inl h1) r1; exact ⟨.int_list _ _ p hu', .int_list _ _ p hu', .int_list _ _ p hu'⟩
  | fz h1 r1=>obtain rfl:w=Value.ref _:=rw'; unfold eqF at h; cases h; obtain ⟨i,_,p,_⟩:=zC I (.inr ⟨_,h1⟩) r1; exact ⟨.int_list _ _ p hu', .int_list _ _ p hu', .int_list _ _ p hu'⟩
 | str d=>
  obtain ⟨t0,rfl⟩:=ru
  cases rq with
  | non=>obtain rfl:w=Value.none:=rw'; unfold eqF at h; cases h; exact ⟨.str_none _ _, .str_none _ _, .str_none _ _⟩
  | bl c=>obtain rfl:w=Value.bool c:=rw'; unfold eqF at h; cases h; exact ⟨.str_bool _ _ _, .str_bool _ _ _, .str_bool _ _ _⟩
  | int c=>obtain ⟨t,rfl⟩:=rw'; unfold eqF at h; cases h; exact ⟨.str_int _ _ _ _, .str_int _ _ _ _, .str_int _ _ _ _⟩
  | str c=>obtain ⟨t,rfl⟩:=rw'; unfold eqF at h; cases h; exact ⟨.str_str _ _ _ _, .str_str _ _ _ _, .str_str _ _ _ _⟩
  | tup h1 r1=>obtain rfl:w=Value.ref _:=rw'; unfold eqF at h; cases h; obtain ⟨i,_,p,_⟩:=Zr I h1 r1; exact ⟨.str_tuple _ _ p hu', .str_tuple _ _ p hu', .str_tuple _ _ p hu'⟩
  | lst h1 r1=>obtain rfl:w=Value.ref _:=rw'; unfold eqF at h; cases h; obtain ⟨i,_,p,_⟩:=zC I (.inl h1) r1; exact ⟨.str_list _ _ p hu', .str_list _ _ p hu', .str_list _ _ p hu'⟩
  | fz h1 r1=>obtain rfl:w=Value.ref _:=rw'; unfold eqF at h; cases h; obtain ⟨i,_,p,_⟩:=zC I (.inr ⟨_,h1⟩) r1; exact ⟨.str_list _ _ p hu', .str_list _ _ p hu', .str_list _ _ p hu'⟩
 | tup h0 r0=>
  obtain rfl:u=Value.ref _:=ru
  obtain ⟨i0,_,p0,_⟩:=Zr I h0 r0
  cases rq with
  | non=>obtain rfl:w=Value.none:=rw'; unfold eqF at h; cases h; exact ⟨.tuple_none p0 hu', .tuple_none p0 hu', .tuple_none p0 hu'⟩
  | bl c=>obtain rfl:w=Value.bool c:=rw'; unfold eqF at h; cases h; exact ⟨.tuple_bool _ p0 hu', .tuple_bool _ p0 hu', .tuple_bool _ p0 hu'⟩
  | int c=>obtain ⟨t,rfl⟩:=rw'; unfold eqF at h; cases h; exact ⟨.tuple_int _ _ p0 hu', .tuple_int _ _ p0 hu', .tuple_int _ _ p0 hu'⟩
  | str c=>obtain ⟨t,rfl⟩:=rw'; unfold eqF at h; cases h; exact ⟨.tuple_str _ _ p0 hu', .tuple_str _ _ p0 hu', .tuple_str _ _ p0 hu'⟩
  | tup h1 r1=>unfold eqF at h; cases h
  | lst h1 r1=>obtain rfl:w=Value.ref _:=rw'; unfold eqF at h; cases h; obtain ⟨i,_,p,_⟩:=zC I (.inl h1) r1; exact ⟨.tuple_list p0 p hu', .tuple_list p0 p hu', .tuple_list p0 p hu'⟩
  | fz h1 r1=>obtain rfl:w=Value.ref _:=rw'; unfold eqF at h; cases h; obtain ⟨i,_,p,_⟩:=zC I (.inr ⟨_,h1⟩) r1; exact ⟨.tuple_list p0 p hu', .tuple_list p0 p hu', .tuple_list p0 p hu'⟩
 | lst h0 r0=>
  obtain rfl:u=Value.ref _:=ru
  obtain ⟨i0,_,p0,_⟩:=zC I (.inl h0) r0
  cases rq with
  | non=>obtain rfl:w=Value.none:=rw'; unfold eqF at h; cases h; exact ⟨.list_none p0 hu', .list_none p0 hu', .list_none p0 hu'⟩
  | bl c=>obtain rfl:w=Value.bool c:=rw'; unfold eqF at h; cases h; exact ⟨.list_bool _ p0 hu', .list_bool _ p0 hu', .list_bool _ p0 hu'⟩
  | int c=>obtain ⟨t,rfl⟩:=rw'; unfold eqF at h; cases h; exact ⟨.list_int _ _ p0 hu', .list_int _ _ p0 hu', .list_int _ _ p0 hu'⟩
  | str c=>obtain ⟨t,rfl⟩:=rw'; unfold eqF at h; cases h; exact ⟨.list_str _ _ p0 hu', .list_str _ _ p0 hu', .list_str _ _ p0 hu'⟩
  | tup h1 r1=>obtain rfl:w=Value.ref _:=rw'; unfold eqF at h; cases h; obtain ⟨i,_,p,_⟩:=Zr I h1 r1; exact ⟨.list_tuple p0 p hu', .list_tuple p0 p hu', .list_tuple p0 p hu'⟩
  | lst h1 r1=>unfold eqF at h; cases h
  | fz h1 r1=>unfold eqF at h; cases h
 | fz h0 r0=>
  obtain rfl:u=Value.ref _:=ru
  obtain ⟨i0,_,p0,_⟩:=zC I (.inr ⟨_,h0⟩) r0
  cases rq with
  | non=>obtain rfl:w=Value.none:=rw'; unfold eqF at h; cases h; exact ⟨.list_none p0 hu', .list_none p0 hu', .list_none p0 hu'⟩
  | bl c=>obtain rfl:w=Value.bool c:=rw'; unfold eqF at h; cases h; exact ⟨.list_bool _ p0 hu', .list_bool _ p0 hu', .list_bool _ p0 hu'⟩
  | int c=>obtain ⟨t,rfl⟩:=rw'; unfold eqF at h; cases h; exact ⟨.list_int _ _ p0 hu', .list_int _ _ p0 hu', .list_int _ _ p0 hu'⟩
  | str c=>obtain ⟨t,rfl⟩:=rw'; unfold eqF at h; cases h; exact ⟨.list_str _ _ p0 hu', .list_str _ _ p0 hu', .list_str _ _ p0 hu'⟩
  | tup h1 r1=>obtain rfl:w=Value.ref _:=rw'; unfold eqF at h; cases h; obtain ⟨i,_,p,_⟩:=Zr I h1 r1; exact ⟨.list_tuple p0 p hu', .list_tuple p0 p hu', .list_tuple p0 p hu'⟩
  | lst h1 r1=>unfold eqF at h; cases h
  | fz h1 r1=>unfold eqF at h; cases h
set_option maxHeartbeats 2000000 in
theorem yS (I:L2.Inv X pins σ H s):∀ (n:Nat) (A:Around),A.units+n < cLine->∀ (x y:T) (b:Bool) (p q:V) (u w:Value),eqF n x y=some b->Rep H p x->Rep H q y->Z0 p u->Z0 q w->EqN A s u w b:=by
 intro n
 induction n with
 | zero=>exact fun A hu x y b p q u w h=>WQ I A (by omega) x y b p q u w h
 | succ n ih=>
  intro A hu x y b p q u w h rp rq ru rw'
  have low:eqF 0 x y=some b->EqN A s u w b:=fun h=>WQ I A (by omega) x y b p q u w h rp rq ru rw'
  have hu' :A.units < cLine:=by omega
  have ih' :=ih A.in1 (by rw [JI]; omega)
  cases rp with
  | tup h0 r0=>
   cases rq with
   | tup h1 r1=>
    obtain rfl:u=Value.ref _:=ru
    obtain rfl:w=Value.ref _:=rw'
    unfold eqF at h
    exact yR I hu' h0 h1 r0 r1 h (zJ n) ih'
   | _=>exact low (by unfold eqF at h ⊢; exact h)
  | lst h0 r0=>
   cases rq with
   | lst h1 r1=>
    obtain rfl:u=Value.ref _:=ru
    obtain rfl:w=Value.ref _:=rw'
    unfold eqF at h
    exact jY I hu' (.inl h0) (.inl h1) r0 r1 h (zJ n) ih'
   | fz h1 r1=>
    obtain rfl:u=Value.ref _:=ru
    obtain rfl:w=Value.ref _:=rw'
    unfold eqF at h
    exact jY I hu' (.inl h0) (.inr ⟨_,h1⟩) r0 r1 h (zJ n) ih'
   | _=>exact low (by unfold eqF at h ⊢; exact h)
  | fz h0 r0=>
   cases rq with
   | lst h1 r1=>
    obtain rfl:u=Value.ref _:=ru
    obtain rfl:w=Value.ref _:=rw'
    unfold eqF at h
    exact jY I hu' (.inr ⟨_,h0⟩) (.inl h1) r0 r1 h (zJ n) ih'
   | fz h1 r1=>
    obtain rfl:u=Value.ref _:=ru
    obtain rfl:w=Value.ref _:=rw'
    unfold eqF at h
    exact jY I hu' (.inr ⟨_,h0⟩) (.inr ⟨_,h1⟩) r0 r1 h (zJ n) ih'
   | _=>exact low (by unfold eqF at h ⊢; exact h)
  | _=>exact low (by cases rq <;> (unfold eqF at h ⊢; exact h))
end
section
variable {X:Cx} {Y:Fx} {a b c d:Expr} {fa fb fc fd:En->R T} {pos:Pos}
def rG (Y:Fx) (g:T->T->R T):R2:=fun x y H Q=>∃ B t t',zt B H/\Rep B x t/\Rep B y t' /\Po Y rC B H (g t t') Q
def zc (g:T->T->R T) (fa fb:En->R T):En->R T:=fun ρ=>(fa ρ).bind fun x=>(fb ρ).bind fun y=>g x y
theorem WR {op:Operator} {g:T->T->R T} (ho:OpR X (binaryOp op) (rG Y g)) (ha:Snd X Y a fa) (hb:Snd X Y b fb):Snd X Y (.BinOp a op b pos) (zc g fa fb):= .mk fun ρ=>
 PE.imp (QY ho (ha ρ) (hb ρ)) fun σ H Q ⟨B,I,q⟩=>step I q fun t v H1 _ s1 r1 I1 q1=>step I1 q1 fun t' v' H2 _ s2 r2 I2 q2=>
  ⟨_,t,t',I2.sB,r1.mono (zE.ge I1.sB s2),r2,q2⟩
theorem po0 {g:R T} {B H:Hp} {Q:VK} {t:T} {v:V} (sB:zt B H) (q:Po Y rC B H g Q) (e:g= .ok t) (r:Rep B v t):Q v H:=by
 subst e
 exact q v H (zt.refl H) (by show Rep (zE B H H) v t; rw [zE.self B H sB]; exact r)
theorem qv {g:R T} {B H:Hp} {Q:VK} {ts:List T} {xs:List V} {p:Addr} (sB:zt B H) (q:Po Y rC B H g Q) (e:g= .ok (.tup ts)) (r:zy B xs ts) (h:H p=none):Q (.ref p) (upd H p (.tup xs)):=by
 subst e
 exact q _ _ (zt.new h _) (.tup (j2 h _) (r.mono (zE.ge sB (zt.new h _))))
theorem vi {g:R T} {B H:Hp} {Q:VK} {ts:List T} {xs:List V} {p:Addr} (sB:zt B H) (q:Po Y rC B H g Q) (e:g= .ok (.lst ts)) (r:zy B xs ts) (h:H p=none):Q (.ref p) (upd H p (.lst xs)):=by
 subst e
 exact q _ _ (zt.new h _) (.lst (j2 h _) (r.mono (zE.ge sB (zt.new h _))))
def zl:T->T->R T
 | .int i, .int j=> .ok (.int (i+j))
 | .bl x, .int j=> .ok (.int (b2 x+j))
 | .int i, .bl y=> .ok (.int (i+b2 y))
 | .str x, .str y=>if x.length+y.length<=bnd then .ok (.str (x++y)) else .bad
 | .tup xs, .tup ys=>if xs.length+ys.length<=bnd then .ok (.tup (xs++ys)) else .bad
 | .lst xs, .lst ys=>if xs.length+ys.length<=bnd then .ok (.lst (xs++ys)) else .bad
 | _,_=> .bad
theorem Um {prog:Program} {w:World} {A:Around} {E:Value->Shared->Prop} {s:Shared} {t b:Addr} {vs ws:List Value} {Q:Value->Shared->Prop} (ht:IsTup s.heap t vs.toArray) (hb:IsTup s.heap b ws.toArray) (hv:vs=[])
  (h1:Q (.ref b) s):wpAny (model prog w) A (binaryOp .Add (.ref t) (.ref b)) Q E s:=by
 obtain ⟨⟨cls,dd,data,sl⟩,ho,hc,n,hd⟩:=id ht
 obtain ⟨⟨cls2,dd2,data2,sl2⟩,ho2,hc2,n2,hd2⟩:=id hb
 simp only at hc hd hc2 hd2
 subst hc hd hc2 hd2
 exact concat_meets ⟨_,ho,rfl⟩ ⟨_,ho2,rfl⟩ noFill_tuple_add seq_tuple_add PySem.F.slot_tuple_add PySem.F.entry_tuple_add (PySem.F.args_tuple_add_2 _ _)
   (tuple_addW0 t b vs.toArray ws.toArray n n2 dd dd2 sl sl2 (by simp [hv])) ⟨ho,ho2,h1⟩
theorem yT:OpR X (binaryOp .Add) (rG Y zl):=by
 intro pins s σ H x y v u Q I rx ry h
 obtain ⟨B,t,t',sB,r,r',q⟩:=h
 cases r with
 | int i=>
  cases r' with
  | int j=>exact qc pins s σ H _ _ v u Q I rx ry ⟨i,j,rfl,rfl,po0 sB q rfl (.int _)⟩
  | bl y=>exact WF pins s σ H _ _ v u Q I rx ry ⟨i,y,rfl,rfl,po0 sB q rfl (.int _)⟩
  | _=>exact q.elim
 | bl x=>
  cases r' with
  | int j=>
   obtain rfl:v=Value.bool x:=rx
   obtain ⟨tk,rfl⟩:=ry
   exact IntBool.add_bool_int (⟨.int _,H,I.tok _,⟨_,rfl⟩,po0 sB q rfl (.int _)⟩)
  | _=>exact q.elim
 | str x=>
  cases r' with
  | str y=>
   by_cases hb:x.length+y.length<=bnd
   ·exact Wa pins s σ H _ _ v u Q I rx ry ⟨x,y,rfl,rfl,Z8 hb,po0 sB q (if_pos hb) (.str _)⟩
   ·rw [show zl (.str x) (.str y)= .bad from if_neg hb] at q; exact q.elim
  | _=>exact q.elim
 | @tup a xs ts h1 r1=>
  cases r' with
  | @tup a' ys us h2 r2=>
   by_cases hb:ts.length+us.length<=bnd
   ·have eg:zl (.tup ts) (.tup us)= .ok (.tup (ts++us)):=if_pos hb
    have hz:xs.length+ys.length<=sizeLine:=by rw [r1.length,r2.length]; exact Z8 hb
    by_cases hx:xs=[]
    ·obtain rfl:v=Value.ref a:=rx
     obtain rfl:u=Value.ref a' :=ry
     obtain ⟨its,rv,p,_⟩:=I.tuple (SqT.of (sB _ _ h1))
     obtain ⟨its',rv',p',_⟩:=I.tuple (SqT.of (sB _ _ h2))
     have et:ts=[]:=r1.nil_iff.mp hx
     refine Um p p' (rv.nil_iff.mpr hx) ⟨.ref a',H,I,rfl,po0 sB q eg ?_⟩
     rw [et]; exact .tup h2 r2
    ·refine yK pins s σ H _ _ v u Q I rx ry ⟨a,a',xs,ys,rfl,rfl,SqT.of (sB _ _ h1),SqT.of (sB _ _ h2),hx,hz,fun hy=> ?_,fun hy p hp=> ?_⟩
     ·refine po0 sB q eg ?_
      rw [r2.nil_iff.mp hy,List.append_nil]
      exact .tup h1 r1
     ·exact qv sB q eg (r1.append r2) hp
   ·rw [show zl (.tup ts) (.tup us)= .bad from if_neg hb] at q; exact q.elim
  | _=>exact q.elim
 | @lst a xs ts h1 r1=>
  cases r' with
  | @lst a' ys us h2 r2=>
   by_cases hb:ts.length+us.length<=bnd
   ·have eg:zl (.lst ts) (.lst us)= .ok (.lst (ts++us)):=if_pos hb
    have hz:xs.length+ys.length<=sizeLine:=by rw [r1.length,r2.length]; exact Z8 hb
    exact qr pins s σ H _ _ v u Q I rx ry ⟨a,a',xs,ys,rfl,rfl,sB _ _ h1,sB _ _ h2,hz,fun p hp=>vi sB q eg (r1.append r2) hp⟩
   ·rw [show zl (.lst ts) (.lst us)= .bad from if_neg hb] at q; exact q.elim
  | _=>exact q.elim
 | _=>cases r' <;> exact q.elim
theorem zn (ha:Snd X Y a fa) (hb:Snd X Y b fb):Snd X Y (.BinOp a .Add b pos) (zc zl fa fb):=WR yT ha hb
def jr:T->T->R T
 | .int i, .int j=> .ok (.int (i - j))
 | _,_=> .bad
def JJ:T->T->R T
 | .int i, .int j=>if 0 < j then .ok (.int (i % j)) else .bad
 | _,_=> .bad
def Wc:T->T->R T
 | .int i, .int j=>if 0 < j/\j < 1073741824 then .ok (.int (i / j)) else .bad
 | _,_=> .bad
instance (i j:Int):Decidable (Jp i j):=by unfold Jp; infer_instance
def Zn:T->T->R T
 | .int i, .int j=>if Jp i j then .ok (.int (i*j)) else .bad
 | .lst xs, .int k=>if 0<=k/\k < 1000000/\xs.length*k.toNat<=bnd then .ok (.lst (List.replicate k.toNat xs).flatten) else .bad
 | .tup xs, .int k=>if 2<=k/\k < 1000000/\xs ≠ []/\xs.length*k.toNat<=bnd then .ok (.tup (List.replicate k.toNat xs).flatten) else .bad
 | _,_=> .bad
theorem yU:OpR X (binaryOp .Sub) (rG Y jr):=by
 intro pins s σ H x y v u Q I rx ry h
 obtain ⟨B,t,t',sB,r,r',q⟩:=h
 cases r with
 | int i=>
  cases r' with
  | int j=>exact qd pins s σ H _ _ v u Q I rx ry ⟨i,j,rfl,rfl,po0 sB q rfl (.int _)⟩
  | _=>exact q.elim
 | _=>cases r' <;> exact q.elim
theorem yV:OpR X (binaryOp .Mod) (rG Y JJ):=by
 intro pins s σ H x y v u Q I rx ry h
 obtain ⟨B,t,t',sB,r,r',q⟩:=h
 cases r with
 | int i=>
  cases r' with
  | int j=>
   by_cases hj:0 < j
   ·exact qf pins s σ H _ _ v u Q I rx ry ⟨i,j,rfl,rfl,hj,po0 sB q (if_pos hj) (.int _)⟩
   ·rw [show JJ (.int i) (.int j)= .bad from if_neg hj] at q; exact q.elim
  | _=>exact q.elim
 | _=>cases r' <;> exact q.elim
theorem Uo:OpR X (binaryOp .FloorDiv) (rG Y Wc):=by
 intro pins s σ H x y v u Q I rx ry h
 obtain ⟨B,t,t',sB,r,r',q⟩:=h
 cases r with
 | int i=>
  cases r' with
  | int j=>
   by_cases hj:0 < j/\j < 1073741824
   ·exact yA pins s σ H _ _ v u Q I rx ry ⟨i,j,rfl,rfl,hj,po0 sB q (if_pos hj) (.int _)⟩
   ·rw [show Wc (.int i) (.int j)= .bad from if_neg hj] at q; exact q.elim
  | _=>exact q.elim
 | _=>cases r' <;> exact q.elim
theorem Wd (l:Addr) (items:Array Value) (n:Nat) (dd:Option Addr) (sl:Array (Option Value)) (x:Int) (u:Tok) (h1:2<=x) (h2:x < 1000000) (hne:items.isEmpty=false) (hsz:items.size*x.toNat<=sizeLine):
  Meets (Builtin.«tuple.__mul__» ⟨[.ref l, .int x u],[]⟩) (fun _ R s=>s.heap.get? l=some { cls:= .type "tuple",dict:=dd,data:= .seq items n,slots:=sl }/\
   R (.ok (.ret (Value.ref s.heap.objs.size))) { s with heap:=s.heap.push { cls:=Value.type "tuple",data:=Data.seq (List.foldl (fun x1 x2=>x1++x2) #[] (List.replicate x.toNat items)) },toks:=s.toks }):=
 .of_wp fun prog w A R s h=>by
  obtain ⟨hp,g,d,tk,os⟩:=s; obtain ⟨hl,h⟩:=h
  have f1:=AutoSeq1.idx_int
  have e0:(items.size:Int)*x=((items.size*x.toNat:Nat):Int):=by
   have:x=((x.toNat:Nat):Int):=by omega
   rw [Int.natCast_mul,← this]
  have sl1:(sizeLine:Nat)=16777216:=sizeLine_eq
  have c1:¬ (decide (x < -(2 ^ 63)) || decide (x ≥ 2 ^ 63))=true:=by simp; omega
  have c2:¬ (items.isEmpty || x == 1)=true:=by simp [hne]; omega
  have c3:¬ (decide (x<=0) || items.isEmpty)=true:=by simp [hne]; omega
  have c4:¬ ((items.size:Int)*x > (2 ^ 63 - 1) / 8):=by rw [e0]; omega
  have c5:¬ Builtin.Tuple.tupleTooMany ((items.size:Int)*x)=true:=by
   unfold Builtin.Tuple.tupleTooMany
   rw [e0]
   intro z
   have:=of_decide_eq_true z
   omega
  unfold Builtin.«tuple.__mul__»
  wp_walk using wpAny_loadPart' hl
  rw [if_neg c1]
  wp_walk using wpAny_loadPart' hl
  rw [if_neg c2]
  try dsimp only
  rw [if_neg c3]
  try dsimp only
  rw [if_neg c4]
  try dsimp only
  rw [if_neg c5]
  try dsimp only
  have hsz' :sizeOk (.seq (List.foldl (fun x1 x2=>x1++x2) #[] (List.replicate x.toNat items))):=by
   show (List.foldl (fun x1 x2=>x1++x2) #[] (List.replicate x.toNat items)).size<=sizeLine
   have:=ZR items.toList x.toNat []
   rw [List.nil_append] at this
   have q:List.foldl (fun x1 x2=>x1++x2) #[] (List.replicate x.toNat items)=(List.replicate x.toNat items.toList).flatten.toArray:=by
    simpa using this
   rw [q,List.size_toArray,jp,Array.length_toList,Nat.mul_comm]
   exact hsz
  exact wpAny_bind (m:=Builtin.Tuple.tupleExact _) (wpAny_newObj_type (wpAny_pure ⟨_,rfl,h⟩) hsz')
theorem JK:seqRepeat? (.type "tuple")=pure (some (.builtin "tuple.__mul__")):=by
 unfold seqRepeat?
 rw [PySem.seqSlot_of (T:="tuple") (name:="__mul__") (id:="tuple.__mul__") F.slot_tuple_mul.lookup (by decide+kernel),PySem.seqSlot_of (T:="tuple") (name:="__rmul__") (id:="tuple.__rmul__") F.slot_tuple_rmul.lookup (by decide+kernel)]
 rfl
theorem jh:fillsNumberSlot (.type "tuple") "mul"=pure false:=
 PySem.fillsNumberSlot_seq (id:="tuple.__mul__") (r:=some (.builtin "tuple.__rmul__")) F.slot_tuple_mul.lookup (by decide+kernel) F.slot_tuple_rmul.lookup (by decide+kernel)
theorem jJ (a:Int) (t:Tok) (l:Addr) (items:Array Value) (n:Nat) (dd:Option Addr) (sl:Array (Option Value)):
  Meets (Builtin.«int.__rmul__» ⟨[.int a t, .ref l],[]⟩) (fun _ R s=>s.heap.get? l=some { cls:= .type "tuple",dict:=dd,data:= .seq items n,slots:=sl }/\R (.ok (.ret Value.notImplemented)) s):=
 .of_wp fun prog w A R s h=>by obtain ⟨hp,g,d,tk,os⟩:=s; obtain ⟨hl,h⟩:=h; wp_walk; exact ⟨_,rfl,h⟩
theorem yW {prog:Program} {w:World} {A:Around} {E:Value->Shared->Prop} {s:Shared} {l:Addr} {its:List Value} {k:Int} {t:Tok} {Q:Value->Shared->Prop} (p:IsTup s.heap l its.toArray) (hne:its ≠ []) (h1:2<=k) (h2:k < 1000000)
  (hsz:its.length*k.toNat<=sizeLine) (q:Q (.ref s.heap.objs.size) { s with heap:=s.heap.push { cls:= .type "tuple",data:= .seq (List.replicate k.toNat its).flatten.toArray } }):
  wpAny (model prog w) A (binaryOp .Mult (.ref l) (.int k t)) Q E s:=by
 obtain ⟨⟨cls,dd,data,sl⟩,ho,hc,n,hd⟩:=id p
 simp only at hc hd
 subst hc hd
 refine wpAny_binaryOp_repeat_ref (T:="tuple") (U:="int") (by decide) ⟨_,ho,rfl⟩ (fun s' =>typeIs_int s' k t) jh F.fills_int_mul F.slot_int_rmul JK F.slot_int_index.lookup
  (call_meets F.slot_int_rmul (typeIs_int s k t) F.entry_int_rmul (F.args_int_rmul_2 _ _) (jJ k t l its.toArray n dd sl)
   ⟨ho,rfl,⟨_,ho,rfl⟩,call_meets F.slot_tuple_mul ⟨_,ho,rfl⟩ F.entry_tuple_mul (F.args_tuple_mul_2 _ _) (Wd l its.toArray n dd sl k t h1 h2 (by simpa using hne) (by simpa using hsz)) ⟨ho, ?_⟩⟩)
 have:=ZR its k.toNat []
 rw [List.nil_append] at this
 rw [this]
 exact q
theorem yX:OpR X (binaryOp .Mult) (rG Y Zn):=by
 intro pins s σ H x y v u Q I rx ry h
 obtain ⟨B,t,t',sB,r,r',q⟩:=h
 cases r with
 | int i=>
  cases r' with
  | int j=>
   by_cases hj:Jp i j
   ·exact qe pins s σ H _ _ v u Q I rx ry ⟨i,j,rfl,rfl,hj,po0 sB q (if_pos hj) (.int _)⟩
   ·rw [show Zn (.int i) (.int j)= .bad from if_neg hj] at q; exact q.elim
  | _=>exact q.elim
 | @lst l xs ts h1 r1=>
  cases r' with
  | int k=>
   by_cases hk:0<=k/\k < 1000000/\ts.length*k.toNat<=bnd
   ·have eg:Zn (.lst ts) (.int k)= .ok (.lst (List.replicate k.toNat ts).flatten):=if_pos hk
    exact qs pins s σ H _ _ v u Q I rx ry ⟨l,k,xs,rfl,rfl,sB _ _ h1,by omega,by omega,by rw [r1.length]; exact Z8 hk.2.2,fun p hp=>vi sB q eg (r1.rep _) hp⟩
   ·rw [show Zn (.lst ts) (.int k)= .bad from if_neg hk] at q; exact q.elim
  | _=>exact q.elim
 | @tup l xs ts h1 r1=>
  cases r' with
  | int k=>
   by_cases hk:2<=k/\k < 1000000/\ts ≠ []/\ts.length*k.toNat<=bnd
   ·have eg:Zn (.tup ts) (.int k)= .ok (.tup (List.replicate k.toNat ts).flatten):=if_pos hk
    obtain rfl:v=Value.ref l:=rx
    obtain ⟨tk,rfl⟩:=ry
    obtain ⟨its,rv,p,_⟩:=I.tuple (SqT.of (sB _ _ h1))
    have ln:ts.length=its.length:=r1.length.symm.trans rv.length
    have hne:its ≠ []:=fun z=>hk.2.2.1 (by rw [z] at ln; exact List.length_eq_zero_iff.mp ln)
    refine yW p hne hk.1 hk.2.1 (by rw [← ln]; exact Z8 hk.2.2.2) ⟨.ref s.heap.objs.size,upd H s.heap.objs.size (.tup (List.replicate k.toNat xs).flatten),I.laid (t' :=s.toks) (fun b u e=>Heap.get?_push_of_some _ e) (Nat.le_refl _) ?_,rfl, ?_⟩
    ·exact ⟨by rw [jp,r1.length,Nat.mul_comm]; exact Z8 hk.2.2.2,(List.replicate k.toNat its).flatten,rv.rep _,⟨_,Heap.get?_push_size _ rfl,rfl,_,rfl⟩, .inr ⟨_,Heap.get?_push_size _ rfl,rfl⟩⟩
    ·exact qv sB q eg (r1.rep _) (I.hok.fresh (Nat.le_refl _))
   ·rw [show Zn (.tup ts) (.int k)= .bad from if_neg hk] at q; exact q.elim
  | _=>exact q.elim
 | _=>cases r' <;> exact q.elim
theorem jZ (ha:Snd X Y a fa) (hb:Snd X Y b fb):Snd X Y (.BinOp a .Sub b pos) (zc jr fa fb):=WR yU ha hb
theorem Up (ha:Snd X Y a fa) (hb:Snd X Y b fb):Snd X Y (.BinOp a .Mod b pos) (zc JJ fa fb):=WR yV ha hb
theorem qw (ha:Snd X Y a fa) (hb:Snd X Y b fb):Snd X Y (.BinOp a .FloorDiv b pos) (zc Wc fa fb):=WR Uo ha hb
theorem jt (ha:Snd X Y a fa) (hb:Snd X Y b fb):Snd X Y (.BinOp a .Mult b pos) (zc Zn fa fb):=WR yX ha hb
def Jq (fa:En->R T):En->R T:=fun ρ=>(fa ρ).bind fun x=>match x with
 | .int i=> .ok (.int (-i))
 | _=> .bad
theorem We (ha:Snd X Y a fa):Snd X Y (.UnaryOp .USub a pos) (Jq fa):= .mk fun ρ=>PE.imp (QZ qg (ha ρ)) fun σ H Q ⟨B,I,q⟩=>step I q fun t v H1 _ s1 r1 I1 q1=>by
 cases r1 with
 | int i=>exact ⟨i,rfl,po0 I1.sB q1 rfl (.int _)⟩
 | _=>exact q1.elim
def JL (g:T->T->R Bool):R2:=fun x y H Q=>∃ t t' b,Rep H x t/\Rep H y t' /\g t t' = .ok b/\Q (.bl b) H
def Uq (g:T->T->R Bool) (fa fb:En->R T):En->R T:=fun ρ=>(fa ρ).bind fun x=>(fb ρ).bind fun y=>(g x y).bind fun b=> .ok (.bl b)
def zY (g:T->T->R Bool) (fa fb:En->R T):En->R Bool:=fun ρ=>(fa ρ).bind fun x=>(fb ρ).bind fun y=>g x y
def Nx (g:T->T->R Bool):Prop:=∀ t t' c,g t t' ≠ .ex c
theorem Wf {op:CmpOp} {g:T->T->R Bool} (nx:Nx g) (ho:OpR X (compareOp op) (JL g)) (ha:j8 X Y a fa) (hb:j8 X Y b fb) (hm:behindInMarks op b=false):Snd X Y (.Compare a [op] [b] pos) (Uq g fa fb):= .mk fun ρ=>
 PE.imp (yB ho (ha ρ) (hb ρ) hm) fun σ H Q ⟨B,I,q⟩=>step I q fun t v H1 _ s1 r1 I1 q1=>step I1 q1 fun t' v' H2 _ s2 r2 I2 q2=>by
  cases e:g t t' with
  | bad=>rw [e] at q2; exact q2.elim
  | ex c=>exact absurd e (nx _ _ _)
  | ok b=>rw [e] at q2; exact ⟨t,t',b,r1.mono s2,r2,e,Zv I2 q2 (.bl b)⟩
theorem zN {op:CmpOp} {g:T->T->R Bool} (nx:Nx g) (ho:OpR X (compareOp op) (JL g)) (ha:j8 X Y a fa) (hb:j8 X Y b fb) (hm:behindInMarks op b=false):wJ X Y (.Compare a [op] [b] pos) (zY g fa fb):= .mk fun ρ=>
 PT.imp (yC ho (ha ρ) (hb ρ) hm) fun σ H Q ⟨B,I,q⟩=>step I q fun t v H1 _ s1 r1 I1 q1=>step I1 q1 fun t' v' H2 _ s2 r2 I2 q2=>by
  cases e:g t t' with
  | bad=>rw [e] at q2; exact q2.elim
  | ex c=>exact absurd e (nx _ _ _)
  | ok b=>rw [e] at q2; exact ⟨t,t',b,r1.mono s2,r2,e,b,rfl,Zv I2 q2 rfl⟩
def eqC (t t' :T):R Bool:=match eqF 30 t t' with
 | some b=> .ok b
 | none=> .bad
def neC (t t' :T):R Bool:=match eqF 30 t t' with
 | some b=> .ok (!b)
 | none=> .bad
theorem Z9:Nx eqC:=fun t t' c h=>by unfold eqC at h; split at h <;> cases h
theorem Ur:Nx neC:=fun t t' c h=>by unfold neC at h; split at h <;> cases h
theorem zz (hu:X.A.units+64 < cLine):OpR X (compareOp .Eq) (JL eqC):=by
 intro pins s σ H x y v u Q I rx ry h
 obtain ⟨t,t',b,r,r',e,q⟩:=h
 unfold eqC at e
 split at e
 ·rename_i k ek
  have e' :k=b:=by injection e
  subst e'
  exact (yS I 30 X.A (by omega) t t' k x y v u ek r r' rx ry).2.1 _ _ _ _ ⟨.bl k,H,I,rfl,q⟩
 ·cases e
theorem wK (hu:X.A.units+64 < cLine):OpR X (compareOp .NotEq) (JL neC):=by
 intro pins s σ H x y v u Q I rx ry h
 obtain ⟨t,t',b,r,r',e,q⟩:=h
 unfold neC at e
 split at e
 ·rename_i k ek
  cases e
  exact (yS I 30 X.A (by omega) t t' k x y v u ek r r' rx ry).2.2 _ _ _ _ ⟨.bl (!k),H,I,rfl,q⟩
 ·cases e
def ltC:T->T->R Bool
 | .int i, .int j=> .ok (decide (i < j))
 | _,_=> .bad
def leC:T->T->R Bool
 | .int i, .int j=> .ok (decide (i<=j))
 | .str x, .str y=> .ok (!decide (y.cps.toList < x.cps.toList))
 | _,_=> .bad
def gtC:T->T->R Bool
 | .int i, .int j=> .ok (decide (j < i))
 | _,_=> .bad
theorem yY:Nx ltC:=fun t t' c h=>by unfold ltC at h; split at h <;> cases h
theorem ju:Nx leC:=fun t t' c h=>by unfold leC at h; split at h <;> cases h
theorem yZ:Nx gtC:=fun t t' c h=>by unfold gtC at h; split at h <;> cases h
theorem WS:OpR X (compareOp .Lt) (JL ltC):=by
 intro pins s σ H x y v u Q I rx ry h
 obtain ⟨t,t',b,r,r',e,q⟩:=h
 unfold ltC at e
 split at e
 ·rename_i i j; cases e; cases r; cases r'; exact v7 pins s σ H _ _ v u Q I rx ry ⟨i,j,rfl,rfl,q⟩
 ·cases e
theorem WT:OpR X (compareOp .Gt) (JL gtC):=by
 intro pins s σ H x y v u Q I rx ry h
 obtain ⟨t,t',b,r,r',e,q⟩:=h
 unfold gtC at e
 split at e
 ·rename_i i j; cases e; cases r; cases r'; exact v9 pins s σ H _ _ v u Q I rx ry ⟨i,j,rfl,rfl,q⟩
 ·cases e
theorem ZB:OpR X (compareOp .LtE) (JL leC):=by
 intro pins s σ H x y v u Q I rx ry h
 obtain ⟨t,t',b,r,r',e,q⟩:=h
 unfold leC at e
 split at e
 ·rename_i i j; cases e; cases r; cases r'; exact v8 pins s σ H _ _ v u Q I rx ry ⟨i,j,rfl,rfl,q⟩
 ·rename_i i j; cases e; cases r; cases r'
  obtain ⟨t1,rfl⟩:=rx
  obtain ⟨t2,rfl⟩:=ry
  exact PySem.P.le_str ⟨.bl _,H,I,rfl,q⟩
 ·cases e
end
section
variable {X:Cx} {Y:Fx} {a b c d:Expr} {fa fb fc fd:En->R T} {pos:Pos}
def Us (f:T->Option Bool):List T->Option Bool
 | []=>some false
 | t :: r=>match f t with
  | none=>none
  | some b=>match Us f r with
   | none=>none
   | some c=>some (b || c)
def inC (t t' :T):R Bool:=match t' with
 | .tup ys=>match Us (fun y=>eqF 30 y t) ys with | some b=> .ok b | none=> .bad
 | .lst ys=>match Us (fun y=>eqF 30 y t) ys with | some b=> .ok b | none=> .bad
 | _=> .bad
def Ut (t t' :T):R Bool:=(inC t t').bind fun b=> .ok (!b)
theorem qx:Nx inC:=fun t t' c h=>by
 unfold inC at h
 split at h
 ·split at h <;> cases h
 ·split at h <;> cases h
 ·cases h
theorem qy:Nx Ut:=fun t t' c h=>by
 unfold Ut at h
 cases e:inC t t' with
 | bad=>rw [e] at h; cases h
 | ex k=>exact absurd e (qx _ _ _)
 | ok k=>rw [e] at h; cases h
open Classical in
theorem Y0 {H:Hp} (f:T->Option Bool):∃ e:Value->Bool,∀ (v:V) (t:T) (u:Value) (b:Bool),Z0 v u->Rep H v t->f t=some b->e u=b:=by
 refine ⟨fun u=>decide (∃ v t,Z0 v u/\Rep H v t/\f t=some true),fun v t u b rv r e=> ?_⟩
 cases b with
 | true=>exact decide_eq_true ⟨v,t,rv,r,e⟩
 | false=>
  refine decide_eq_false ?_
  rintro ⟨v',t',rv',r',e'⟩
  have:=rv.inj rv'; subst this
  have:=r.fn r'; subst this
  rw [e] at e'; cases e'
theorem WU {H:Hp} {f:T->Option Bool} {e:Value->Bool} (he:∀ (v:V) (t:T) (u:Value) (b:Bool),Z0 v u->Rep H v t->f t=some b->e u=b):∀ {xs:List V} {ts:List T} {its:List Value} {b:Bool},
  zR xs its->zy H xs ts->Us f ts=some b->its.any e=b/\∀ u∈its,∃ v t k,Z0 v u/\Rep H v t/\f t=some k
 | _,_,_,b, .nil, .nil,h=>by
  have h' :some false=some b:=h
  cases h'
  exact ⟨rfl,fun u hu=>by simp at hu⟩
 | _,_,_,b, .cons rv vs, .cons r rs,h=>by
  rename_i v u vals us t ts
  unfold Us at h
  cases q:f t with
  | none=>rw [q] at h; cases h
  | some k=>
   rw [q] at h
   cases q' :Us f ts with
   | none=>rw [q'] at h; cases h
   | some k' =>
    rw [q'] at h
    cases h
    obtain ⟨h1,h2⟩:=WU he vs rs q'
    refine ⟨by rw [List.any_cons,h1,he v t u k rv r q],fun w hw=> ?_⟩
    rcases List.mem_cons.mp hw with rfl | hw
    ·exact ⟨v,t,k,rv,r,q⟩
    ·exact h2 w hw
theorem Y1 (hu:X.A.units+64 < cLine) (neg:Bool):OpR X (compareOp (if neg then .NotIn else .In)) (JL (if neg then Ut else inC)):=by
 intro pins s σ H x y v u Q I rx ry h
 obtain ⟨t,t',b,r,r',e,q⟩:=h
 have hs:∃ k,inC t t' = .ok k/\b=(if neg then !k else k):=by
  cases neg with
  | false=>exact ⟨b,e,rfl⟩
  | true=>
   have e' :Ut t t' = .ok b:=e
   unfold Ut at e'
   cases z:inC t t' with
   | bad=>rw [z] at e'; cases e'
   | ex k=>exact absurd z (qx _ _ _)
   | ok k=>rw [z] at e'; cases e'; exact ⟨k,rfl,rfl⟩
 obtain ⟨k,ek,rfl⟩:=hs
 unfold inC at ek
 obtain ⟨f,hf⟩:=Y0 (H:=H) fun y=>eqF 30 y t
 have eqa:∀ w,(∃ v t' k,Z0 v w/\Rep H v t' /\eqF 30 t' t=some k)->SeqAt.EqAt X.A.in1 s w v (f w):=fun w ⟨v',t',k,rv,rr,ee⟩=>by
  rw [hf v' t' w k rv rr ee]
  exact (yS I 30 X.A.in1 (by rw [JI]; omega) t' t k v' x w v ee rr r rv rx).1
 split at ek
 ·rename_i ys
  split at ek
  ·rename_i k' hk
   cases ek
   cases r' with
   | @tup l xs _ h1 r1=>
    obtain rfl:u=Value.ref l:=ry
    obtain ⟨its,rv,p,_⟩:=Zr I h1 r1
    obtain ⟨h2,h3⟩:=WU hf rv r1 hk
    have h4:its.toArray.any f=k:=by simpa using h2
    cases neg with
    | false=>exact SeqAt.in_tupleAt f p (fun w hw=>eqa w (h3 w (by simpa using hw))) (by rw [h4]; exact ⟨.bl k,H,I,rfl,q⟩)
    | true=>exact SeqAt.notIn_tupleAt f p (fun w hw=>eqa w (h3 w (by simpa using hw))) (by rw [h4]; exact ⟨.bl (!k),H,I,rfl,q⟩)
  ·cases ek
 ·rename_i ys
  split at ek
  ·rename_i k' hk
   cases ek
   cases r' with
   | @lst l xs _ h1 r1=>
    obtain rfl:u=Value.ref l:=ry
    obtain ⟨its,rv,p,_⟩:=zC I (.inl h1) r1
    obtain ⟨h2,h3⟩:=WU hf rv r1 hk
    have h4:its.toArray.any f=k:=by simpa using h2
    cases neg with
    | false=>exact SeqAt.in_listAt f p (fun w hw=>eqa w (h3 w (by simpa using hw))) (by rw [h4]; exact ⟨.bl k,H,I,rfl,q⟩)
    | true=>exact SeqAt.notIn_listAt f p (fun w hw=>eqa w (h3 w (by simpa using hw))) (by rw [h4]; exact ⟨.bl (!k),H,I,rfl,q⟩)
  ·cases ek
 ·cases ek
theorem Y2 (hu:X.A.units+64 < cLine):OpR X (compareOp .NotIn) (JL Ut):=Y1 hu true
def isNC (t t' :T):R Bool:=match t' with
 | .non=>match t with | .non=> .ok true | _=> .ok false
 | .bl k=>match t with | .bl j=> .ok (j == k) | _=> .ok false
 | _=> .bad
def chE (g g' :T->T->R Bool) (fa fb fc:En->R T):En->R T:=fun ρ=>(fa ρ).bind fun x=>(fb ρ).bind fun y=>(g x y).bind fun k=>if k=true then (fc ρ).bind fun z=>(g' y z).bind fun k' => .ok (.bl k') else .ok (.bl false)
def chT (g g' :T->T->R Bool) (fa fb fc:En->R T):En->R Bool:=fun ρ=>(fa ρ).bind fun x=>(fb ρ).bind fun y=>(g x y).bind fun k=>if k=true then (fc ρ).bind fun z=>g' y z else .ok false
theorem wg {op op' :CmpOp} {g g' :T->T->R Bool} (nx:Nx g) (nx' :Nx g') (ho:OpR X (compareOp op) (JL g)) (ho' :OpR X (compareOp op') (JL g')) (ha:j8 X Y a fa) (hb:j8 X Y b fb) (hc:j8 X Y c fc)
  (hm:lastMarks [op,op'] [b,c]=false:=by with_unfolding_all rfl):Snd X Y (.Compare a [op,op'] [b,c] pos) (chE g g' fa fb fc):= .mk fun ρ=>
 PE.imp (Ug ho ho' (ha ρ) (hb ρ) (hc ρ) hm) fun σ H Q ⟨B,I,q⟩=>step I q fun t v H1 _ s1 r1 I1 q1=>step I1 q1 fun t' v' H2 _ s2 r2 I2 q2=>by
  cases e:g t t' with
  | bad=>rw [e] at q2; exact q2.elim
  | ex c=>exact absurd e (nx _ _ _)
  | ok k=>
   rw [e] at q2
   refine ⟨t,t',k,r1.mono s2,r2,e,k,rfl, ?_⟩
   cases k with
   | false=>exact Zv I2 q2 (.bl false)
   | true=>
    refine step I2 q2 fun t3 v3 H3 _ s3 r3 I3 q3=> ?_
    ·cases e:g' t' t3 with
     | bad=>rw [e] at q3; exact q3.elim
     | ex c=>exact absurd e (nx' _ _ _)
     | ok k=>rw [e] at q3; exact ⟨t',t3,k,r2.mono s3,r3,e,Zv I3 q3 (.bl k)⟩
theorem Y3 {op op' :CmpOp} {g g' :T->T->R Bool} (nx:Nx g) (nx' :Nx g') (ho:OpR X (compareOp op) (JL g)) (ho' :OpR X (compareOp op') (JL g')) (ha:j8 X Y a fa) (hb:j8 X Y b fb) (hc:j8 X Y c fc)
  (hm:lastMarks [op,op'] [b,c]=false:=by with_unfolding_all rfl):wJ X Y (.Compare a [op,op'] [b,c] pos) (chT g g' fa fb fc):= .mk fun ρ=>
 PT.imp (Uh ho ho' (ha ρ) (hb ρ) (hc ρ) hm) fun σ H Q ⟨B,I,q⟩=>step I q fun t v H1 _ s1 r1 I1 q1=>step I1 q1 fun t' v' H2 _ s2 r2 I2 q2=>by
  cases e:g t t' with
  | bad=>rw [e] at q2; exact q2.elim
  | ex c=>exact absurd e (nx _ _ _)
  | ok k=>
   rw [e] at q2
   refine ⟨t,t',k,r1.mono s2,r2,e,k,rfl, ?_⟩
   cases k with
   | false=>exact ⟨false,rfl,Zv I2 q2 rfl⟩
   | true=>
    refine step I2 q2 fun t3 v3 H3 _ s3 r3 I3 q3=> ?_
    ·cases e:g' t' t3 with
     | bad=>rw [e] at q3; exact q3.elim
     | ex c=>exact absurd e (nx' _ _ _)
     | ok k=>rw [e] at q3; exact ⟨t',t3,k,r2.mono s3,r3,e,k,rfl,Zv I3 q3 rfl⟩
def Y4 (r r' r'' :R2) (ta tb tc td:TE):TE:=fun σ H Q=>ta σ H fun x H1=>tb σ H1 fun y H2=>r x y H2 fun z H3=>∃ k,z= .bl k/\
 (if k=true then tc σ H3 fun w' H4=>r' y w' H4 fun z' H5=>∃ k',z' = .bl k' /\(if k' =true then td σ H5 fun w2 H6=>r'' w' w2 H6 Q else Q (.bl false) H5) else Q (.bl false) H3)
theorem WV {op op' op'' :CmpOp} {r r' r'' :R2} {ta tb tc td:TE} (ho:OpR X (compareOp op) r) (ho' :OpR X (compareOp op') r') (ho'' :OpR X (compareOp op'') r'') (ha:PE X a ta) (hb:PE X b tb) (hc:PE X c tc) (hd:PE X d td)
  (hm:lastMarks [op,op',op''] [b,c,d]=false:=by with_unfolding_all rfl):PE X (.Compare a [op,op',op''] [b,c,d] pos) (Y4 r r' r'' ta tb tc td):=by
 intro pins s σ H Q I h
 refine Compare_chain (thn (ha pins s σ H _ I h) fun v s1 ⟨x,H1,I1,r1,q1⟩=>chain_link (thn (hb pins s1 σ H1 _ I1 q1) fun u s2 ⟨y,H2,I2,r2,q2⟩=>
  thn (ho pins s2 σ H2 x y v u _ I2 r1 r2 q2) fun d' s3 ⟨z,H3,I3,r3,k,e,q3⟩=> ?_)) hm
 subst e
 cases r3
 refine wpAny_truthy_bool ?_
 cases k with
 | false=>exact ite_ff ⟨.bl false,H3,I3,rfl,q3⟩
 | true=>
  refine ite_tt (chain_link (thn (hc pins s3 σ H3 _ I3 q3) fun w' s4 ⟨z',H4,I4,r4,q4⟩=>thn (ho' pins s4 σ H4 y z' u w' _ I4 r2 r4 q4) fun d2 s5 ⟨z5,H5,I5,r5,k5,e5,q5⟩=> ?_))
  subst e5
  cases r5
  refine wpAny_truthy_bool ?_
  cases k5 with
  | false=>exact ite_ff ⟨.bl false,H5,I5,rfl,q5⟩
  | true=>exact ite_tt (chain_last (thn (hd pins s5 σ H5 _ I5 q5) fun w6 s6 ⟨z6,H6,I6,r6,q6⟩=>ho'' pins s6 σ H6 z' z6 w' w6 Q I6 r4 r6 q6))
def V4 (g g' g'' :T->T->R Bool) (fa fb fc fd:En->R T):En->R T:=fun ρ=>(fa ρ).bind fun x=>(fb ρ).bind fun y=>(g x y).bind fun k=>if k=true then (fc ρ).bind fun z=>(g' y z).bind fun k' =>
 if k' =true then (fd ρ).bind fun w=>(g'' z w).bind fun k'' => .ok (.bl k'') else .ok (.bl false) else .ok (.bl false)
theorem Uu {op op' op'' :CmpOp} {g g' g'' :T->T->R Bool} (nx:Nx g) (nx' :Nx g') (nx'' :Nx g'') (ho:OpR X (compareOp op) (JL g)) (ho' :OpR X (compareOp op') (JL g')) (ho'' :OpR X (compareOp op'') (JL g''))
  (ha:j8 X Y a fa) (hb:j8 X Y b fb) (hc:j8 X Y c fc) (hd:j8 X Y d fd)
  (hm:lastMarks [op,op',op''] [b,c,d]=false:=by with_unfolding_all rfl):Snd X Y (.Compare a [op,op',op''] [b,c,d] pos) (V4 g g' g'' fa fb fc fd):= .mk fun ρ=>
 PE.imp (WV ho ho' ho'' (ha ρ) (hb ρ) (hc ρ) (hd ρ) hm) fun σ H Q ⟨B,I,q⟩=>step I q fun t v H1 _ s1 r1 I1 q1=>step I1 q1 fun t' v' H2 _ s2 r2 I2 q2=>by
  cases e:g t t' with
  | bad=>rw [e] at q2; exact q2.elim
  | ex c=>exact absurd e (nx _ _ _)
  | ok k=>
   rw [e] at q2
   refine ⟨t,t',k,r1.mono s2,r2,e,k,rfl, ?_⟩
   cases k with
   | false=>exact Zv I2 q2 (.bl false)
   | true=>
    refine step I2 q2 fun t3 v3 H3 _ s3 r3 I3 q3=> ?_
    ·cases e:g' t' t3 with
     | bad=>rw [e] at q3; exact q3.elim
     | ex c=>exact absurd e (nx' _ _ _)
     | ok k=>
      rw [e] at q3
      refine ⟨t',t3,k,r2.mono s3,r3,e,k,rfl, ?_⟩
      cases k with
      | false=>exact Zv I3 q3 (.bl false)
      | true=>
       refine step I3 q3 fun t4 v4 H4 _ s4 r4 I4 q4=> ?_
       ·cases e:g'' t3 t4 with
        | bad=>rw [e] at q4; exact q4.elim
        | ex c=>exact absurd e (nx'' _ _ _)
        | ok k=>rw [e] at q4; exact ⟨t3,t4,k,r3.mono s4,r4,e,Zv I4 q4 (.bl k)⟩
variable {rest:List Expr} {ga gb:En->R Bool}
def wj (fa fb:En->R T):En->R T:=fun ρ=>(fa ρ).bind fun x=>match x with
 | .bl true=>fb ρ
 | .bl false=> .ok (.bl false)
 | _=> .bad
def V5 (fa:En->R T):En->R T:=fun ρ=>(fa ρ).bind fun x=>match x with
 | .bl k=> .ok (.bl (!k))
 | _=> .bad
theorem J0 {op} (h:Snd X Y a fa):Snd X Y (.BoolOp op [a] pos) fa:= .mk fun ρ=>YX (h ρ)
theorem j3 (ha:Snd X Y a fa) (hb:Snd X Y (.BoolOp .And (b :: rest) pos) fb):Snd X Y (.BoolOp .And (a :: b :: rest) pos) (wj fa fb):= .mk fun ρ=>
 PE.imp (YY (ha ρ) (hb ρ)) fun σ H Q ⟨B,I,q⟩=>step I q fun t v H1 _ s1 r1 I1 q1=>by
  cases r1 with
  | bl k=>
   refine ⟨k,rfl, ?_⟩
   cases k with
   | true=>exact ⟨_,I1,q1⟩
   | false=>exact Zv I1 q1 (.bl false)
  | _=>exact q1.elim
theorem vj (ha:Snd X Y a fa):Snd X Y (.UnaryOp .Not a pos) (V5 fa):= .mk fun ρ=>
 PE.imp (YZ (ha ρ)) fun σ H Q ⟨B,I,q⟩=>step I q fun t v H1 _ s1 r1 I1 q1=>by
  cases r1 with
  | bl k=>exact ⟨k,rfl,Zv I1 q1 (.bl (!k))⟩
  | _=>exact q1.elim
structure JM (X:Cx) (Y:Fx) (e:Expr) (f:En->R Bool):Prop where
 mk ::
 go:∀ ρ,PW X e (tS Y rE f ρ)
instance {X:Cx} {Y:Fx} {e:Expr} {f:En->R Bool}:CoeFun (JM X Y e f) fun _=>∀ ρ,PW X e (tS Y rE f ρ):=⟨JM.go⟩
theorem JM.t {e:Expr} {f:En->R Bool} (h:JM X Y e f):wJ X Y e f:= .mk fun ρ=>(h ρ).pt
theorem PW.imp {e:Expr} {t t' :TT} (h:PW X e t) (i:∀ σ H Q,t' σ H Q->t σ H Q):PW X e t' :=fun wh pins s σ H Q I q=>h wh pins s σ H Q I (i σ H Q q)
def qz (fa fb:En->R Bool):En->R Bool:=fun ρ=>(fa ρ).bind fun x=>if x=true then fb ρ else .ok false
def orT (fa fb:En->R Bool):En->R Bool:=fun ρ=>(fa ρ).bind fun x=>if x=true then .ok true else fb ρ
def wk (fa:En->R Bool):En->R Bool:=fun ρ=>(fa ρ).bind fun x=> .ok (!x)
theorem qA (h:wJ X Y a ga):JM X Y (.BoolOp .And [a] pos) ga:= .mk fun ρ=>yx (h ρ)
theorem Wg (h:wJ X Y a ga):JM X Y (.BoolOp .Or [a] pos) ga:= .mk fun ρ=>YU (h ρ)
theorem vk (ha:wJ X Y a ga) (hb:JM X Y (.BoolOp .And (b :: rest) pos) gb):JM X Y (.BoolOp .And (a :: b :: rest) pos) (qz ga gb):= .mk fun ρ=>
 PW.imp (YV (ha ρ) (hb ρ)) fun σ H Q ⟨B,I,q⟩=>step I q fun t v H1 _ s1 r1 I1 q1=>by
  have r1' :v=t:=r1
  subst r1'
  cases v with
  | true=>exact ⟨_,I1,q1⟩
  | false=>exact Zv I1 q1 rfl
theorem UV (ha:wJ X Y a ga) (hb:JM X Y (.BoolOp .Or (b :: rest) pos) gb):JM X Y (.BoolOp .Or (a :: b :: rest) pos) (orT ga gb):= .mk fun ρ=>
 PW.imp (QN (ha ρ) (hb ρ)) fun σ H Q ⟨B,I,q⟩=>step I q fun t v H1 _ s1 r1 I1 q1=>by
  have r1' :v=t:=r1
  subst r1'
  cases v with
  | false=>exact ⟨_,I1,q1⟩
  | true=>exact Zv I1 q1 rfl
theorem jK (ha:wJ X Y a ga):wJ X Y (.UnaryOp .Not a pos) (wk ga):= .mk fun ρ=>
 PT.imp (YW (ha ρ)) fun σ H Q ⟨B,I,q⟩=>step I q fun t v H1 _ s1 r1 I1 q1=>by
  have r1' :v=t:=r1
  subst r1'
  exact Zv I1 q1 rfl
def tru:T->R Bool
 | .bl k=> .ok k
 | .non=> .ok false
 | .int i=> .ok (i != 0)
 | .tup xs=> .ok (!xs.isEmpty)
 | .lst xs=> .ok (!xs.isEmpty)
 | _=> .bad
def jL (fa:En->R T):En->R Bool:=fun ρ=>(fa ρ).bind tru
theorem isE {H:Hp} {xs:List V} {ts:List T} (r:zy H xs ts):(!xs.isEmpty)= !ts.isEmpty:=by cases r <;> rfl
theorem j4 (ha:j8 X Y a fa) (he:∀ whole,isTrue a X.env whole=(do let v ← whole; standAt a.pos; holding [v] (truthy v)):=by intro _; rfl):wJ X Y a (jL fa):= .mk fun ρ=>
 PT.imp (Ui (ha ρ) he) fun σ H Q ⟨B,I,q⟩=>step I q fun t v H1 _ s1 r1 I1 q1=>by
  cases r1 with
  | bl k=>exact ⟨k,rfl,Zv I1 q1 rfl⟩
  | non=>exact ⟨false,rfl,Zv I1 q1 rfl⟩
  | int i=>exact ⟨_,rfl,Zv I1 q1 rfl⟩
  | tup h r=>exact ⟨_, .inr (.inl ⟨_,SqT.of h,rfl⟩),Zv I1 q1 (isE r)⟩
  | lst h r=>exact ⟨_, .inl ⟨_,SqL.of h,rfl⟩,Zv I1 q1 (isE r)⟩
  | _=>exact q1.elim
def ifE (g:En->R Bool) (fa fb:En->R T):En->R T:=fun ρ=>(g ρ).bind fun k=>if k=true then fa ρ else fb ρ
theorem VC (hc:wJ X Y c ga) (ha:Snd X Y a fa) (hb:Snd X Y b fb):Snd X Y (.IfExp c a b pos) (ifE ga fa fb):= .mk fun ρ=>
 PE.imp (Uc (hc ρ) (ha ρ) (hb ρ)) fun σ H Q ⟨B,I,q⟩=>step I q fun t v H1 _ s1 r1 I1 q1=>by
  have r1' :v=t:=r1
  subst r1'
  cases v with
  | true=>exact ⟨_,I1,q1⟩
  | false=>exact ⟨_,I1,q1⟩
end
end PV
namespace PV
open PySem PySem.Spec PyProof.Rows L2
section
variable {X:Cx} {Y:Fx} {a b c d:Expr} {fa fb fc fd:En->R T} {pos p:Pos}
def ap1 (g:T->R T) (fa:En->R T):En->R T:=fun ρ=>(fa ρ).bind g
abbrev St1 (X:Cx) (a:Expr):Prop:=starEach [a] X.env=[(false,eval a X.env)]
theorem WW {id:String} {x:Str} {r:List V->Hp->VK->Prop} {g:T->R T} (hc:Zt X (.builtin id) r) (hr:∀ v t B H Q,Rep H v t->zt B H->Po Y rC B H (g t) Q->r [v] H Q)
  (gl:Gl X x) (mg:X.mg x=none) (bt:bootBuiltins x=some (.builtin id)) (ha:j8 X Y a fa) (hs:St1 X a:=by exact st1 rfl) (hn:x ≠ "__name__":=by decide) (hd:(x == ("__debug__":Str))=false:=by decide):Snd X Y (.Call (.Name x p) [a] [] pos) (ap1 g fa):= .mk fun ρ=>
 PE.imp (jj hc gl mg bt (zu (ha ρ) zU hs) hn hd hs rfl) fun σ H Q ⟨B,I,q⟩=>step I q fun t v H1 _ s1 r1 I1 q1=>hr v t _ H1 Q r1 I1.sB q1
theorem WX {id:String} {x:Str} {r:List V->Hp->VK->Prop} {g:T->R T} (hc:Zt X (.type id) r) (hr:∀ v t B H Q,Rep B v t->zt B H->Po Y rC B H (g t) Q->r [v] H Q)
  (gl:Gl X x) (mg:X.mg x=none) (bt:bootBuiltins x=some (.type id)) (ha:Snd X Y a fa) (hs:St1 X a:=by exact st1 rfl) (hn:x ≠ "__name__":=by decide) (hd:(x == ("__debug__":Str))=false:=by decide):Snd X Y (.Call (.Name x p) [a] [] pos) (ap1 g fa):= .mk fun ρ=>
 PE.imp (JA hc gl mg bt (zu (ha ρ) zU hs) hn hd hs rfl) fun σ H Q ⟨B,I,q⟩=>step I q fun t v H1 _ s1 r1 I1 q1=>hr v t _ H1 Q r1 I1.sB q1
def ZP:T->R T
 | .tup xs=> .ok (.int xs.length)
 | .lst xs=> .ok (.int xs.length)
 | .fz xs=> .ok (.int xs.length)
 | .str x=>if x.length<=bnd then .ok (.int x.length) else .bad
 | _=> .bad
theorem vm (v:V) (t:T) (B H:Hp) (Q:VK) (r:Rep H v t) (sB:zt B H) (q:Po Y rC B H (ZP t) Q):
  (∃ p ys,[v]=[V.ref p]/\(SqL X.K H p ys\/SqT X.K H p ys)/\Q (V.int ys.length) H)\/(∃ z,[v]=[V.str z]/\z.length<=sizeLine/\Q (V.int z.length) H):=by
 cases r with
 | tup h r=>exact .inl ⟨_,_,rfl, .inr (SqT.of h),po0 sB q rfl (by rw [r.length]; exact .int _)⟩
 | lst h r=>exact .inl ⟨_,_,rfl, .inl (SqL.of h),po0 sB q rfl (by rw [r.length]; exact .int _)⟩
 | fz h r=>exact .inl ⟨_,_,rfl, .inl (.inl (.inr ⟨_,h⟩)),po0 sB q rfl (by rw [r.length]; exact .int _)⟩
 | str x=>
  by_cases hb:x.length<=bnd
  ·exact .inr ⟨x,rfl,Z8 hb,po0 sB q (if_pos hb) (.int _)⟩
  ·rw [show ZP (.str x)= .bad from if_neg hb] at q; exact q.elim
 | _=>exact q.elim
theorem ZL (gl:Gl X "len") (mg:X.mg "len"=none) (ha:j8 X Y a fa) (hs:St1 X a:=by exact st1 rfl):Snd X Y (.Call (.Name "len" p) [a] [] pos) (ap1 ZP fa):=
 WW (JC.or JD) vm gl mg PySem.boot_len ha hs
def Y5:T->R T
 | .tup xs=> .ok (.tup xs)
 | .lst xs=> .ok (.tup xs)
 | _=> .bad
theorem vn (v:V) (t:T) (B H:Hp) (Q:VK) (r:Rep B v t) (sB:zt B H) (q:Po Y rC B H (Y5 t) Q):
  ∃ p ys,[v]=[V.ref p]/\((SqL X.K H p ys/\∀ l,H l=none->Q (.ref l) (upd H l (.tup ys)))\/(SqT X.K H p ys/\Q (.ref p) H)):=by
 cases r with
 | tup h r=>exact ⟨_,_,rfl, .inr ⟨SqT.of (sB _ _ h),po0 sB q rfl (.tup h r)⟩⟩
 | lst h r=>exact ⟨_,_,rfl, .inl ⟨SqL.of (sB _ _ h),fun l hl=>qv sB q rfl r hl⟩⟩
 | _=>exact q.elim
theorem J4 (gl:Gl X "tuple") (mg:X.mg "tuple"=none) (ha:Snd X Y a fa) (hs:St1 X a:=by exact st1 rfl):Snd X Y (.Call (.Name "tuple" p) [a] [] pos) (ap1 Y5 fa):=
 WX jX vn gl mg (PyProof.Rows.Boot.«tuple») ha hs
def tyN:T->String
 | .non=>"NoneType"
 | .bl _=>"bool"
 | .int _=>"int"
 | .str _=>"str"
 | .tup _=>"tuple"
 | .lst _=>"list"
 | .fz _=>"list"
def isT (n:String) (t:T):Bool:=tyN t == n || (n == "int" && tyN t == "bool")
theorem vo {H:Hp} {v:V} {t:T} (K:PySem.W.Frag) (r:Rep H v t):Wb K H v (.type (tyN t)):=by
 cases r with
 | non=>exact .non
 | bl b=>exact .bl b
 | int b=>exact .int b
 | str b=>exact .str b
 | tup h _=>exact .tup h
 | lst h _=>exact .lst h
 | fz h _=>exact .frz h
theorem Uv:Zt X (.builtin "isinstance") (fun xs H Q=>∃ v n t,xs=[v, .ty n]/\Rep H v t/\PySem.W.kitOne X.K (.type (tyN t)) (.type n)=some (isT n t)/\Q (.bl (isT n t)) H):=by
 intro pins s σ H xs us Q I rv h
 obtain ⟨v,n,t,rfl,r,hk,q⟩:=h
 obtain ⟨u,w,rfl,ru,rw'⟩:=yD rv
 obtain rfl:w=Value.type n:=rw'
 exact WI I ru (vo X.K r) hk fun tk=>⟨.bl _,H,I.tok tk,rfl,q⟩
def UW (n:String) (t:T):R T:= .ok (.bl (isT n t))
theorem Y6 (K:PySem.W.Frag) (t:T):PySem.W.kitOne K (.type (tyN t)) (.type "int")=some (isT "int" t):=by cases t <;> rfl
theorem Uw (K:PySem.W.Frag) (t:T):PySem.W.kitOne K (.type (tyN t)) (.type "bool")=some (isT "bool" t):=by cases t <;> rfl
theorem WY (K:PySem.W.Frag) (t:T):PySem.W.kitOne K (.type (tyN t)) (.type "str")=some (isT "str" t):=by cases t <;> rfl
theorem JN (K:PySem.W.Frag) (t:T):PySem.W.kitOne K (.type (tyN t)) (.type "tuple")=some (isT "tuple" t):=by cases t <;> rfl
theorem Wh {n:String} {p' :Pos} (hk:∀ t,PySem.W.kitOne X.K (.type (tyN t)) (.type n)=some (isT n t)) (gl:Gl X "isinstance") (mg:X.mg "isinstance"=none) (gl' :Gl X (Str.ofString n)) (mg' :X.mg (Str.ofString n)=none) (bt:bootBuiltins (Str.ofString n)=some (.type n)) (ha:j8 X Y a fa)
  (hs:starEach [a, .Name (Str.ofString n) p'] X.env=[(false,eval a X.env),(false,eval (.Name (Str.ofString n) p') X.env)]:=by exact st2 rfl rfl) (hs2:starEach [.Name (Str.ofString n) p'] X.env=[(false,eval (.Name (Str.ofString n) p') X.env)]:=by exact st1 rfl)
  (hn:Str.ofString n ≠ "__name__":=by decide) (hd:(Str.ofString n == ("__debug__":Str))=false:=by decide) (hz:((backTo pos (starEach [.Name (Str.ofString n) p'] X.env)).any fun x=>x.fst)=false:=by exact ZS rfl):
  Snd X Y (.Call (.Name "isinstance" p) [a, .Name (Str.ofString n) p'] [] pos) (ap1 (UW n) fa):= .mk fun ρ=>
 PE.imp (jj Uv gl mg PyProof.Rows.Boot.«isinstance» (zu (ha ρ) (zu (yw (v:= .ty n) gl' mg' bt rfl hn hd) zU hs2) (by rw [hs,hs2])) (by decide) (by decide) (by rw [hs,hs2]) hz) fun σ H Q ⟨B,I,q⟩=>
  step I q fun t v H1 _ s1 r1 I1 q1=>⟨v,n,t,rfl,r1,hk t,po0 I1.sB q1 rfl (.bl _)⟩
def atT (xs:List T) (i:Int):R T:=match atI xs i with
 | some t=> .ok t
 | none=> .bad
def ixT:T->T->R T
 | .tup xs, .int i=>atT xs i
 | .lst xs, .int i=>atT xs i
 | .fz xs, .int i=>atT xs i
 | .str z, .int i=>if z.length<=bnd then match atI z.cps.toList i with | some c=> .ok (.str ⟨#[c]⟩) | none=> .bad else .bad
 | _,_=> .bad
theorem WZ {H:Hp} {xs:List V} {ts:List T} {i:Int} {t:T} (r:zy H xs ts) (h:atI ts i=some t):∃ v,atI xs i=some v/\Rep H v t:=by
 unfold atI at h ⊢
 rw [r.length]
 cases e:ixN ts.length i with
 | none=>rw [e] at h; cases h
 | some j=>
  rw [e] at h
  obtain ⟨v,h1,h2⟩:=r.get (show ts[j]? =some t from h)
  exact ⟨v,h1,h2⟩
theorem Z4 (ha:Snd X Y a fa) (hb:Snd X Y b fb) (hs:WK b:=by exact fun _ _=>rfl):Snd X Y (.Subscript a b pos) (zc ixT fa fb):= .mk fun ρ=>
 PE.imp (vg qo (ha ρ) (hb ρ) hs) fun σ H Q ⟨B,I,q⟩=>step I q fun t v H1 _ s1 r1 I1 q1=>step I1 q1 fun t' v' H2 _ s2 r2 I2 q2=>by
  have r1:=r1.mono (zE.ge I1.sB s2)
  cases r2 with
  | int i=>
   cases r1 with
   | @tup _ xs ts h r=>
    have q2:Po Y rC _ H2 (atT ts i) Q:=q2
    unfold atT at q2
    split at q2
    ·rename_i t' e
     obtain ⟨w,e1,e2⟩:=WZ r e
     exact .inr (.inl ⟨_,xs,i,w,rfl,rfl,SqT.of (I2.sB _ _ h),e1,po0 I2.sB q2 rfl e2⟩)
    ·exact q2.elim
   | @lst _ xs ts h r=>
    have q2:Po Y rC _ H2 (atT ts i) Q:=q2
    unfold atT at q2
    split at q2
    ·rename_i t' e
     obtain ⟨w,e1,e2⟩:=WZ r e
     exact .inl ⟨_,xs,i,w,rfl,rfl,SqL.of (I2.sB _ _ h),e1,po0 I2.sB q2 rfl e2⟩
    ·exact q2.elim
   | @fz _ _ xs ts h r=>
    have q2:Po Y rC _ H2 (atT ts i) Q:=q2
    unfold atT at q2
    split at q2
    ·rename_i t' e
     obtain ⟨w,e1,e2⟩:=WZ r e
     exact .inl ⟨_,xs,i,w,rfl,rfl, .inl (.inr ⟨_,I2.sB _ _ h⟩),e1,po0 I2.sB q2 rfl e2⟩
    ·exact q2.elim
   | str z=>
    have q2:Po Y rC _ H2 (if z.length<=bnd then match atI z.cps.toList i with | some c=> .ok (.str ⟨#[c]⟩) | none=> .bad else .bad) Q:=q2
    split at q2
    ·rename_i hb
     split at q2
     ·rename_i c e
      exact .inr (.inr ⟨z,i,c,rfl,rfl,Z8 hb,e,po0 I2.sB q2 rfl (.str _)⟩)
     ·exact q2.elim
    ·exact q2.elim
   | _=>exact q2.elim
  | _=>cases r1 <;> exact q2.elim
structure YI (X:Cx) (Y:Fx) (e:Option Expr) (f:En->R (Option Int)):Prop where
 mk ::
 go:∀ ρ,PO X e (tS Y rE f ρ)
instance {X:Cx} {Y:Fx} {e:Option Expr} {f:En->R (Option Int)}:CoeFun (YI X Y e f) fun _=>∀ ρ,PO X e (tS Y rE f ρ):=⟨YI.go⟩
def noO:En->R (Option Int):=fun _=> .ok none
def zZ (fa:En->R T):En->R (Option Int):=fun ρ=>(fa ρ).bind fun t=>match t with
 | .int i=> .ok (some i)
 | _=> .bad
theorem PO.imp {e:Option Expr} {t t' :TO} (h:PO X e t) (i:∀ σ H Q,t' σ H Q->t σ H Q):PO X e t' :=fun pins s σ H Q I q=>h pins s σ H Q I (i σ H Q q)
theorem UX:YI X Y none noO:= .mk fun ρ=>PO.imp yI fun σ H Q ⟨B,I,q⟩=>Zv I q rfl
theorem j9 (ha:Snd X Y a fa):YI X Y (some a) (zZ fa):= .mk fun ρ=>PO.imp (yJ (ha ρ)) fun σ H Q ⟨B,I,q⟩=>step I q fun t v H1 _ s1 r1 I1 q1=>by
 cases r1 with
 | int i=>exact ⟨i,rfl,Zv I1 q1 rfl⟩
 | _=>exact q1.elim
def u0 (t t' :T):R T:=match t,t' with
 | .int i, .int j=> .ok (.int (if j < i then j else i))
 | _,_=> .bad
theorem UY (hc:X.calm=true) (gl:Gl X "min") (mg:X.mg "min"=none) (ha:Snd X Y a fa) (hb:Snd X Y b fb)
  (hs:starEach [a,b] X.env=[(false,eval a X.env),(false,eval b X.env)]:=by exact st2 rfl rfl) (hs2:starEach [b] X.env=[(false,eval b X.env)]:=by exact st1 rfl):
  Snd X Y (.Call (.Name "min" p) [a,b] [] pos) (zc u0 fa fb):= .mk fun ρ=>
 PE.imp (jj (WG hc) gl mg PyProof.Rows.Boot.«min» (zu (ha ρ) (zu (hb ρ) zU hs2) (by rw [hs,hs2])) (by decide) (by decide) (by rw [hs,hs2]) (by rw [hs2]; rfl)) fun σ H Q ⟨B,I,q⟩=>
  step I q fun t v H1 _ s1 r1 I1 q1=>step I1 q1 fun t' v' H2 _ s2 r2 I2 q2=>by
   cases r1 with
   | int i=>
    cases r2 with
    | int j=>exact ⟨i,j,rfl,po0 I2.sB q2 rfl (.int _)⟩
    | _=>exact q2.elim
   | _=>cases r2 <;> exact q2.elim
def Wu:List T->Option Bool
 | []=>some true
 | .bl k :: r=>match Wu r with | some j=>some (k && j) | none=>none
 | _ :: _=>none
def Y7:T->R T
 | .lst ts=>match Wu ts with | some k=> .ok (.bl k) | none=> .bad
 | _=> .bad
theorem u1:∀ {H:Hp} {xs:List V} {ts:List T} {its:List Value} {k:Bool},zy H xs ts->zR xs its->Wu ts=some k->∃ tr:Nat->Bool,(∀ i v,its[i]? =some v->v=Value.bool (tr i))/\(List.range its.length).all tr=k
 | _,_,_,_,k, .nil, .nil,h=>by
  have h' :some true=some k:=h
  cases h'
  exact ⟨fun _=>true,fun i v e=>by simp at e,rfl⟩
 | H,_,_,_,k, .cons (v:=x) (t:=t) r rs, .cons (b:=u) rv vs,h=>by
  cases r with
  | bl b=>
   unfold Wu at h
   split at h
   ·rename_i j e
    cases h
    obtain ⟨tr,h1,h2⟩:=u1 rs vs e
    obtain rfl:u=Value.bool b:=rv
    refine ⟨fun i=>match i with | 0=>b | i+1=>tr i,fun i v e=> ?_, ?_⟩
    ·cases i with
     | zero=>simp at e; exact e.symm
     | succ i=>exact h1 i v (by simpa using e)
    ·rw [List.length_cons,List.range_succ_eq_map,List.all_cons,List.all_map,← h2]
     rfl
   ·cases h
  | _=>cases h
theorem u4 (hh:X.A.handled=none):Zt X (.builtin "all") (fun vs H Q=>∃ l xs ts k,vs=[.ref l]/\H l=some (.lst xs)/\zy H xs ts/\Wu ts=some k/\Q (.bl k) H):=by
 intro pins s σ H vs us Q I rv h
 obtain ⟨l,xs,ts,k,rfl,hl,r,hk,q⟩:=h
 obtain ⟨u,rfl,ru⟩:=Zz rv
 obtain rfl:u=Value.ref l:=ru
 obtain ⟨its,rv,p,_⟩:=zC I (.inl hl) r
 obtain ⟨tr,h1,h2⟩:=u1 r rv hk
 refine call_all_walk (wpAny_pyIter_list p ?_)
 have hlt:l < s.heap.objs.size:=I.hok.lt hl
 have old:∀ b o,s.heap.get? b=some o->(s.heap.push { cls:= .type "list_iterator",data:= .fields #[.ref l, .int 0 0] }).get? b=some o:=fun b o e=>Heap.get?_push_of_some _ e
 refine ⟨s.heap.objs.size,_,_,_,_,_,tr,rfl,Walks.list (A:=X.A.in1) hh s.heap.objs.size l (Nat.ne_of_lt hlt) its.toArray, ?_, ?_,fun h' tk hk' => ?_⟩
 ·refine ⟨?_,p.at fun o e=>old _ o e⟩
  exact ⟨_,Heap.get?_push_size _ rfl,rfl,rfl⟩
 ·intro i v s' Q' E' hi hq
  rw [h1 i v (by simpa using hi)]
  exact wpAny_truthy_bool hq
 ·rw [List.size_toArray,h2]
  refine ⟨.bl k,H,I.kept (t' :=tk) (fun b o e=>hk' b o ?_ (old b o e)),rfl,q⟩
  simp
  exact Nat.ne_of_lt (Heap.lt_size e)
theorem Y8 (hh:X.A.handled=none) (gl:Gl X "all") (mg:X.mg "all"=none) (ha:j8 X Y a fa) (hs:St1 X a:=by exact st1 rfl):Snd X Y (.Call (.Name "all" p) [a] [] pos) (ap1 Y7 fa):=
 WW (u4 hh) (fun v t B H Q r sB q=>by
  cases r with
  | @lst l xs ts h r=>
   have q:Po Y rC B H (match Wu ts with | some k=> .ok (.bl k) | none=> .bad) Q:=q
   split at q
   ·rename_i k e
    exact ⟨l,xs,ts,k,rfl,h,r,e,po0 sB q rfl (.bl k)⟩
   ·exact q.elim
  | _=>exact q.elim) gl mg PyProof.Rows.Boot.«all» ha hs
end
inductive RS where
 | nx (ρ:En) | rt (t:T) | bk (ρ:En) | ct (ρ:En) | ex (c:Nat) | bad | rf (ts:List T)
def R.s {α:Type} (r:R α) (k:α->RS):RS:=match r with
 | .ok a=>k a
 | .ex c=> .ex c
 | .bad=> .bad
def PoS (Y:Fx) (B:Hp) (r:RS) (D:Ub):Prop:=match r with
 | .nx ρ' =>∀ σ' H' B',zt B B' ->SI Y B' ρ' σ' H' ->D.nx σ' H'
 | .rt t=>∀ v H',zt Y.H0 H' ->Rep (zE Y.B0 Y.H0 H') v t->D.rt v H'
 | .bk ρ' =>∀ σ' H' B',zt B B' ->SI Y B' ρ' σ' H' ->D.bk σ' H'
 | .ct ρ' =>∀ σ' H' B',zt B B' ->SI Y B' ρ' σ' H' ->D.ct σ' H'
 | .ex c=>XP Y B c
 | .bad=>False
 | .rf ts=>∀ a xs H' B',zt Y.H0 H' ->Y.H0 a=none->H' a=some (.lst xs)->zy B' xs ts->B' a=none->zt B' (zE Y.B0 Y.H0 H')->D.rt (.ref a) H'
theorem PoS.up {Y:Fx} {B B' :Hp} {r:RS} {D:Ub} (s:zt B B') (h:PoS Y B r D):PoS Y B' r D:=by
 cases r with
 | nx ρ=>exact fun σ' H' B2 s2 I=>h σ' H' B2 (s.trans s2) I
 | bk ρ=>exact fun σ' H' B2 s2 I=>h σ' H' B2 (s.trans s2) I
 | ct ρ=>exact fun σ' H' B2 s2 I=>h σ' H' B2 (s.trans s2) I
 | rt t=>exact h
 | rf t=>exact h
 | ex c=>exact fun d H' s0 sB=>h d H' s0 (s.trans sB)
 | bad=>exact h
def tSS (Y:Fx) (f:En->RS) (ρ:En):TS:=fun D σ H=>∃ B,SI Y B ρ σ H/\PoS Y B (f ρ) D
structure wL (X:Cx) (Y:Fx) (e:Stmt) (f:En->RS):Prop where
 mk ::
 go:∀ ρ,PS X e (tSS Y f ρ)
instance {X:Cx} {Y:Fx} {e:Stmt} {f:En->RS}:CoeFun (wL X Y e f) fun _=>∀ ρ,PS X e (tSS Y f ρ):=⟨wL.go⟩
structure u5 (X:Cx) (Y:Fx) (e:List Stmt) (f:En->RS):Prop where
 mk ::
 go:∀ ρ,PSs X e (tSS Y f ρ)
instance {X:Cx} {Y:Fx} {e:List Stmt} {f:En->RS}:CoeFun (u5 X Y e f) fun _=>∀ ρ,PSs X e (tSS Y f ρ):=⟨u5.go⟩
theorem wl {α β:Type} {Y:Fx} {rel:Hp->Hp->β->α->Prop} {f:En->R α} {k:α->RS} {ρ:En} {B:Hp} {σ:Sg} {H:Hp} {D:Ub} {K:β->Hp->Prop}
  (I:SI Y B ρ σ H) (h:PoS Y B ((f ρ).s k) D)
  (n:∀ a b H1,f ρ= .ok a->zt H H1->rel (zE B H H1) H1 b a->SI Y (zE B H H1) ρ σ H1->PoS Y (zE B H H1) (k a) D->K b H1):tS Y rel f ρ σ H K:=by
 refine ⟨B,I, ?_⟩
 cases e:f ρ with
 | bad=>rw [e] at h; exact h
 | ex c=>rw [e] at h; exact h
 | ok a=>
  rw [e] at h
  exact fun b H1 s r=>n a b H1 e s r (I.grow s) (PoS.up (zE.ge I.sB s) h)
theorem zS {α:Type} {xs:List α} {i j:Nat} {x y:α} (h:(xs.set i x)[j]? =some y):(j=i/\y=x)\/(j ≠ i/\xs[j]? =some y):=by
 by_cases e:j=i
 ·subst e
  by_cases hl:j < xs.length
  ·rw [List.getElem?_set_self hl] at h; exact .inl ⟨rfl,(Option.some.inj h).symm⟩
  ·rw [List.getElem?_eq_none (by rw [List.length_set]; omega)] at h; cases h
 ·rw [List.getElem?_set_ne (Ne.symm e)] at h; exact .inr ⟨e,h⟩
theorem u6 {α:Type} {xs:List α} {i:Nat} {x y:α} (h:(xs.set i x)[i]? =some y):i < xs.length:=by
 by_cases hl:i < xs.length
 ·exact hl
 ·rw [List.getElem?_eq_none (by rw [List.length_set]; omega)] at h; cases h
theorem SI.setV {Y:Fx} {B:Hp} {ρ:En} {σ:Sg} {H:Hp} (I:SI Y B ρ σ H) (i:Nat) {v:V} {t:T} (r:Rep B v t):SI Y B (ρ.set i (.vl t)) (σ.set i (some v)) H where
 s0:=I.s0
 sH:=I.sH
 sB:=I.sB
 old:=I.old
 len:=by rw [List.length_set,List.length_set]; exact I.len
 vl:=fun j u h=>by
  rcases zS h with ⟨rfl,e⟩ | ⟨hj,h'⟩
  ·cases e
   exact ⟨v,List.getElem?_set_self (by rw [← I.len]; exact u6 h),r⟩
  ·obtain ⟨w,e,rr⟩:=I.vl j u h'
   exact ⟨w,by rw [List.getElem?_set_ne (Ne.symm hj)]; exact e,rr⟩
 ow:=fun j us h=>by
  rcases zS h with ⟨rfl,e⟩ | ⟨hj,h'⟩
  ·cases e
  ·obtain ⟨a,xs,e,b0,h0,hh,rr,d⟩:=I.ow j us h'
   refine ⟨a,xs,by rw [List.getElem?_set_ne (Ne.symm hj)]; exact e,b0,h0,hh,rr,fun k ws hk hw=> ?_⟩
   rcases zS hw with ⟨rfl,e'⟩ | ⟨hk',hw'⟩
   ·cases e'
   ·rw [List.getElem?_set_ne (Ne.symm hk')]; exact d k ws hk hw'
 xc:=fun j c h=>by
  rcases zS h with ⟨rfl,e⟩ | ⟨hj,h'⟩
  ·cases e
  ·obtain ⟨a,e,r⟩:=I.xc j c h'
   exact ⟨a,by rw [List.getElem?_set_ne (Ne.symm hj)]; exact e,r⟩
theorem SI.newO {Y:Fx} {B:Hp} {ρ:En} {σ:Sg} {H:Hp} (I:SI Y B ρ σ H) (i:Nat) {p:Addr} {xs:List V} {ts:List T} (hp:H p=none) (r:zy B xs ts):SI Y B (ρ.set i (.ow ts)) (σ.set i (some (.ref p))) (upd H p (.lst xs)) where
 s0:=I.s0
 sH:=I.sH.trans (zt.new hp _)
 sB:=I.sB.trans (zt.new hp _)
 old:=I.old
 len:=by rw [List.length_set,List.length_set]; exact I.len
 vl:=fun j u h=>by
  rcases zS h with ⟨rfl,e⟩ | ⟨hj,h'⟩
  ·cases e
  ·obtain ⟨w,e,rr⟩:=I.vl j u h'
   exact ⟨w,by rw [List.getElem?_set_ne (Ne.symm hj)]; exact e,rr⟩
 ow:=fun j us h=>by
  have op:∀ k ws a,ρ[k]? =some (Sl.ow ws)->σ[k]? =some (some (V.ref a))->a ≠ p:=fun k ws a h1 h2=>by
   obtain ⟨a',xs',e,_,_,hh,_⟩:=I.ow k ws h1
   rw [e] at h2; cases h2
   exact zv hh hp
  rcases zS h with ⟨rfl,e⟩ | ⟨hj,h'⟩
  ·cases e
   refine ⟨p,xs,List.getElem?_set_self (by rw [← I.len]; exact u6 h),I.sB.free hp,I.sH.free hp,Zc,r,fun k ws hk hw=> ?_⟩
   rcases zS hw with ⟨rfl,e'⟩ | ⟨hk',hw'⟩
   ·exact absurd rfl hk
   ·rw [List.getElem?_set_ne (Ne.symm hk')]
    exact fun z=>op k ws p hw' z rfl
  ·obtain ⟨a,xs',e,b0,h0,hh,rr,d⟩:=I.ow j us h'
   refine ⟨a,xs',by rw [List.getElem?_set_ne (Ne.symm hj)]; exact e,b0,h0,by rw [zr (op j us a h' e)]; exact hh,rr,fun k ws hk hw=> ?_⟩
   rcases zS hw with ⟨rfl,e'⟩ | ⟨hk',hw'⟩
   ·rw [List.getElem?_set_self (by rw [← I.len]; exact u6 hw)]
    intro z
    exact op j us a h' e (by injection z with z; injection z with z; injection z with z; exact z.symm)
   ·rw [List.getElem?_set_ne (Ne.symm hk')]; exact d k ws hk hw'
 xc:=fun j c h=>by
  rcases zS h with ⟨rfl,e⟩ | ⟨hj,h'⟩
  ·cases e
  ·obtain ⟨a,e,r⟩:=I.xc j c h'
   exact ⟨a,by rw [List.getElem?_set_ne (Ne.symm hj)]; exact e,r⟩
theorem SI.chg {Y:Fx} {B:Hp} {ρ:En} {σ:Sg} {H:Hp} (I:SI Y B ρ σ H) (i:Nat) {p:Addr} {ts us:List T} {ys:List V} (hi:ρ[i]? =some (.ow ts)) (he:σ[i]? =some (some (.ref p))) (r:zy B ys us):SI Y B (ρ.set i (.ow us)) σ (upd H p (.lst ys)):=by
 obtain ⟨p',xs,e,b0,h0,hh,rr,d⟩:=I.ow i ts hi
 rw [he] at e
 cases e
 have nb:∀ b o,B b=some o->b ≠ p:=fun b o h z=>by subst z; rw [b0] at h; cases h
 have n0:∀ b o,Y.H0 b=some o->b ≠ p:=fun b o h z=>by subst z; rw [h0] at h; cases h
 refine ⟨I.s0,fun b o h=>by rw [zr (n0 b o h)]; exact I.sH b o h,fun b o h=>by rw [zr (nb b o h)]; exact I.sB b o h,I.old,by rw [List.length_set]; exact I.len,fun j u h=> ?_,fun j ws h=> ?_,fun j c h=> ?_⟩
 rotate_right
 ·rcases zS h with ⟨rfl,z⟩ | ⟨hj,h'⟩
  ·cases z
  ·exact I.xc j c h'
 ·rcases zS h with ⟨rfl,z⟩ | ⟨hj,h'⟩
  ·cases z
  ·exact I.vl j u h'
 ·rcases zS h with ⟨rfl,z⟩ | ⟨hj,h'⟩
  ·cases z
   refine ⟨p,ys,he,b0,h0,Zc,r,fun k vs hk hw=> ?_⟩
   rcases zS hw with ⟨rfl,e'⟩ | ⟨hk',hw'⟩
   ·exact absurd rfl hk
   ·exact d k vs hk hw'
  ·obtain ⟨a,xs',e,c0,g0,gg,ss,d'⟩:=I.ow j ws h'
   have hne:a ≠ p:=fun z=>by subst z; exact d j ws hj h' e
   refine ⟨a,xs',e,c0,g0,by rw [zr hne]; exact gg,ss,fun k vs hk hw=> ?_⟩
   rcases zS hw with ⟨rfl,e'⟩ | ⟨hk',hw'⟩
   ·rw [he]; intro z; injection z with z; injection z with z; injection z with z; exact hne z.symm
   ·exact d' k vs hk hw'
def VD:Sl->Sl
 | .ow ts=> .vl (.lst ts)
 | x=>x
def frz (ρ:En):En:=ρ.map VD
theorem SI.up {Y:Fx} {B:Hp} {ρ:En} {σ:Sg} {H:Hp} (I:SI Y B ρ σ H):zt B (zE B Y.H0 H):=fun b o h=>by
 cases q:Y.H0 b with
 | none=>rw [Z7 q]; exact I.sB b o h
 | some u=>rw [zV q]; exact h
theorem SI.frz {Y:Fx} {B:Hp} {ρ:En} {σ:Sg} {H:Hp} (I:SI Y B ρ σ H):SI Y (zE B Y.H0 H) (PV.frz ρ) σ H:=by
 have up:zt B (zE B Y.H0 H):=fun b o h=>by
  cases q:Y.H0 b with
  | none=>rw [Z7 q]; exact I.sB b o h
  | some u=>rw [zV q]; exact h
 refine ⟨I.s0,I.sH,fun b o h=> ?_,fun b o h=>by rw [zV h]; exact I.old b o h,by unfold PV.frz; rw [List.length_map]; exact I.len,fun j t h=> ?_,fun j ts h=> ?_,fun j c h=> ?_⟩
 rotate_right
 ·unfold PV.frz at h
  rw [List.getElem?_map] at h
  cases e:ρ[j]? with
  | none=>rw [e] at h; cases h
  | some x=>
   rw [e] at h
   cases x with
   | xc d=>
    cases h
    obtain ⟨a,e1,r⟩:=I.xc j _ e
    exact ⟨a,e1,up a _ r⟩
   | un=>cases h
   | vl _=>cases h
   | ow _=>cases h
 ·cases q:Y.H0 b with
  | none=>rw [Z7 q] at h; exact h
  | some u=>rw [zV q] at h; exact I.sB b o h
 ·unfold PV.frz at h
  rw [List.getElem?_map] at h
  cases e:ρ[j]? with
  | none=>rw [e] at h; cases h
  | some x=>
   rw [e] at h
   cases x with
   | un=>cases h
   | vl u=>
    cases h
    obtain ⟨v,e1,r⟩:=I.vl j _ e
    exact ⟨v,e1,r.mono up⟩
   | ow us=>
    cases h
    obtain ⟨a,xs,e1,b0,h0,hh,rr,_⟩:=I.ow j us e
    exact ⟨.ref a,e1, .lst (by rw [Z7 h0]; exact hh) (rr.mono up)⟩
   | xc _=>cases h
 ·unfold PV.frz at h
  rw [List.getElem?_map] at h
  cases e:ρ[j]? with
  | none=>rw [e] at h; cases h
  | some x=>
   rw [e] at h
   cases x with
   | un=>cases h
   | vl u=>cases h
   | ow us=>cases h
   | xc _=>cases h
theorem qB {Y:Fx} {B H H' :Hp} (s0:zt Y.H0 H) (old:∀ b o,Y.H0 b=some o->B b=Y.B0 b) (s:zt H H') (sB:zt B H):zt (zE B H H') (zE Y.B0 Y.H0 H'):=fun b o h=>by
 cases q:H b with
 | none=>
  rw [Z7 q] at h
  rw [Z7 (s0.free q)]; exact h
 | some u=>
  rw [zV q] at h
  cases z:Y.H0 b with
  | none=>rw [Z7 z]; exact s b o (sB b o h)
  | some w=>rw [zV z,← old b w z]; exact h
section
variable {X:Cx} {Y:Fx} {a b c d:Expr} {fa fb fc fd:En->R T} {pos p:Pos} {st:Stmt} {sts sts' :List Stmt} {f g:En->RS}
def nxS:En->RS:=fun ρ=> .nx ρ
def zF (f g:En->RS):En->RS:=fun ρ=>match f ρ with
 | .nx ρ' =>g ρ'
 | r=>r
theorem zG:u5 X Y [] nxS:= .mk fun ρ=>PSs.imp yy fun D σ H ⟨B,I,q⟩=>q σ H B (zt.refl B) I
theorem zh (h:wL X Y st f):u5 X Y [st] f:= .mk fun ρ=>yz (h ρ)
theorem zd (h1:wL X Y st f) (h2:u5 X Y sts g):u5 X Y (st :: sts) (zF f g):= .mk fun ρ=>by
 refine PSs.imp (Ud (u:=fun D σ H=>∃ ρ',tSS Y g ρ' D σ H) (h1 ρ) ?_) ?_
 ·intro pins s σ H D I ⟨ρ',q⟩
  exact h2 ρ' pins s σ H D I q
 ·intro D σ H ⟨B,I,q⟩
  refine ⟨B,I, ?_⟩
  unfold zF at q
  cases e:f ρ with
  | nx ρ' =>
   rw [e] at q
   intro σ' H' B' s' I'
   exact ⟨ρ',B',I',PoS.up s' q⟩
  | rt t=>rw [e] at q; exact q
  | rf t=>rw [e] at q; exact q
  | bk ρ' =>rw [e] at q; exact q
  | ct ρ' =>rw [e] at q; exact q
  | ex c=>rw [e] at q; exact q
  | bad=>rw [e] at q; exact q
def Z5 (i:Nat) (fa:En->R T):En->RS:=fun ρ=>(fa ρ).s fun t=> .nx (ρ.set i (.vl t))
theorem Zg {i:Nat} {x:Str} {p' :Pos} (hN:X.N.Nodup) (hi:X.N[i]? =some x) (hx:L2.Loc X.env.scope x) (ha:Snd X Y a fa) (hs:swapsWith a (some (.Name x p')) pos.line X.env=pure false:=by rfl)
  (hf:X.fn x=true\/X.env.scope.names.lookup x=some .local:=by first | exact .inl rfl | exact .inr rfl | assumption):wL X Y (.Assign [.Name x p'] a pos) (Z5 i fa):= .mk fun ρ=>
 PS.imp (US hN hi hx (ha ρ) hs hf) fun D σ H ⟨B,I,q⟩=>wl I q fun t v H1 _ s1 r1 I1 q1=>q1 _ _ _ (zt.refl _) (I1.setV i r1)
def qC (i:Nat) (ga:En->R (List T)):En->RS:=fun ρ=>(ga ρ).s fun ts=>if ts.length<=bnd then .nx (ρ.set i (.ow ts)) else .bad
theorem UZ {i:Nat} {x:Str} {p' :Pos} {es:List Expr} {ga:En->R (List T)} (hN:X.N.Nodup) (hi:X.N[i]? =some x) (hx:L2.Loc X.env.scope x) (ha:WN X Y es ga) (hs:swapsWith (.List es p) (some (.Name x p')) pos.line X.env=pure false:=by rfl)
  (hf:X.fn x=true\/X.env.scope.names.lookup x=some .local:=by first | exact .inl rfl | exact .inr rfl | assumption):wL X Y (.Assign [.Name x p'] (.List es p) pos) (qC i ga):= .mk fun ρ=>
 PS.imp (US hN hi hx (UU (ha ρ)) hs hf) fun D σ H ⟨B,I,q⟩=>wl I q fun ts vs H1 _ s1 r1 I1 q1=>by
  split at q1
  ·rename_i hb
   exact ⟨by rw [r1.length]; exact Z8 hb,fun p hp=>q1 _ _ _ (zt.refl _) (I1.newO i hp r1)⟩
  ·exact q1.elim
def zO (fa:En->R T):En->RS:=fun ρ=>(fa (frz ρ)).s fun t=> .rt t
theorem zo (ha:Snd X Y a fa):wL X Y (.Return (some a) pos) (zO fa):= .mk fun ρ=>
 PS.imp (qa (ha (frz ρ))) fun D σ H ⟨B,I,q⟩=>by
  refine ⟨_,I.frz, ?_⟩
  unfold zO at q
  cases e:fa (frz ρ) with
  | bad=>rw [e] at q; exact q
  | ex c=>
   rw [e] at q
   exact fun d H' s0 sG=>q d H' s0 (I.up.trans sG)
  | ok t=>
   rw [e] at q
   intro v H' s r
   have J:=I.frz
   exact q v H' (I.sH.trans s) (r.mono (qB J.sH J.old s J.sB))
def ifS (g:En->R Bool) (f1 f2:En->RS):En->RS:=fun ρ=>(g ρ).s fun k=>if k=true then f1 ρ else f2 ρ
theorem zH {ga:En->R Bool} (hc:wJ X Y c ga) (h1:u5 X Y sts f) (h2:u5 X Y sts' g):wL X Y (.If c sts sts' pos) (ifS ga f g):= .mk fun ρ=>
 PS.imp (QS (hc ρ) (h1 ρ) (h2 ρ)) fun D σ H ⟨B,I,q⟩=>wl I q fun t v H1 _ s1 r1 I1 q1=>by
  have r1' :v=t:=r1
  subst r1'
  cases v with
  | true=>exact ⟨_,I1,q1⟩
  | false=>exact ⟨_,I1,q1⟩
def Wi (fa:En->R T):En->RS:=fun ρ=>(fa ρ).s fun _=> .nx ρ
theorem u7 (ha:Snd X Y a fa) (hs:swapsWith a none pos.line X.env=pure false:=by rfl):wL X Y (.Expr a pos) (Wi fa):= .mk fun ρ=>
 PS.imp (Wy (ha ρ) hs) fun D σ H ⟨B,I,q⟩=>wl I q fun t v H1 _ s1 r1 I1 q1=>q1 _ _ _ (zt.refl _) I1
def Ux (i:Nat) (fa:En->R T):En->RS:=fun ρ=>match ρ[i]? with
 | some (.ow ts)=>(fa ρ).s fun t=>if ts.length < bnd then .nx (ρ.set i (.ow (ts++[t]))) else .bad
 | _=> .bad
theorem qD {n:Nat} (h:n < bnd):n < sizeLine:=by rw [sizeLine_eq]; exact h
theorem Y9 {i:Nat} {x:Str} {px pa:Pos} (hv:PE X (.Name x px) (YR i)) (ha:Snd X Y a fa) (hb:attributeBase (.Name x px) "append" X.env (eval (.Name x px) X.env)=eval (.Name x px) X.env:=by rfl) (hs:St1 X a:=by exact st1 rfl)
  (hz:(pa.endLine == p.line)=true:=by rfl) (hw:swapsWith (.Call (.Attribute (.Name x px) "append" pa) [a] [] p) none pos.line X.env=pure false:=by rfl):wL X Y (.Expr (.Call (.Attribute (.Name x px) "append" pa) [a] [] p) pos) (Ux i fa):= .mk fun ρ=>by
 have e1:(((((backTo p (starEach [a] X.env)).all fun x=> !x.fst) && (backToKw p (keywordEach [] X.env)).all fun x=>x.fst.isSome) && decide (([a].length+([]:List Keyword).length+if ([]:List Keyword).isEmpty=true then 0 else 1) < 30))=true):=by rw [hs]; rfl
 refine PS.imp (Wy (JE PySem.F.plainAttrs_list PySem.F.slot_list_append PySem.F.type_list_append JF hv (zu (ha ρ) zU hs) hb e1 hz hs rfl) hw) fun D σ H ⟨B,I,q⟩=> ?_
 unfold Ux at q
 split at q
 ·rename_i ts e
  obtain ⟨l,xs,e1,b0,h0,hh,rr,d⟩:=I.ow i ts e
  refine ⟨.ref l,e1, .inl ⟨rfl,_,SqL.of hh⟩, ?_⟩
  refine wl I q fun t v H1 _ s1 r1 I1 q1=> ?_
  split at q1
  ·rename_i hb
   refine ⟨l,xs,v,rfl,rfl,s1 _ _ hh,by rw [rr.length]; exact qD hb, ?_⟩
   exact q1 _ _ _ (zt.refl _) (I1.chg i e e1 ((rr.mono (zE.ge I.sB s1)).append (.cons r1 .nil)))
  ·exact q1.elim
 ·exact q.elim
end
def spP (cl:Nat->Value) (n:Nat) (g:List T->R T):Sp:=fun vs H Q E=>∃ B ts,ts.length=n/\zt B H/\zy B vs ts/\Po ⟨B,H,E,cl⟩ rC B H (g ts) Q
theorem spP.len {cl:Nat->Value} {n:Nat} {g:List T->R T} (vs:List V) (H:Hp) (Q:VK) (E:XK) (h:spP cl n g vs H Q E):vs.length=n:=by
 obtain ⟨B,ts,hl,_,r,_⟩:=h
 rw [r.length,hl]
def za (n:Nat) (g:List T->R T) (ga:En->R (List T)):En->R T:=fun ρ=>(ga ρ).bind fun ts=>if ts.length=n then g ts else .bad
section
variable {X:Cx} {Y:Fx} {a b c d:Expr} {fa fb fc fd:En->R T} {pos p:Pos}
theorem qE {CX:CXT} {k n:Nat} {f:Addr} {fd:FuncData} {ps:List Str} {g:List T->R T} {x:Str} {es:List Expr} {ga:En->R (List T)} (F:Zl X.prog X.w X.K X.mg X.base CX k f fd ps (spP Y.cl n g)) (hr:jI k X.A) (gl:Gl X x) (mg:X.mg x=some (.ref f))
  (kp:PySem.W.keepIn X.K (.ref f)=true) (bd:L2.Binds X.K fd ps []) (hx:wG CX X Y.E) (ha:WN X Y (a :: es) ga) (hd:(x == ("__debug__":Str))=false:=by decide)
  (hs:starEach (a :: es) X.env=(false,eval a X.env) :: starEach es X.env:=by exact Z6 rfl) (hz:((backTo pos (starEach es X.env)).any fun x=>x.fst)=false:=by exact ZS rfl):Snd X Y (.Call (.Name x p) (a :: es) [] pos) (za n g ga):= .mk fun ρ=>
 PE.imp (yF F hr gl mg kp bd .nil hx (ha ρ) hd hs hz) fun σ H Q ⟨B,I,q⟩=>step I q fun ts vs H1 _ s1 r1 I1 q1=>by
  split at q1
  ·rename_i hn
   rw [List.append_nil]
   refine ⟨_,ts,hn,I1.sB,r1, ?_⟩
   revert q1
   cases g ts with
   | bad=>exact fun q1=>q1
   | ex c=>exact fun q1 d H' s sB=>q1 d H' (I1.sH.trans s) sB
   | ok t=>exact fun q1=>q1
  ·exact q1.elim
end
def zk:RS->R T
 | .rt t=> .ok t
 | .rf ts=> .ok (.lst ts)
 | .nx _=> .ok .non
 | .ex c=> .ex c
 | _=> .bad
def en0 (n:Nat) (ts:List T):En:=ts.map Sl.vl++List.replicate (n - ts.length) Sl.un
theorem zy.vl {H:Hp}:∀ {vs:List V} {ts:List T} {i:Nat} {t:T} {n m:Nat},zy H vs ts->(ts.map Sl.vl++List.replicate n Sl.un)[i]? =some (Sl.vl t)->∃ v:V,(vs.map some++List.replicate m none)[i]? =some (some v)/\Rep H v t
 | _,_,i,t,n,m, .nil,h=>by
  exfalso
  simp only [List.map_nil,List.nil_append] at h
  rw [List.getElem?_replicate] at h
  split at h
  ·cases h
  ·cases h
 | _,_,0,t,n,m, .cons r _,h=>by
  simp at h; subst h; exact ⟨_,rfl,r⟩
 | _,_,i+1,t,n,m, .cons _ q,h=>by
  obtain ⟨v,h1,h2⟩:=zy.vl (i:=i) (t:=t) (n:=n) (m:=m) q (by simpa using h)
  exact ⟨v,by simpa using h1,h2⟩
theorem y0 {n:Nat}:∀ {ts:List T} {i:Nat} {us:List T},(ts.map Sl.vl++List.replicate n Sl.un)[i]? =some (Sl.ow us)->False
 | [],i,us,h=>by
  simp only [List.map_nil,List.nil_append] at h
  rw [List.getElem?_replicate] at h
  split at h
  ·cases h
  ·cases h
 | t :: ts,0,us,h=>by simp at h
 | t :: ts,i+1,us,h=>y0 (ts:=ts) (i:=i) (us:=us) (n:=n) (by simpa using h)
theorem y6 {n:Nat}:∀ {ts:List T} {i:Nat} {c:Nat},(ts.map Sl.vl++List.replicate n Sl.un)[i]? =some (Sl.xc c)->False
 | [],i,us,h=>by
  simp only [List.map_nil,List.nil_append] at h
  rw [List.getElem?_replicate] at h
  split at h
  ·cases h
  ·cases h
 | t :: ts,0,us,h=>by simp at h
 | t :: ts,i+1,us,h=>y6 (ts:=ts) (i:=i) (c:=us) (n:=n) (by simpa using h)
theorem SI.start {Y:Fx} {N:List Str} {vs:List V} {ts:List T} (s:zt Y.B0 Y.H0) (r:zy Y.B0 vs ts):SI Y Y.B0 (en0 N.length ts) (L2.start N vs) Y.H0 where
 s0:=s
 sH:=zt.refl _
 sB:=s
 old:=fun _ _ _=>rfl
 len:=by unfold en0 L2.start; simp [r.length]
 vl:=fun i t h=>r.vl h
 ow:=fun i ts h=>(y0 h).elim
 xc:=fun i c h=>(y6 h).elim
section
variable {P:Program} {w:World} {K:PySem.W.Frag} {mg:Str->Option Value} {base:Heap}
theorem zQ {cl:Nat->Value} {x qual:Str} {st:Stmt} {f:Addr} {fd:FuncData} {N ps:List Str} {k n:Nat} {fb:En->RS} {g:List T->R T} (F:Fun K x qual st f fd) (S:zi N ps (zb st)) (hn:n=ps.length)
  (hb:∀ (cdv:Value) (A:Around) (outer:List Env) (s:Shared) (H:Hp) (E:XK) (Y:Fx),Y.cl=cl->jI k (A.deeper (envOfC qual (zb st) s.heap.objs.size f cdv))->
   u5 (yG CX0 P w K mg base N qual (zb st) f cdv A outer s H E).nox Y (Zq st) fb)
  (hg:∀ ts,ts.length=n->g ts=zk (fb (en0 N.length ts))):Zl P w K mg base CX0 (k+1) f fd ps (spP cl n g):=by
 subst hn
 refine F.ok S spP.len fun cdv A outer s H vs Q E hr ⟨B,ts,hl,sB,r,q⟩=> ?_
 refine ⟨_,hb cdv A outer s H E ⟨B,H,E,cl⟩ rfl hr (en0 N.length ts),B,SI.start (Y:=⟨B,H,E,cl⟩) sB r, ?_⟩
 rw [hg ts hl] at q
 revert q
 cases fb (en0 N.length ts) with
 | rt t=>exact fun q v H' s r=>q v H' s r
 | rf t=>exact fun q a xs H' B' s0 n e r _ l=>q (.ref a) H' s0 (.lst (by rw [Z7 n]; exact e) (r.mono l))
 | nx ρ=>exact fun q σ' H' B' _ I=>q .non H' I.sH .non
 | ex c=>exact fun q=>q
 | bk ρ=>exact fun q=>q.elim
 | ct ρ=>exact fun q=>q.elim
 | bad=>exact fun q=>q
end
abbrev rI:Hp->Hp->It->List T->Prop:=fun B1 _ J ts=>∀ B2 H2,zt B1 B2->zt B2 H2->(∀ i,i < ts.length->J.go i H2)/\(∀ (i:Nat) t x H3,ts[i]? =some t->J.yld i H2 x H3->zt H2 H3/\Rep (zE B2 H2 H3) x t)/\(∀ i,ts.length<=i->J.stop i H2)
structure U3 (X:Cx) (Y:Fx) (tg iter:Expr) (f:En->R (List T)):Prop where
 mk ::
 go:∀ ρ,PI X tg iter (tS Y rI f ρ)
instance {X:Cx} {Y:Fx} {tg iter:Expr} {f:En->R (List T)}:CoeFun (U3 X Y tg iter f) fun _=>∀ ρ,PI X tg iter (tS Y rI f ρ):=⟨U3.go⟩
section
variable {X:Cx} {Y:Fx} {a b c d tg:Expr} {fa fb fc fd:En->R T} {pos p:Pos}
theorem PI.imp {e:Expr} {t t' :TI} (h:PI X tg e t) (i:∀ σ H Q,t' σ H Q->t σ H Q):PI X tg e t' :=fun pins s σ H Q I q=>h pins s σ H Q I (i σ H Q q)
theorem qF {K:PySem.W.Frag} {B1 H1:Hp} {a:Addr} {xs:List V} {ts:List T} (h:B1 a=some (.tup xs)) (r:zy B1 xs ts):rI B1 H1 (Itt K a) ts:=fun B2 H2 s1 s2=>by
 have h2:=s2 _ _ (s1 _ _ h)
 refine ⟨fun i hi=> ?_,fun i t x H3 e y=> ?_,fun i hi=>⟨xs,SqT.of h2,by rw [r.length]; exact hi⟩⟩
 ·obtain ⟨v,e,_⟩:=r.get (List.getElem?_eq_getElem hi)
  exact ⟨xs,v,SqT.of h2,e⟩
 ·obtain ⟨rfl,y⟩:=y
  obtain ⟨v,e1,r1⟩:=r.get e
  have:=y xs (SqT.of h2)
  rw [e1] at this; cases this
  refine ⟨zt.refl _, ?_⟩
  rw [zE.self B2 _ s2]
  exact r1.mono s1
theorem qG {K:PySem.W.Frag} {B1 H1:Hp} {a:Addr} {xs:List V} {ts:List T} (h:B1 a=some (.lst xs)) (r:zy B1 xs ts):rI B1 H1 (Itl K a) ts:=fun B2 H2 s1 s2=>by
 have h2:=s2 _ _ (s1 _ _ h)
 refine ⟨fun i hi=> ?_,fun i t x H3 e y=> ?_,fun i hi=>⟨xs,SqL.of h2,by rw [r.length]; exact hi⟩⟩
 ·obtain ⟨v,e,_⟩:=r.get (List.getElem?_eq_getElem hi)
  exact ⟨xs,v,SqL.of h2,e⟩
 ·obtain ⟨rfl,y⟩:=y
  obtain ⟨v,e1,r1⟩:=r.get e
  have:=y xs (SqL.of h2)
  rw [e1] at this; cases this
  refine ⟨zt.refl _, ?_⟩
  rw [zE.self B2 _ s2]
  exact r1.mono s1
def rng (lo:Int) (n:Nat):List T:=(List.range n).map fun (i:Nat)=>T.int (lo+(i:Int))
theorem y7 {B1 H1:Hp} {lo:Int} {n:Nat}:rI B1 H1 (Itr lo n) (rng lo n):=fun B2 H2 s1 s2=>by
 have hl:(rng lo n).length=n:=by unfold rng; simp
 refine ⟨fun i hi=>by rw [hl] at hi; exact hi,fun i t x H3 e y=> ?_,fun i hi=>by rw [hl] at hi; exact hi⟩
 obtain ⟨rfl,rfl⟩:=y
 refine ⟨zt.refl _, ?_⟩
 unfold rng at e
 rw [List.getElem?_map] at e
 by_cases hi:i < n
 ·rw [List.getElem?_range hi] at e
  cases e
  exact .int _
 ·rw [List.getElem?_eq_none (by simp; omega)] at e; cases e
def j5 (fa:En->R T):En->R (List T):=fun ρ=>(fa ρ).bind fun t=>match t with
 | .int j=>if -1000000 < j/\j < 1000000 then .ok (rng 0 j.toNat) else .bad
 | _=> .bad
def u8 (fa fb:En->R T):En->R (List T):=fun ρ=>(fa ρ).bind fun t=>(fb ρ).bind fun t' =>match t,t' with
 | .int i, .int j=>if -1000000 < i/\i < 1000000/\ -1000000 < j/\j < 1000000 then .ok (rng i (j - i).toNat) else .bad
 | _,_=> .bad
theorem wM (gl:Gl X "range") (mg:X.mg "range"=none) (ha:Snd X Y a fa) (hs:St1 X a:=by exact st1 rfl):U3 X Y tg (.Call (.Name "range" p) [a] [] pos) (j5 fa):= .mk fun ρ=>PI.imp (WB gl mg (zu (ha ρ) zU hs) hs) fun σ H R ⟨B,I,q⟩=>step I q fun t v H1 _ s1 r1 I1 q1=>by
 cases r1 with
 | int j=>
  have q1:Po Y rI _ H1 (if -1000000 < j/\j < 1000000 then .ok (rng 0 j.toNat) else .bad) R:=q1
  split at q1
  ·rename_i hj
   exact ⟨j,rfl,by omega,by omega,Zv I1 q1 y7⟩
  ·exact q1.elim
 | _=>exact q1.elim
theorem qH (gl:Gl X "range") (mg:X.mg "range"=none) (ha:Snd X Y a fa) (hb:Snd X Y b fb) (hs:starEach [a,b] X.env=[(false,eval a X.env),(false,eval b X.env)]:=by exact st2 rfl rfl) (hs2:St1 X b:=by exact st1 rfl):U3 X Y tg (.Call (.Name "range" p) [a,b] [] pos) (u8 fa fb):= .mk fun ρ=>
 PI.imp (WC gl mg (zu (ha ρ) (zu (hb ρ) zU hs2) (by rw [hs,hs2])) hs hs2) fun σ H R ⟨B,I,q⟩=>step I q fun t v H1 _ s1 r1 I1 q1=>step I1 q1 fun t' v' H2 _ s2 r2 I2 q2=>by
  cases r1 with
  | int i=>
   cases r2 with
   | int j=>
    have q2:Po Y rI _ H2 (if -1000000 < i/\i < 1000000/\ -1000000 < j/\j < 1000000 then .ok (rng i (j - i).toNat) else .bad) R:=q2
    split at q2
    ·rename_i hj
     exact ⟨i,j,rfl,⟨by omega,by omega,by omega,by omega⟩,Zv I2 q2 y7⟩
    ·exact q2.elim
   | _=>exact q2.elim
  | _=>cases r2 <;> exact q2.elim
def vp (X:Cx) (Y:Fx) (tg:Expr) (g:T->En->R En):Prop:=∃ t:TG,PG X tg t/\∀ B ρ σ H v x Q,SI Y B ρ σ H->Rep B v x->(match g x ρ with | .ok ρ' =>∀ σ',SI Y B ρ' σ' H->Q σ' H | _=>False)->t v σ H Q
def Za (i:Nat):T->En->R En:=fun t ρ=> .ok (ρ.set i (.vl t))
theorem u9 {i:Nat} {x:Str} (hN:X.N.Nodup) (hi:X.N[i]? =some x) (hx:L2.Loc X.env.scope x) (hf:X.fn x=true\/X.env.scope.names.lookup x=some .local:=by first | exact .inl rfl | exact .inr rfl | assumption):vp X Y (.Name x pos) (Za i):=
 ⟨Ju i,zw hN hi hx hf,fun B ρ σ H v x Q I r q=>q _ (I.setV i r)⟩
def Z1 (i j:Nat):T->En->R En:=fun t ρ=>match t with
 | .tup [x,y]=> .ok ((ρ.set i (.vl x)).set j (.vl y))
 | _=> .bad
theorem qI {i j:Nat} {x y:Str} {p' p2:Pos} {k:Nat} (hc:X.calm=true) (hN:X.N.Nodup) (hi:X.N[i]? =some x) (hj:X.N[j]? =some y) (hx:L2.Loc X.env.scope x) (hy:L2.Loc X.env.scope y)
  (hf:X.fn x=true\/X.env.scope.names.lookup x=some .local:=by first | exact .inl rfl | exact .inr rfl | assumption) (hf' :X.fn y=true\/X.env.scope.names.lookup y=some .local:=by first | exact .inl rfl | exact .inr rfl | assumption):
  vp X Y (.Tuple [.Name x pos, .Name y p'] k p2) (Z1 i j):=by
 refine ⟨QU X.K 2 (Wz (Ju i) (Wz (Ju j) QT)),wE hc (Zm (zw hN hi hx hf) (Zm (zw hN hj hy hf') jV)),fun B ρ σ H v t Q I r q=> ?_⟩
 cases r with
 | @tup l xs ts h r=>
  cases r with
  | nil=>exact q.elim
  | cons r1 rr=>
   cases rr with
   | nil=>exact q.elim
   | cons r2 rr=>
    cases rr with
    | cons _ _=>exact q.elim
    | nil=>
     exact ⟨l,_,rfl,SqT.of (I.sB _ _ h),rfl,_,_,rfl,_,_,rfl,rfl,q _ ((I.setV i r1).setV j r2)⟩
 | _=>exact q.elim
def jk (g:T->En->R En) (fb:En->RS):List T->En->RS
 | [],ρ=> .nx ρ
 | t :: ts,ρ=>match g t ρ with
  | .ok ρ1=>match fb ρ1 with
   | .nx ρ2=>jk g fb ts ρ2
   | .ct ρ2=>jk g fb ts ρ2
   | .bk ρ2=> .nx ρ2
   | r=>r
  | .ex c=> .bad
  | .bad=> .bad
def U4 (fi:En->R (List T)) (g:T->En->R En) (fb:En->RS):En->RS:=fun ρ=>(fi ρ).s fun ts=>jk g fb ts ρ
theorem Uy {iter:Expr} {sts:List Stmt} {fi:En->R (List T)} {g:T->En->R En} {fb:En->RS} (hp:PassesOwn (model X.prog X.w) X.A X.env X.xe) (hc:X.calm=true) (hi:U3 X Y tg iter fi) (hg:vp X Y tg g) (hb:u5 X Y sts fb)
  (hs:∀ x,foldedSetIterable iter X.env x=pure x:=by intro _; rfl):wL X Y (.For tg iter sts [] pos) (U4 fi g fb):= .mk fun ρ=>by
 obtain ⟨tG,hG,hG'⟩:=hg
 refine PS.imp (qb (tb:=fun D σ H=>∃ ρ',tSS Y fb ρ' D σ H) hp hc (hi ρ) hG (fun pins s σ H D I ⟨ρ',q⟩=>hb ρ' pins s σ H D I q) hs) fun D σ H ⟨B,I,q⟩=> ?_
 refine wl I q fun ts J H1 _ s1 r1 I1 q1=> ?_
 refine ⟨fun i m σ' H' =>m=ts.length - i/\i<=ts.length/\∃ ρ' B',SI Y B' ρ' σ' H' /\zt (zE B H H1) B' /\PoS Y B' (jk g fb (ts.drop i) ρ') D,⟨ts.length,by simp,Nat.zero_le _,ρ,_,I1,zt.refl _,q1⟩, ?_⟩
 rintro i m σ' H' ⟨rfl,hi,ρ',B',I',sB',q'⟩
 obtain ⟨hgo,hyld,hstop⟩:=r1 B' H' sB' I'.sB
 by_cases hlt:i < ts.length
 ·refine .inr ⟨hgo i hlt,fun σ2 H2=>∃ ρ2 B2,SI Y B2 ρ2 σ2 H2/\zt (zE B H H1) B2/\PoS Y B2 (jk g fb (ts.drop (i+1)) ρ2) D,fun σ2 H2 ⟨ρ2,B2,I2,s2,q2⟩=>⟨ts.length - (i+1),by omega,rfl,hlt,ρ2,B2,I2,s2,q2⟩,fun x H2 y=> ?_⟩
  obtain ⟨s2,r2⟩:=hyld i _ x H2 (List.getElem?_eq_getElem hlt) y
  rw [List.drop_eq_getElem_cons hlt] at q'
  unfold jk at q'
  refine hG' _ ρ' σ' H2 x _ _ (I'.grow s2) r2 ?_
  cases eg:g ts[i] ρ' with
  | bad=>rw [eg] at q'; exact q'
  | ex c=>rw [eg] at q'; exact q'
  | ok ρ1=>
   rw [eg] at q'
   intro σ1 J1
   refine ⟨ρ1,_,J1, ?_⟩
   have q2:=PoS.up (zE.ge I'.sB s2) q'
   dsimp only at q2
   have s3:zt (zE B H H1) (zE B' H' H2):=sB'.trans (zE.ge I'.sB s2)
   revert q2
   cases fb ρ1 with
   | nx ρ2=>exact fun q2 σ3 H3 B3 s4 I3=>⟨ρ2,B3,I3,s3.trans s4,PoS.up s4 q2⟩
   | ct ρ2=>exact fun q2 σ3 H3 B3 s4 I3=>⟨ρ2,B3,I3,s3.trans s4,PoS.up s4 q2⟩
   | bk ρ2=>exact fun q2=>q2
   | rt t=>exact fun q2=>q2
   | rf t=>exact fun q2=>q2
   | ex c=>exact fun q2=>q2
   | bad=>exact fun q2=>q2
 ·have e:i=ts.length:=by omega
  subst e
  rw [List.drop_length] at q'
  exact .inl ⟨hstop _ (Nat.le_refl _),q' σ' H' B' (zt.refl _) I'⟩
end
theorem jv {env:Env}:∀ (ns:List (Str×NameKind)) (acc:List (Str×Addr)),(∀ x∈ns,x.2=NameKind.free->∃ c,env.cells.lookup x.1=some c)->(∀ x c,acc.lookup x=some c->env.cells.lookup x=some c)->
  ∃ cl,(forIn ns acc (fun (x:Str×NameKind) (r:List (Str×Addr))=>if (x.2 == NameKind.free)=true then (do let c ← cellOf env x.1; pure (ForInStep.yield ((x.1,c) :: r))) else pure (ForInStep.yield r)):Sem _)=pure cl/\
   (∀ x c,cl.lookup x=some c->env.cells.lookup x=some c)/\(∀ x c,acc.lookup x=some c->∃ c',cl.lookup x=some c')/\(∀ x∈ns,x.2=NameKind.free->∃ c,cl.lookup x.1=some c)
 | [],acc,_,h=>⟨acc,rfl,h,fun x c e=>⟨c,e⟩,fun x hx=>by simp at hx⟩
 | (n,k) :: ns,acc,hf,h=>by
  by_cases hk:k=NameKind.free
  ·obtain ⟨c,hc⟩:=hf (n,k) List.mem_cons_self hk
   have h' :∀ x d,((n,c) :: acc).lookup x=some d->env.cells.lookup x=some d:=fun x d e=>by
    by_cases hx:x=n
    ·subst hx
     have e' :some c=some d:=by simpa [List.lookup_cons] using e
     cases e'; exact hc
    ·have e' :acc.lookup x=some d:=by
      rw [List.lookup_cons,(beq_eq_false_iff_ne.mpr hx)] at e; exact e
     exact h x d e'
   obtain ⟨cl,e,h1,h2,h3⟩:=jv ns ((n,c) :: acc) (fun x hx=>hf x (List.mem_cons_of_mem _ hx)) h'
   refine ⟨cl, ?_,h1,fun x d ed=> ?_,fun x hx hxf=> ?_⟩
   ·rw [List.forIn_cons]
    subst hk
    have q:cellOf env n=pure c:=by unfold cellOf; rw [hc]
    simp only [beq_self_eq_true,if_true,q]
    exact e
   ·by_cases hx:x=n
    ·subst hx; exact h2 x c (by simp [List.lookup_cons])
    ·exact h2 x d (by rw [List.lookup_cons,(beq_eq_false_iff_ne.mpr hx)]; exact ed)
   ·rcases List.mem_cons.mp hx with rfl | hx
    ·exact h2 n c (by simp [List.lookup_cons])
    ·exact h3 x hx hxf
  ·obtain ⟨cl,e,h1,h2,h3⟩:=jv ns acc (fun x hx=>hf x (List.mem_cons_of_mem _ hx)) h
   refine ⟨cl, ?_,h1,h2,fun x hx hxf=> ?_⟩
   ·rw [List.forIn_cons]
    have q:(k == NameKind.free)=false:=by simpa using hk
    simp only [q,Bool.false_eq_true,if_false]
    exact e
   ·rcases List.mem_cons.mp hx with rfl | hx
    ·exact absurd hxf hk
    ·exact h3 x hx hxf
theorem Ya {scope:Scope} {env:Env} (hf:∀ x∈scope.names,x.2=NameKind.free->∃ c,env.cells.lookup x.1=some c):
  ∃ cl,closureFor scope env=pure cl/\(∀ x c,cl.lookup x=some c->env.cells.lookup x=some c)/\(∀ x∈scope.names,x.2=NameKind.free->∃ c,cl.lookup x.1=some c):=by
 obtain ⟨cl,e,h1,_,h3⟩:=jv scope.names [] hf (fun x c e=>by simp at e)
 refine ⟨cl, ?_,h1,h3⟩
 unfold closureFor
 show (do let cs ← _; pure cs)=_
 exact (by simpa using e)
def cxC (X:Cx) (scope:Scope) (N' :List Str) (cl:List (Str×Addr)) (C:Addr) (s3:Shared) (H3:Hp) (fp:List Addr) (pins:List (Addr×Obj)):Cx:=
 { X with N:=N',s₀:=s3,H₀:=H3,env:=compEnvC scope cl C X.env,outer:=X.stack,stack:=X.stack,ex:=fp,fn:=fun _=>false,pn:=X.pn++pins,xe:=fun _ _=>False }
structure CSc (X:Cx) (scope:Scope):Prop where
 kind:scope.kind= .function
 nocell:∀ x∈scope.names,x.2 ≠ .cell
 loc:∀ x∈scope.names,x.2= .local->scope.names.lookup x.1=some .local
 fre:∀ x∈scope.names,x.2= .free->X.env.kindOf x.1=some .cell\/X.env.kindOf x.1=some .free
theorem ZU {scope:Scope} {env:Env} {x:Str} {k:NameKind} (h:(relabel scope env).names.lookup x=some k) (hk:k= .cell\/k= .free) (hn:∀ x∈scope.names,x.2 ≠ NameKind.cell):∃ y∈scope.names,y.1=x/\y.2= .free:=by
 have go:∀ ns:List (Str×NameKind),(∀ x∈ns,x.2 ≠ NameKind.cell)->(ns.map fun (n,k)=>if (k == NameKind.free && env.scope.kind == .function && env.kindOf n == some .cell) then (n,NameKind.cell) else (n,k)).lookup x=some k->∃ y∈ns,y.1=x/\y.2= .free:=by
  intro ns
  induction ns with
  | nil=>intro _ h; simp at h
  | cons y ns ih=>
   intro hn h
   obtain ⟨n,k'⟩:=y
   by_cases hx:x=n
   ·subst hx
    refine ⟨(x,k'),List.mem_cons_self,rfl, ?_⟩
    rw [List.map_cons] at h
    by_cases hc:(k' == NameKind.free && env.scope.kind == .function && env.kindOf x == some .cell)=true
    ·rw [Bool.and_eq_true,Bool.and_eq_true] at hc
     exact eq_of_beq hc.1.1
    ·simp only [if_neg hc,List.lookup_cons,beq_self_eq_true] at h
     cases h
     rcases hk with rfl | rfl
     ·exact absurd rfl (hn _ List.mem_cons_self)
     ·rfl
   ·obtain ⟨z,hz,h1,h2⟩:=ih (fun z hz=>hn z (List.mem_cons_of_mem _ hz)) (by
     rw [List.map_cons] at h
     by_cases hc:(k' == NameKind.free && env.scope.kind == .function && env.kindOf n == some .cell)=true
     ·simp only [if_pos hc,List.lookup_cons,(beq_eq_false_iff_ne.mpr hx)] at h; exact h
     ·simp only [if_neg hc,List.lookup_cons,(beq_eq_false_iff_ne.mpr hx)] at h; exact h)
    exact ⟨z,List.mem_cons_of_mem _ hz,h1,h2⟩
 exact go scope.names hn h
section
variable {X:Cx} {pins:List (Addr×Obj)} {σ:Sg} {H:Hp} {s:Shared}
theorem ua {scope:Scope} {N' :List Str} {cl:List (Str×Addr)} {fp:List Addr} {h' :Heap} {tk:Nat} {σ' :Sg} (I:L2.Inv X pins σ H s) (S:CSc X scope) (hc:X.calm=true)
  (hcl:∀ x c,cl.lookup x=some c->X.env.cells.lookup x=some c) (hcf:∀ x∈scope.names,x.2=NameKind.free->∃ c,cl.lookup x.1=some c)
  (hfp:∀ b∈fp,wd X pins H b) (hfo:∀ b∈fp,∃ o,s.heap.get? b=some o)
  (hns:h'.Ns s.heap.objs.size (fun _=>none)) (hk:∀ b o,s.heap.get? b=some o->h'.get? b=some o)
  (hl:σ'.length=N'.length) (hσ:∀ (i:Nat) (x:Str) (v:V),N'[i]? =some x->σ'[i]? =some (some v)->∃ j:Nat,X.N[j]? =some x/\σ[j]? =some (some v)/\Vis X.env.scope x/\(scope.names.lookup x=some .free)/\(X.env.kindOf x=some .cell\/X.env.kindOf x=some .free)):
  L2.Inv (cxC X scope N' cl s.heap.objs.size s H fp pins) [] σ' H { s with heap:=h',toks:=tk }:=by
 have stk:=I.stkSub
 have hlt:∀ b∈fp,b < s.heap.objs.size:=fun b hb=>let ⟨o,e⟩:=hfo b hb; Heap.lt_size e
 have fresh:H s.heap.objs.size=none:=I.hok.fresh (Nat.le_refl _)
 refine ⟨⟨I.ok.mod,S.kind,I.ok.glob,I.ok.blt,Nat.le_refl _,fun x y c h1 h2=>I.ok.inj x y c (hcl _ _ h1) (hcl _ _ h2),fun x hx=> ?_,fun x c h _=>(Bool.false_ne_true h).elim,fun _=>I.ok.hd hc,I.ok.frames, .inl rfl,fun b hb=> ?_,I.bs,
   Nat.le_trans I.ok.bsz I.sz,fun b o e hb=> ?_,fun b hb hb' => ?_,I.stack,I.stkFree⟩,rfl,I.bare,Un.kept hk,⟨_,hns,fun i x v h1 h2 h3=> ?_⟩,fun x c e=> ?_,fresh,fun x c e=>I.freeC x c (hcl _ _ e),fun p hp=> ?_,I.hok.kept hk,hl⟩
 ·have hx' :(relabel scope X.env).names.lookup x=some .cell\/(relabel scope X.env).names.lookup x=some .free:=hx
  obtain ⟨y,hy,rfl,hyf⟩:∃ y∈scope.names,y.1=x/\y.2= .free:=by
   rcases hx' with h | h
   ·exact ZU h (.inl rfl) S.nocell
   ·exact ZU h (.inr rfl) S.nocell
  exact hcf y hy hyf
 ·refine ⟨Nat.ne_of_lt (hlt b hb),fun x c e=>(hfp b hb).2.2.2.2.1 x c (hcl _ _ e)⟩
 ·rcases (hfp b hb).2.2.2.1 with h | h
  ·exact I.ok.noex b o e h
  ·exact absurd (Nat.lt_of_lt_of_le (Heap.lt_size e) (Nat.le_trans I.ok.bsz h)) (Nat.lt_irrefl _)
 ·have q:=hfp b hb
  rcases List.mem_cons.mp (stk b hb') with z | z
  ·exact q.2.1 z
  ·exact q.2.2.1 z
 ·obtain ⟨j,e1,e2,e3,e4,e5⟩:=hσ i x v h1 h2
  obtain ⟨m,hn,hloc⟩:=I.loc
  obtain ⟨u,ru,lk⟩:=hloc j x v e1 e2 e3
  refine ⟨u,ru, .inr ⟨?_, ?_⟩⟩
  ·have h3:Vis (relabel scope X.env) x:=h3
   rcases h3 with h | h | h
   ·exfalso
    have:∀ ns:List (Str×NameKind),ns.lookup x=some .free->(ns.map fun (n,k)=>if (k == NameKind.free && X.env.scope.kind == .function && X.env.kindOf n == some .cell) then (n,NameKind.cell) else (n,k)).lookup x ≠ some .local:=by
     intro ns
     induction ns with
     | nil=>intro z; simp at z
     | cons y ns ih=>
      obtain ⟨n,k⟩:=y
      intro z w
      rw [List.map_cons] at w
      by_cases hx:x=n
      ·subst hx
       have hkf:some k=some NameKind.free:=by simpa [List.lookup_cons] using z
       by_cases hcn:(k == NameKind.free && X.env.scope.kind == .function && X.env.kindOf x == some .cell)=true
       ·simp only [if_pos hcn,List.lookup_cons,beq_self_eq_true] at w; cases w
       ·simp only [if_neg hcn,List.lookup_cons,beq_self_eq_true] at w
        rw [hkf] at w; cases w
      ·have z' :ns.lookup x=some .free:=by rw [List.lookup_cons,(beq_eq_false_iff_ne.mpr hx)] at z; exact z
       refine ih z' ?_
       by_cases hcn:(k == NameKind.free && X.env.scope.kind == .function && X.env.kindOf n == some .cell)=true
       ·simp only [if_pos hcn,List.lookup_cons,(beq_eq_false_iff_ne.mpr hx)] at w; exact w
       ·simp only [if_neg hcn,List.lookup_cons,(beq_eq_false_iff_ne.mpr hx)] at w; exact w
    exact this _ e4 h
   ·exact .inl h
   ·exact .inr h
  ·rcases lk with ⟨hk',_⟩ | ⟨_,c,hc',hcell⟩
   ·rcases e5 with z | z <;> (rw [z] at hk'; cases hk')
   ·obtain ⟨c',hc2⟩:=hcf (x, .free) (PySem.mem_of_lookup e4) rfl
    have:=hcl x c' hc2
    rw [hc'] at this; cases this
    obtain ⟨o,eo,ed⟩:=hcell
    exact ⟨c,hc2,o,hk _ _ eo,ed⟩
 ·obtain ⟨v,o,eo,ed⟩:=I.cell x c (hcl _ _ e)
  exact ⟨v,o,hk _ _ eo,ed⟩
 ·have hp' :p∈X.pn++pins:=by
   have:p∈(X.pn++pins)++[]:=hp
   rwa [List.append_nil] at this
  obtain ⟨e,n,ne,nf,dc⟩:=I.pin p hp'
  refine ⟨hk _ _ e,n,Nat.ne_of_lt (Heap.lt_size e),fun hb=> ?_,dc⟩
  rcases List.mem_cons.mp (stk _ hb) with z | z
  ·exact ne z
  ·exact nf z
end
def PIf (X:Cx) (ifs:List Expr) (t:TT):Prop:=
 ∀ (pins:List (Addr×Obj)) (s:Shared) (σ:Sg) (H:Hp) (Q:Bool->Hp->Prop),L2.Inv X pins σ H s->t σ H Q->
  wpAny (model X.prog X.w) X.A (forIn ifs true fun c r=>if r=true then do let ok ← isTrue c X.env (eval c X.env); pure (ForInStep.yield ok) else pure (ForInStep.yield r)) (TP X pins σ Q) X.xe s
theorem Yb {X:Cx}:PIf X [] (fun _ H Q=>Q true H):=fun _ _ σ H _ I h=>wpAny_tests_nil ⟨H,I,h⟩
theorem J6 {α:Type} {M:Model} {A:Around} {m:Sem α} {Q:α->Shared->Prop} {E E' :Value->Shared->Prop} {s:Shared} (hE:E' =fun _ _=>False) (h:wpAny M A m Q E' s):wpAny M A m Q E s:=wpAny_mono h (fun _ _ q=>q) fun e s' z=>by
 rw [hE] at z; exact z.elim
def Yc (J:It) (D:Addr) (g:TG) (tt:TT) (te:TE) (fin:Sg->Hp->Prop) (W:Nat->Nat->List V->Sg->Hp->Prop):Prop:=
 ∀ i m ys σ H,W i m ys σ H->H D=some (.lst ys)/\((J.stop i H/\fin σ H)\/(J.go i H/\∀ x H2,J.yld i H x H2->g x σ H2 fun σ3 H3=>tt σ3 H3 fun k H4=>
  if k=true then te σ3 H4 fun v H5=>H5 D=some (.lst ys)/\ys.length < sizeLine/\∃ m',m' < m/\W (i+1) m' (ys++[v]) σ3 (upd H5 D (.lst (ys++[v]))) else ∃ m',m' < m/\W (i+1) m' ys σ3 H4))
theorem ub {X:Cx} (hx:X.xe=fun _ _=>False) (hc:X.calm=true) {tg iter elt:Expr} {ifs:List Expr} {scope:Scope} {pos:Pos} {J:It} {fp:List Addr} {it:Addr} {tn:Nat->Heap->Prop} (TJ:Ue X.prog X.w X.K tg J fp it tn)
  {g:TG} {tt:TT} {te:TE} (hg:PG X tg g) (ht:PIf X ifs tt) (he:PE X elt te) {D:Addr} {R:Result->Shared->Prop} {fin:Sg->Hp->Prop} (W:Nat->Nat->List V->Sg->Hp->Prop) (turn:Yc J D g tt te fin W)
  (hR:∀ s σ H,L2.Inv X [] σ H s->fin σ H->R (.ok .next) s) {m0:Nat} {σ0:Sg} {H0:Hp} {s0:Shared} (w0:W 0 m0 [] σ0 H0) (I0:L2.Inv X [] σ0 H0 s0) (t0:tn 0 s0.heap) (f0:∀ b∈fp,wd X [] H0 b):
  codeAny (model X.prog X.w) X.A (.compLoop (.ListComp elt [⟨tg,iter,ifs,0⟩] scope pos) 0 (.ref it) (.ref D) X.env) R s0:=by
 have stat:∀ {H' :Hp},(∀ b∈fp,H' b=none)->∀ b∈fp,wd X [] H' b:=fun hn b hb=>⟨hn b hb,(f0 b hb).2⟩
 refine codeAny_loop rfl (fun n s' =>∃ i ys σ' H',L2.Inv X [] σ' H' s' /\tn i s'.heap/\(∀ b∈fp,H' b=none)/\W i n ys σ' H') (fun n s3 h3=> ?_) m0 ⟨0,[],σ0,H0,I0,t0,fun b hb=>(f0 b hb).1,w0⟩
 obtain ⟨i,ys,σ3,H3,I3,st3,fr3,w3⟩:=h3
 show wpAny _ X.A ((compTurn (.ListComp elt [⟨tg,iter,ifs,0⟩] scope pos) 0 (.ref it) (.ref D) X.env).onRaise (fun x=>do noteFrame x X.env; theTreesLotGoes x)) _ _ s3
 refine wpAny_noted ?_
 rw [compTurn_list]
 obtain ⟨hD,h⟩:=turn i n ys σ3 H3 w3
 rcases h with ⟨stop,qn⟩ | ⟨go,next⟩
 ·refine wpAny_bind (wpAny_standAt (wpAny_bind (thn (TJ.done X rfl rfl rfl hc i [] s3 σ3 H3 _ I3 (stat fr3) st3 stop) fun r s4 ⟨hr,I4⟩=> ?_)))
  subst hr
  exact wpAny_pure (hR s4 σ3 H3 I4 qn)
 ·refine wpAny_bind (wpAny_standAt (wpAny_bind (thn (TJ.item X rfl rfl rfl hc i [] s3 σ3 H3 _ I3 (stat fr3) st3 go) fun r s4 ⟨u,hr,h4⟩=> ?_)))
  subst hr
  refine wpAny_bind (thn h4 fun _ s5 ⟨x,H5,I5,r5,y5,st5,fr5⟩=> ?_)
  have I5' :=I5.pinned (stat fr5) (TJ.obj _ _ st5)
  refine wpAny_bind (J6 hx (thn (hg _ s5 σ3 H5 x u _ I5' r5 (next x H5 y5)) fun _ s6 ⟨σ6,H6,I6,q6⟩=> ?_))
  have again:∀ {σ7:Sg} {H7:Hp} {s7:Shared} {ys' :List V},L2.Inv X ([]++Jv fp s5.heap) σ7 H7 s7->(∃ m',m' < n/\W (i+1) m' ys' σ7 H7)->∃ m,m < n/\∃ i ys σ' H',L2.Inv X [] σ' H' s7/\tn i s7.heap/\(∀ b∈fp,H' b=none)/\W i m ys σ' H' :=fun {σ7 H7 s7 ys'} I7 ⟨m',hm,w7⟩=>by
   refine ⟨m',hm,i+1,ys',σ7,H7,I7.unpinned,TJ.keep _ _ _ st5 fun b hb o e=>(I7.pin (b,o) (List.mem_append_right _ (List.mem_append_right _ (ZH hb e)))).1,fun b hb=> ?_,w7⟩
   obtain ⟨o,e,d⟩:=TJ.obj _ _ st5 b hb
   exact (I7.pin (b,o) (List.mem_append_right _ (List.mem_append_right _ (ZH hb e)))).2.1
  refine wpAny_bind (J6 hx (thn (ht _ s6 σ6 H6 _ I6 q6) fun k s7 ⟨H7,I7,q7⟩=> ?_))
  cases k with
  | false=>exact wpAny_pure ⟨rfl,again I7 q7⟩
  | true=>
   refine wpAny_bind (wpAny_bind (J6 hx (thn (he _ s7 σ6 H7 _ I7 q7) fun v s8 ⟨y,H8,I8,r8,hD8,hlen,q8⟩=> ?_)))
   refine wpAny_bind (J6 hx (thn (JF _ s8 σ6 H8 (.ref D) [y] (.ref D) [v] (fun _ H9=>∃ m',m' < n/\W (i+1) m' (ys++[y]) σ6 H9) I8 rfl (.cons r8 .nil) ⟨D,ys,y,rfl,rfl,hD8,hlen,q8⟩) fun w s9 ⟨_,H9,I9,_,q9⟩=> ?_))
   exact wpAny_pure (wpAny_pure ⟨rfl,again I9 q9⟩)
def y8 (k:Nat) (js:List Nat) (σ:Sg):Sg:=List.replicate k none++js.map fun j=>(σ[j]?).getD none
section
variable {X:Cx}
abbrev Uz (X:Cx) (scope:Scope) (N' :List Str) (P:Cx->Prop):Prop:=∀ cl C s3 H3 fp pins,P (cxC X scope N' cl C s3 H3 fp pins)
structure vq (X:Cx) (scope:Scope) (N' :List Str) (k:Nat) (js:List Nat):Prop where
 len:N'.length=k+js.length
 cap:∀ (i j:Nat),js[i]? =some j->∃ x,N'[k+i]? =some x/\X.N[j]? =some x/\Vis X.env.scope x/\scope.names.lookup x=some .free/\(X.env.kindOf x=some .cell\/X.env.kindOf x=some .free)
theorem wN {tg iter elt:Expr} {ifs:List Expr} {scope:Scope} {pos pos' :Pos} {N' :List Str} {k:Nat} {js:List Nat} {wi:TI} {g:TG} {tt:TT} {te:TE} {use:Option (Value->Sem Unit)} (S:CSc X scope) (CP:vq X scope N' k js) (hc:X.calm=true)
  (hi:PI X tg iter wi) (hg:Uz X scope N' fun XC=>PG XC tg g) (ht:Uz X scope N' fun XC=>PIf XC ifs tt) (he:Uz X scope N' fun XC=>PE XC elt te) {pins:List (Addr×Obj)} {σ:Sg} {H:Hp} {s:Shared} {Q:Value->Shared->Prop} {F:Addr->Hp->Prop} (I:L2.Inv X pins σ H s)
  (h:wi σ H fun J H1=>∀ D,H1 D=none->∃ W,(∃ m,W 0 m [] (y8 k js σ) (upd H1 D (.lst [])))/\Yc J D g tt te (fun _ H' =>F D H') W)
  (hQ:∀ D C H' s',L2.Inv X pins σ H' s' ->F D H' ->H' C=none->(X.s₀.heap.objs.size<=C)->C ≠ X.env.locals->(∀ x c,X.env.cells.lookup x=some c->c ≠ C)->(∀ p∈X.pn++pins,p.1 ≠ C)->(∃ m,s'.heap.Ns C m)->compPost (model X.prog X.w) X.A X.xe use Q (.ref D) C (.ok .next) s')
  (hs:∀ x,foldedSetIterable iter X.env x=pure x:=by intro _; rfl):
  wpAny (model X.prog X.w) X.A (comprehension (.ListComp elt [⟨tg,iter,ifs,0⟩] scope pos) scope X.env pos' (newList []) false (eval iter X.env) use) Q X.xe s:=by
 obtain ⟨cl,ecl,hcl,hcf⟩:=Ya (scope:=scope) (env:=X.env) fun x hx hf=>I.ok.has x.1 (S.fre x hx hf)
 refine wpAny_comprehension_free rfl hs ecl S.kind S.loc ?_
 refine thn (hi pins s σ H _ I h) fun v s1 h1=>thn h1 fun itv s2 h2=> ?_
 obtain ⟨it,fp,tn,J,H2,e,I2,TJ,st2,f2,q2⟩:=h2
 subst e
 refine wpAny_newObj_type ?_
 have hD:H2 s2.heap.objs.size=none:=I2.hok.fresh (Nat.le_refl _)
 have I3:L2.Inv X pins σ (upd H2 s2.heap.objs.size (.lst [])) { s2 with heap:=s2.heap.push { cls:= .type "list",data:= .seq ([]:List Value).toArray } }:=
  I2.laid (t' :=s2.toks) (fun b u e=>Heap.get?_push_of_some _ e) (Nat.le_refl _) ⟨Nat.zero_le _,[],_, .nil,Heap.get?_push_size _ rfl⟩
 obtain ⟨W,⟨m0,w0⟩,turn⟩:=q2 s2.heap.objs.size hD
 have f3:∀ b∈fp,wd X pins (upd H2 s2.heap.objs.size (.lst [])) b:=fun b hb=>by
  obtain ⟨o,eo,_⟩:=TJ.obj _ _ st2 b hb
  exact ⟨by rw [zr (Nat.ne_of_lt (Heap.lt_size eo))]; exact (f2 b hb).1,(f2 b hb).2⟩
 have o3:∀ b∈fp,∃ o,(s2.heap.push { cls:= .type "list",data:= .seq ([]:List Value).toArray }).get? b=some o:=fun b hb=>by
  obtain ⟨o,eo,_⟩:=TJ.obj _ _ st2 b hb
  exact ⟨o,Heap.get?_push_of_some _ eo⟩
 refine wpAny_newFunctionEnv S.nocell (by intro y hy; simp at hy) (fun h4 hns4 hsb4=> ?_) S.kind
 generalize hG:s2.heap.push { cls:= .type "list",data:= .seq ([]:List Value).toArray }=G3 at I3 o3 hns4 hsb4 ⊢
 dsimp only at hns4 hsb4 ⊢
 have s3e:∃ s3:Shared,s3={ s2 with heap:=G3 }:=⟨_,rfl⟩
 obtain ⟨s3,es3⟩:=s3e
 have hh3:s3.heap=s2.heap.push { cls:= .type "list",data:= .seq ([]:List Value).toArray }:=by rw [es3,hG]
 have hg3:G3=s3.heap:=by rw [es3]
 rw [← es3] at I3
 have ht3:s2.toks=s3.toks:=by rw [es3]
 rw [hg3] at hns4 hsb4 o3
 have k4:∀ b o,s3.heap.get? b=some o->h4.get? b=some o:=fun b o e=>hsb4.extBut b o (Nat.ne_of_lt (Heap.lt_size e)) (Heap.get?_push_of_some _ e)
 have IC:=ua (N' :=N') (cl:=cl) (fp:=fp) (σ' :=y8 k js σ) (tk:=s3.toks+([]:List (Str×Value)).length) I3 S hc hcl hcf f3 o3 hns4 k4 (by unfold y8; simp [CP.len]) (fun i x v h1 h2=>by
  unfold y8 at h2
  by_cases hik:i < k
  ·rw [List.getElem?_append_left (by simpa using hik),List.getElem?_replicate,if_pos hik] at h2
   cases h2
  ·have hk' :k<=i:=by omega
   rw [List.getElem?_append_right (by simpa using hk'),List.length_replicate,List.getElem?_map] at h2
   cases ej:js[i - k]? with
   | none=>rw [ej] at h2; cases h2
   | some j=>
    rw [ej] at h2
    obtain ⟨y,e1,e2,e3,e4,e5⟩:=CP.cap (i - k) j ej
    have:k+(i - k)=i:=by omega
    rw [this,h1] at e1
    cases e1
    refine ⟨j,e2, ?_,e3,e4,e5⟩
    have h2' :some ((σ[j]?).getD none)=some (some v):=h2
    cases ez:σ[j]? with
    | none=>rw [ez] at h2'; cases h2'
    | some z=>rw [ez] at h2'; exact congrArg some (Option.some.inj h2'))
 have TC:Ue (cxC X scope N' cl s3.heap.objs.size s3 (upd H2 s2.heap.objs.size (.lst [])) fp pins).prog (cxC X scope N' cl s3.heap.objs.size s3 (upd H2 s2.heap.objs.size (.lst [])) fp pins).w (cxC X scope N' cl s3.heap.objs.size s3 (upd H2 s2.heap.objs.size (.lst [])) fp pins).K tg J fp it tn:=TJ
 have t4:tn 0 h4:=TJ.keep _ _ _ st2 fun b hb o e=>k4 b o (by rw [hh3]; exact Heap.get?_push_of_some _ e)
 have fC:∀ b∈fp,wd (cxC X scope N' cl s3.heap.objs.size s3 (upd H2 s2.heap.objs.size (.lst [])) fp pins) [] (upd H2 s2.heap.objs.size (.lst [])) b:=fun b hb=>by
  obtain ⟨q0,q1,q2,q3,q4,q5⟩:=f3 b hb
  obtain ⟨o,eo⟩:=o3 b hb
  refine ⟨q0,Nat.ne_of_lt (Heap.lt_size eo),fun hb' => ?_, .inl hb,fun x c e=>q4 x c (hcl _ _ e),fun p hp=> ?_⟩
  ·rcases List.mem_cons.mp (I3.stkSub b hb') with z | z
   ·exact q1 z
   ·exact q2 z
  ·exact q5 p (by
    have:p∈(X.pn++pins)++[]:=hp
    rwa [List.append_nil] at this)
 have fin:∀ (s5:Shared) (σ5:Sg) (H5:Hp),L2.Inv (cxC X scope N' cl s3.heap.objs.size s3 (upd H2 s2.heap.objs.size (.lst [])) fp pins) [] σ5 H5 s5->F s2.heap.objs.size H5->compPost (model X.prog X.w) X.A X.xe use Q (.ref s2.heap.objs.size) s3.heap.objs.size (.ok .next) s5:=fun s5 σ5 H5 I5 q5=>by
  have J5:L2.Inv X pins σ H5 s5:=I3.call' (ch:=fp) I5.os I5.base I5.hok I5.bare fun b hb=>by
   obtain ⟨q0,q1,q2,q3,q4,q5⟩:=f3 b hb
   exact ⟨q3,q1,q4,q5⟩
  refine hQ _ _ H5 s5 J5 q5 I5.free I3.sz (Nat.ne_of_gt I3.lt) (fun x c e z=> ?_) (fun p hp z=> ?_) (let ⟨m,hm,_⟩:=I5.loc; ⟨m,hm⟩)
  ·obtain ⟨v',o,eo,_⟩:=I3.cell x c e
   exact absurd (Heap.lt_size eo) (by rw [z]; exact Nat.lt_irrefl _)
  ·exact absurd (Heap.lt_size (I3.pin p hp).1) (by rw [z]; exact Nat.lt_irrefl _)
 have loop:=ub (X:=cxC X scope N' cl s3.heap.objs.size s3 (upd H2 s2.heap.objs.size (.lst [])) fp pins) (iter:=iter) (scope:=scope) (pos:=pos) (R:=compPost (model X.prog X.w) X.A X.xe use Q (.ref s2.heap.objs.size) s3.heap.objs.size) rfl hc TC (hg _ _ _ _ _ _) (ht _ _ _ _ _ _) (he _ _ _ _ _ _) W turn fin w0 IC t4 fC
 rw [es3] at loop
 exact codeAny_compStart_list loop (TJ.self _ _ _ _ _ t4 loop)
end
def zx (g:T->En->R En) (ft:En->R Bool) (fe:En->R T):List T->En->R (List T)
 | [],_=> .ok []
 | t :: ts,ρ=>(g t ρ).bind fun ρ1=>(ft ρ1).bind fun k=>if k=true then (fe ρ1).bind fun v=>(zx g ft fe ts ρ1).bind fun vs=> .ok (v :: vs) else zx g ft fe ts ρ1
def UA:Option Sl->Sl
 | some (.vl t)=> .vl t
 | _=> .un
def wO (k:Nat) (js:List Nat) (ρ:En):En:=List.replicate k .un++js.map fun j=>UA ρ[j]?
def quiet {α:Type}:R α->R α
 | .ok a=> .ok a
 | _=> .bad
def Zs (g:T->En->R En) (ft:En->R Bool) (fe:En->R T) (k:Nat) (js:List Nat) (ρ:En) (ts:List T):R (List T):=if ts.length<=bnd then quiet (zx g ft fe ts (wO k js ρ)) else .bad
def Zd (fi:En->R (List T)) (g:T->En->R En) (ft:En->R Bool) (fe:En->R T) (k:Nat) (js:List Nat):En->R T:=fun ρ=>(fi ρ).bind fun ts=>(Zs g ft fe k js ρ ts).bind fun vs=> .ok (.lst vs)
def GOk (tG:TG) (g:T->En->R En):Prop:=∀ Y B ρ σ H v x Q,SI Y B ρ σ H->Rep B v x->(match g x ρ with | .ok ρ' =>∀ σ',SI Y B ρ' σ' H->Q σ' H | _=>False)->tG v σ H Q
theorem zW (i:Nat):GOk (Ju i) (Za i):=fun Y B ρ σ H v x Q I r q=>q _ (I.setV i r)
theorem J7 (K:PySem.W.Frag) (i j:Nat):GOk (QU K 2 (Wz (Ju i) (Wz (Ju j) QT))) (Z1 i j):=fun Y B ρ σ H v t Q I r q=>by
 cases r with
 | @tup l xs ts h r=>
  cases r with
  | nil=>exact q.elim
  | cons r1 rr=>
   cases rr with
   | nil=>exact q.elim
   | cons r2 rr=>
    cases rr with
    | cons _ _=>exact q.elim
    | nil=>exact ⟨l,_,rfl,SqT.of (I.sB _ _ h),rfl,_,_,rfl,_,_,rfl,rfl,q _ ((I.setV i r1).setV j r2)⟩
 | _=>exact q.elim
theorem SI.block {Y:Fx} {B:Hp} {ρ:En} {σ:Sg} {H H3:Hp} {D:Addr} (I:SI Y B ρ σ H) (k:Nat) (js:List Nat) (E:XK) (hD:H D=none) (o:HO):SI ⟨B,H,E,Y.cl⟩ B (wO k js ρ) (y8 k js σ) (upd H D o) where
 s0:=I.sB
 sH:=zt.new hD _
 sB:=I.sB.trans (zt.new hD _)
 old:=fun _ _ _=>rfl
 len:=by unfold wO y8; simp
 vl:=fun i t h=>by
  unfold wO at h
  unfold y8
  by_cases hik:i < k
  ·rw [List.getElem?_append_left (by simpa using hik),List.getElem?_replicate,if_pos hik] at h; cases h
  ·have hk' :k<=i:=by omega
   rw [List.getElem?_append_right (by simpa using hk'),List.length_replicate,List.getElem?_map] at h ⊢
   cases ej:js[i - k]? with
   | none=>rw [ej] at h; cases h
   | some j=>
    rw [ej] at h
    have h' :UA ρ[j]? = .vl t:=Option.some.inj h
    unfold UA at h'
    split at h'
    ·rename_i u e
     cases h'
     obtain ⟨v,e1,r⟩:=I.vl j _ e
     exact ⟨v,by show some ((σ[j]?).getD none)=_; rw [e1]; rfl,r⟩
    ·cases h'
 ow:=fun i ts h=>by
  exfalso
  unfold wO at h
  by_cases hik:i < k
  ·rw [List.getElem?_append_left (by simpa using hik),List.getElem?_replicate,if_pos hik] at h; cases h
  ·have hk' :k<=i:=by omega
   rw [List.getElem?_append_right (by simpa using hk'),List.length_replicate,List.getElem?_map] at h
   cases ej:js[i - k]? with
   | none=>rw [ej] at h; cases h
   | some j=>
    rw [ej] at h
    have h' :UA ρ[j]? = .ow ts:=Option.some.inj h
    unfold UA at h'
    split at h' <;> cases h'
 xc:=fun i c h=>by
  exfalso
  unfold wO at h
  by_cases hik:i < k
  ·rw [List.getElem?_append_left (by simpa using hik),List.getElem?_replicate,if_pos hik] at h; cases h
  ·have hk' :k<=i:=by omega
   rw [List.getElem?_append_right (by simpa using hk'),List.length_replicate,List.getElem?_map] at h
   cases ej:js[i - k]? with
   | none=>rw [ej] at h; cases h
   | some j=>
    rw [ej] at h
    have h' :UA ρ[j]? = .xc c:=Option.some.inj h
    unfold UA at h'
    split at h' <;> cases h'
theorem SI.acc {Y:Fx} {B:Hp} {ρ:En} {σ:Sg} {H:Hp} {D:Addr} (I:SI Y B ρ σ H) (hb:B D=none) (h0:Y.H0 D=none) (ho:∀ (i:Nat) (ts:List T),ρ[i]? =some (Sl.ow ts)->σ[i]? ≠ some (some (V.ref D))) (o:HO):SI Y B ρ σ (upd H D o) where
 s0:=I.s0
 sH:=fun b u h=>by
  rw [zr (fun z=>by subst z; rw [h0] at h; cases h)]; exact I.sH b u h
 sB:=fun b u h=>by
  rw [zr (fun z=>by subst z; rw [hb] at h; cases h)]; exact I.sB b u h
 old:=I.old
 len:=I.len
 vl:=I.vl
 ow:=fun i ts h=>by
  obtain ⟨a,xs,e,b0,h0',hh,r,d⟩:=I.ow i ts h
  refine ⟨a,xs,e,b0,h0', ?_,r,d⟩
  rw [zr (fun z=>ho i ts h (by rw [e,z]))]; exact hh
 xc:=I.xc
def Yd (ρ:En):Prop:=∀ (i:Nat) (ts:List T),ρ[i]? ≠ some (Sl.ow ts)
theorem UB (k:Nat) (js:List Nat) (ρ:En):Yd (wO k js ρ):=fun i ts h=>by
 unfold wO at h
 by_cases hik:i < k
 ·rw [List.getElem?_append_left (by simpa using hik),List.getElem?_replicate,if_pos hik] at h; cases h
 ·have hk' :k<=i:=by omega
  rw [List.getElem?_append_right (by simpa using hk'),List.length_replicate,List.getElem?_map] at h
  cases ej:js[i - k]? with
  | none=>rw [ej] at h; cases h
  | some j=>
   rw [ej] at h
   have h' :UA ρ[j]? = .ow ts:=Option.some.inj h
   unfold UA at h'
   split at h' <;> cases h'
theorem J8 {ρ:En} {i:Nat} {t:T} (h:Yd ρ):Yd (ρ.set i (.vl t)):=fun j ts e=>by
 rcases zS e with ⟨_,z⟩ | ⟨_,z⟩
 ·cases z
 ·exact h j ts z
def GNo (g:T->En->R En):Prop:=∀ t ρ ρ',Yd ρ->g t ρ= .ok ρ' ->Yd ρ'
theorem zX (i:Nat):GNo (Za i):=fun t ρ ρ' h e=>by
 cases e; exact J8 h
theorem J9 (i j:Nat):GNo (Z1 i j):=fun t ρ ρ' h e=>by
 unfold Z1 at e
 split at e
 ·cases e; exact J8 (J8 h)
 ·cases e
section
variable {X:Cx} {Y:Fx} {tg iter elt:Expr} {ifs:List Expr} {scope:Scope} {pos pos' :Pos} {N' :List Str} {k:Nat} {js:List Nat} {fi:En->R (List T)} {tG:TG} {g:T->En->R En} {ft:En->R Bool} {fe:En->R T}
structure uc (X:Cx) (Y:Fx) (ifs:List Expr) (f:En->R Bool):Prop where
 mk ::
 go:∀ ρ,PIf X ifs (tS Y rE f ρ)
instance {X:Cx} {Y:Fx} {ifs:List Expr} {f:En->R Bool}:CoeFun (uc X Y ifs f) fun _=>∀ ρ,PIf X ifs (tS Y rE f ρ):=⟨uc.go⟩
theorem PIf.imp {X:Cx} {e:List Expr} {t t' :TT} (h:PIf X e t) (i:∀ σ H Q,t' σ H Q->t σ H Q):PIf X e t' :=fun pins s σ H Q I q=>h pins s σ H Q I (i σ H Q q)
def Zf:En->R Bool:=fun _=> .ok true
theorem Zo {X:Cx}:uc X Y [] Zf:= .mk fun ρ=>PIf.imp Yb fun σ H Q ⟨B,I,q⟩=>Zv I q rfl
theorem JO {B1 H1:Hp} {σ:Sg} {ρ:En} {J:It} {ts vs:List T} {D:Addr} (hG:GOk tG g) (hN:GNo g) (I:SI Y B1 ρ σ H1) (rI' :rI B1 H1 J ts) (hl:ts.length<=bnd) (ev:zx g ft fe ts (wO k js ρ)= .ok vs) (hD:H1 D=none) {F:Hp->Prop}
  (hF:∀ H' xs B',zt H1 H' ->H' D=some (.lst xs)->zy B' xs vs->zt B' (zE B1 H1 H')->B' D=none->zt B1 B' ->F H'):
  ∃ W,(∃ m,W 0 m [] (y8 k js σ) (upd H1 D (.lst [])))/\Yc J D tG (fun σ H Q=>∃ Y' ρ',Y'.cl=Y.cl/\tS Y' rE ft ρ' σ H Q) (fun σ H Q=>∃ Y' ρ',Y'.cl=Y.cl/\tS Y' rC fe ρ' σ H Q) (fun _ H' =>F H') W:=by
 refine ⟨fun i m ys σ' H' =>m=ts.length - i/\i<=ts.length/\ys.length<=i/\H' D=some (.lst ys)/\∃ ρ' B' us ws,SI ⟨B1,H1,fun _ _ _=>False,Y.cl⟩ B' ρ' σ' H' /\Yd ρ' /\zt B1 B' /\B' D=none/\zy B' ys us/\zx g ft fe (ts.drop i) ρ' = .ok ws/\us++ws=vs,
  ⟨ts.length,by simp,Nat.zero_le _,Nat.zero_le _,Zc,_,B1,[],vs,I.block (H3:=H1) k js _ hD _,UB k js ρ,zt.refl _,I.sB.free hD, .nil,ev,rfl⟩, ?_⟩
 rintro i m ys σ' H' ⟨rfl,hi,hyl,hDl,ρ',B',us,ws,I',no',s1',bD,r',ew,eall⟩
 refine ⟨hDl, ?_⟩
 obtain ⟨hgo,hyld,hstop⟩:=rI' B' H' s1' I'.sB
 have tD:∀ H2,zt H' H2->zE B' H' H2 D=none:=fun H2 s=>by rw [zV hDl]; exact bD
 by_cases hlt:i < ts.length
 ·refine .inr ⟨hgo i hlt,fun x H2 y=> ?_⟩
  obtain ⟨s2,r2⟩:=hyld i _ x H2 (List.getElem?_eq_getElem hlt) y
  rw [List.drop_eq_getElem_cons hlt] at ew
  unfold zx at ew
  have I2:=I'.grow s2
  refine hG _ _ ρ' σ' H2 x _ _ I2 r2 ?_
  cases eg:g ts[i] ρ' with
  | bad=>rw [eg] at ew; cases ew
  | ex c=>rw [eg] at ew; cases ew
  | ok ρ1=>
   rw [eg] at ew
   have no1:Yd ρ1:=hN _ _ _ no' eg
   intro σ1 J1
   refine ⟨⟨B1,H1,fun _ _ _=>False,Y.cl⟩,ρ1,rfl,_,J1, ?_⟩
   have ew1:(ft ρ1).bind (fun k=>if k=true then (fe ρ1).bind fun v=>(zx g ft fe (ts.drop (i+1)) ρ1).bind fun vs=> .ok (v :: vs) else zx g ft fe (ts.drop (i+1)) ρ1)= .ok ws:=ew
   cases ef:ft ρ1 with
   | bad=>rw [ef] at ew1; cases ew1
   | ex c=>rw [ef] at ew1; cases ew1
   | ok kk=>
    rw [ef] at ew1
    intro b H3 s3 eb
    have eb' :b=kk:=eb
    subst eb'
    have ew2:(if b=true then (fe ρ1).bind fun v=>(zx g ft fe (ts.drop (i+1)) ρ1).bind fun vs=> .ok (v :: vs) else zx g ft fe (ts.drop (i+1)) ρ1)= .ok ws:=ew1
    have J2:=J1.grow s3
    have hD3:H3 D=some (.lst ys):=s3 _ _ (s2 _ _ hDl)
    have bD3:zE (zE B' H' H2) H2 H3 D=none:=by rw [zV (s2 _ _ hDl)]; exact tD H2 s2
    have sB3:zt B' (zE (zE B' H' H2) H2 H3):=(zE.ge I'.sB s2).trans (zE.ge I2.sB s3)
    cases b with
    | false=>
     have ew3:zx g ft fe (ts.drop (i+1)) ρ1= .ok ws:=ew2
     exact ⟨ts.length - (i+1),by omega,rfl,hlt,by omega,hD3,ρ1,_,us,ws,J2,no1,s1'.trans sB3,bD3,r'.mono sB3,ew3,eall⟩
    | true=>
     refine ⟨⟨B1,H1,fun _ _ _=>False,Y.cl⟩,ρ1,rfl,_,J2, ?_⟩
     have ew3:(fe ρ1).bind (fun v=>(zx g ft fe (ts.drop (i+1)) ρ1).bind fun vs=> .ok (v :: vs))= .ok ws:=ew2
     cases ee:fe ρ1 with
     | bad=>rw [ee] at ew3; cases ew3
     | ex c=>rw [ee] at ew3; cases ew3
     | ok v=>
      rw [ee] at ew3
      have ew4:(zx g ft fe (ts.drop (i+1)) ρ1).bind (fun vs=> .ok (v :: vs))= .ok ws:=ew3
      cases el:zx g ft fe (ts.drop (i+1)) ρ1 with
      | bad=>rw [el] at ew4; cases ew4
      | ex c=>rw [el] at ew4; cases ew4
      | ok ws' =>
       rw [el] at ew4
       cases ew4
       intro w H4 s4 rw4
       have hD4:H4 D=some (.lst ys):=s4 _ _ hD3
       have J3:=J2.grow s4
       have bD4:zE (zE (zE B' H' H2) H2 H3) H3 H4 D=none:=by rw [zV hD3]; exact bD3
       have sB4:=sB3.trans (zE.ge J2.sB s4)
       refine ⟨hD4,Nat.lt_of_lt_of_le (Nat.lt_of_le_of_lt hyl hlt) (Z8 hl),ts.length - (i+1),by omega,rfl,hlt,by rw [List.length_append,List.length_singleton]; omega,Zc,ρ1,_,us++[v],ws', ?_,no1,s1'.trans sB4,bD4,(r'.mono sB4).append (.cons rw4 .nil),el,by rw [List.append_assoc]; exact eall⟩
       exact J3.acc bD4 hD (fun j ts' e=>(no1 j ts' e).elim) _
 ·have e:i=ts.length:=by omega
  subst e
  refine .inl ⟨hstop _ (Nat.le_refl _), ?_⟩
  rw [List.drop_length] at ew
  cases ew
  rw [List.append_nil] at eall
  subst eall
  refine hF H' ys B' I'.sH hDl r' (fun b o h=> ?_) bD s1'
  cases q:H1 b with
  | none=>rw [Z7 q]; exact I'.sB b o h
  | some u=>
   rw [zV q]
   have z:B' b=B1 b:=I'.old b u q
   rw [← z]; exact h
structure ud (X:Cx) (Y:Fx) (tg iter elt:Expr) (ifs:List Expr) (scope:Scope) (N' :List Str) (k:Nat) (js:List Nat) (fi:En->R (List T)) (tG:TG) (g:T->En->R En) (ft:En->R Bool) (fe:En->R T):Prop where
 sc:CSc X scope
 cp:vq X scope N' k js
 cm:X.calm=true
 it:U3 X Y tg iter fi
 gt:Uz X scope N' fun XC=>PG XC tg tG
 gk:GOk tG g
 gn:GNo g
 tt:∀ Y',Y'.cl=Y.cl->Uz X scope N' fun XC=>uc XC Y' ifs ft
 el:∀ Y',Y'.cl=Y.cl->Uz X scope N' fun XC=>Snd XC Y' elt fe
 hs:∀ x,foldedSetIterable iter X.env x=pure x
theorem Zw (C:ud X Y tg iter elt ifs scope N' k js fi tG g ft fe):Snd X Y (.ListComp elt [⟨tg,iter,ifs,0⟩] scope pos) (Zd fi g ft fe k js):= .mk fun ρ=>by
 intro pins s σ H Q I ⟨B,J,q⟩
 rw [eval_ListComp]
 refine wN (use:=none) (Q:=EP X pins σ Q) (F:=fun D H' =>Q (.ref D) H') (te:=fun σ H Q=>∃ Y' ρ',Y'.cl=Y.cl/\tS Y' rC fe ρ' σ H Q) (tt:=fun σ H Q=>∃ Y' ρ',Y'.cl=Y.cl/\tS Y' rE ft ρ' σ H Q) C.sc C.cp C.cm (C.it ρ) C.gt
  (fun cl Cx' s3 H3 fp pins pins' s σ H Q I ⟨Y',ρ',ey,q⟩=>C.tt Y' ey cl Cx' s3 H3 fp pins ρ' pins' s σ H Q I q) (fun cl Cx' s3 H3 fp pins pins' s σ H Q I ⟨Y',ρ',ey,q⟩=>C.el Y' ey cl Cx' s3 H3 fp pins ρ' pins' s σ H Q I q) I ?_ ?_ C.hs
 ·refine step J q fun ts it' H1 _ s1 r1 J1 q1=> ?_
  intro D hD
  unfold Zs at q1
  split at q1
  ·rename_i hl
   cases ev:zx g ft fe ts (wO k js ρ) with
   | bad=>rw [ev] at q1; exact q1.elim
   | ex c=>rw [ev] at q1; exact q1.elim
   | ok vs=>
    rw [ev] at q1
    refine JO C.gk C.gn J1 r1 hl ev hD fun H' xs B' s' e' r' l' b' sb' => ?_
    refine (show Po Y rC _ H1 (.ok (.lst vs)) Q from q1) (.ref D) H' s' ?_
    exact .lst (by rw [Z7 hD]; exact e') (r'.mono l')
  ·exact q1.elim
 ·intro D Cc H' s' I' q' hC h0 hL hcell hpin hns
  obtain ⟨m,hm⟩:=hns
  refine ⟨m,hm,fun h' hsb=>⟨.ref D,H', ?_,rfl,q'⟩⟩
  exact I'.turned (t' :=s'.toks) (fun b o hb e=>hsb.extBut b o hb e) hC (Ne.symm hL).symm (.inr h0) hcell hpin
end
section
variable {X:Cx} {Y:Fx} {tg iter elt:Expr} {ifs:List Expr} {scope:Scope} {pos pos' :Pos} {N' :List Str} {k:Nat} {js:List Nat} {fi:En->R (List T)} {tG:TG} {g:T->En->R En} {ft:En->R Bool} {fe:En->R T}
theorem y9 {i:Nat} {x:Str} {pc p' :Pos} (C:ud X Y tg iter elt ifs scope N' k js fi tG g ft fe) (hN:X.N.Nodup) (hi:X.N[i]? =some x) (hx:L2.Loc X.env.scope x)
  (hsw:swapsWith (.ListComp elt [⟨tg,iter,ifs,0⟩] scope pc) (some (.Name x p')) pos.line X.env=pure true) (hf:X.fn x=true\/X.env.scope.names.lookup x=some .local:=by first | exact .inl rfl | exact .inr rfl | assumption):
  wL X Y (.Assign [.Name x p'] (.ListComp elt [⟨tg,iter,ifs,0⟩] scope pc) pos) (Z5 i (Zd fi g ft fe k js)):= .mk fun ρ=>by
 intro pins s σ H D I ⟨B,J,q⟩
 rw [exec_Assign_Name_used _ _ _ _ hsw]
 refine wpAny_bind (wpAny_standAt (wpAny_bind ?_))
 show wpAny _ X.A (do let _ ← comprehension (.ListComp elt [⟨tg,iter,ifs,0⟩] scope pc) scope X.env _ (newList []) false (eval iter X.env) (some (assign (.Name x p') X.env))) _ _ s
 refine wpAny_bind (thn (wN (use:=some (assign (.Name x p') X.env)) (Q:=fun _ s' =>SP X pins D .next s') (F:=fun D' H' =>D.nx (σ.set i (some (.ref D'))) H') (te:=fun σ H Q=>∃ Y' ρ',Y'.cl=Y.cl/\tS Y' rC fe ρ' σ H Q) (tt:=fun σ H Q=>∃ Y' ρ',Y'.cl=Y.cl/\tS Y' rE ft ρ' σ H Q) C.sc C.cp C.cm (C.it ρ) C.gt
  (fun cl Cx' s3 H3 fp pins pins' s σ H Q I ⟨Y',ρ',ey,q⟩=>C.tt Y' ey cl Cx' s3 H3 fp pins ρ' pins' s σ H Q I q) (fun cl Cx' s3 H3 fp pins pins' s σ H Q I ⟨Y',ρ',ey,q⟩=>C.el Y' ey cl Cx' s3 H3 fp pins ρ' pins' s σ H Q I q) I ?_ ?_ C.hs) fun _ s' hq=>wpAny_pure (wpAny_pure hq))
 ·have q' :PoS Y B (((fi ρ).s fun ts=>(Zs g ft fe k js ρ ts).s fun vs=> .nx (ρ.set i (.vl (.lst vs))))) D:=by
   unfold Z5 Zd at q
   revert q
   cases fi ρ with
   | bad=>exact fun q=>q
   | ex c=>exact fun q=>q
   | ok ts=>
    intro q
    have q2:PoS Y B (((Zs g ft fe k js ρ ts).bind fun vs=>R.ok (T.lst vs)).s fun t=>RS.nx (List.set ρ i (Sl.vl t))) D:=q
    show PoS Y B ((Zs g ft fe k js ρ ts).s fun vs=>RS.nx (List.set ρ i (Sl.vl (T.lst vs)))) D
    revert q2
    cases Zs g ft fe k js ρ ts with
    | bad=>exact fun q=>q
    | ex c=>exact fun q=>q
    | ok vs=>exact fun q=>q
  refine wl J q' fun ts it' H1 _ s1 r1 J1 q1=> ?_
  intro D' hD
  unfold Zs at q1
  split at q1
  ·rename_i hl
   cases ev:zx g ft fe ts (wO k js ρ) with
   | bad=>rw [ev] at q1; exact q1.elim
   | ex c=>rw [ev] at q1; exact q1.elim
   | ok vs=>
    rw [ev] at q1
    refine JO C.gk C.gn J1 r1 hl ev hD fun H' xs B' s' e' r' l' b' sb' => ?_
    have rr:Rep (zE (zE B H H1) H1 H') (.ref D') (.lst vs):= .lst (by rw [Z7 hD]; exact e') (r'.mono l')
    exact q1 _ _ _ (zE.ge J1.sB s') ((J1.grow s').setV i rr)
  ·exact q1.elim
 ·intro D' Cc H' s' I' q' hC h0 hL hcell hpin hns
  obtain ⟨m,hm⟩:=hns
  show wpAny _ X.A (assign (.Name x p') X.env (.ref D')) _ _ s'
  refine wpAny_assign_Name (Jt (v:= .ref D') I' hN hi hx rfl (fun s'' I'' ⟨a,hsb,ha⟩=> ?_) hf)
  have hne:Cc ≠ a:=by
   rcases ha with rfl | ha
   ·exact hL
   ·exact (hcell x a ha).symm
  refine ⟨m,hm.sameBut hsb hne,fun h' hsb' =>⟨_,H', ?_,q'⟩⟩
  exact I''.turned (t' :=s''.toks) (fun b o hb e=>hsb'.extBut b o hb e) hC hL (.inr h0) hcell hpin
end
def Itc (x:Str):It:=⟨fun i _=>i < x.cps.size,fun i H v H' =>H' =H/\∃ c,x.cps[i]? =some c/\v= .str ⟨#[c]⟩,fun i _=>x.cps.size<=i⟩
theorem jP {P:Program} {w:World} {K:PySem.W.Frag} {tg:Expr} {x:Str} {t:Tok} {ty:String} (it:Addr) (hty:ty="str_ascii_iterator"\/ty="str_iterator"):Ue P w K tg (Itc x) [it] it (fun i h=>h.IsStrIter it ty x t i):=by
 have W:∀ A:Around,A.handled=none->Walks P w A it [it] [it] x.cps.size (SignAt x) (fun i h=>h.IsStrIter it ty x t i):=fun A hA=>by
  rcases hty with rfl | rfl
  ·exact Walks.strAscii hA it x t
  ·exact Walks.strWide hA it x t
 have hn:["enumerate","zip","dict_itemiterator","dict_reverseitemiterator","odict_iterator","itertools.zip_longest","itertools.pairwise"].contains ty=false:=by rcases hty with rfl | rfl <;> decide
 refine ⟨by simp,fun i h st b hb=> ?_,fun i h h' st k=> ?_, ?_, ?_,fun A i s Q E st h=> ?_⟩
 ·have e:b=it:=by simpa using hb
  subst e
  obtain ⟨o,e,c,d⟩:=st
  exact ⟨o,e,fun v z=>by rw [d] at z; cases z⟩
 ·obtain ⟨o,e,r⟩:=st
  exact ⟨o,k it (by simp) o e,r⟩
 ·intro X hP hw hK hc i pins s σ H E I hf st hg
  subst hP hw hK
  obtain ⟨f0,f1,f2,f3,f4,f5⟩:=hf it (by simp)
  refine (W X.A (I.ok.hd hc)).item i s _ _ hg st fun v h' tk hv st' kk=> ?_
  obtain ⟨c,u,hc',rfl⟩:=hv
  have I1:L2.Inv X pins σ H { s with heap:=h',toks:=tk }:=I.turned (fun b o hb e=>kk b o (by simpa using hb) e) f0 f1 f3 f4 f5
  obtain ⟨o,e,cl,d⟩:=id st'
  exact ⟨_,rfl,Uf (s:={ s with heap:=h',toks:=tk }) e cl d hn ⟨.str ⟨#[c]⟩,H,I1,⟨u,rfl⟩,⟨rfl,c,hc',rfl⟩,st',fun b hb=>(hf b hb).1⟩⟩
 ·intro X hP hw hK hc i pins s σ H E I hf st hg
  subst hP hw hK
  obtain ⟨f0,f1,f2,f3,f4,f5⟩:=hf it (by simp)
  have hx:x.cps[i]? =none:=Array.getElem?_eq_none hg
  rcases hty with rfl | rfl
  ·exact wpAny_pyNext_ascii_end (I.ok.hd hc) st hx fun h' eb=>⟨rfl,I.turned (t' :=s.toks) (fun b o hb e=>eb b o hb e) f0 f1 f3 f4 f5⟩
  ·exact wpAny_pyNext_wide_end (I.ok.hd hc) st hx fun h' eb=>⟨rfl,I.turned (t' :=s.toks) (fun b o hb e=>eb b o hb e) f0 f1 f3 f4 f5⟩
 ·rcases hty with rfl | rfl
  ·exact wpAny_pyIter_striter_ascii st h
  ·exact wpAny_pyIter_striter_wide st h
def Ze (x:Str):List T:=x.cps.toList.map fun c=>T.str ⟨#[c]⟩
theorem UC {B1 H1:Hp} {x:Str}:rI B1 H1 (Itc x) (Ze x):=fun B2 H2 s1 s2=>by
 have hl:(Ze x).length=x.cps.size:=by unfold Ze; simp
 refine ⟨fun i hi=>by rw [hl] at hi; exact hi,fun i t v H3 e y=> ?_,fun i hi=>by rw [hl] at hi; exact hi⟩
 obtain ⟨rfl,c,hc,rfl⟩:=y
 refine ⟨zt.refl _, ?_⟩
 unfold Ze at e
 rw [List.getElem?_map] at e
 have hc' :x.cps.toList[i]? =some c:=by simpa using hc
 rw [hc'] at e
 cases e
 exact .str _
section
variable {X:Cx} {Y:Fx} {a b c d tg:Expr} {fa fb fc fd:En->R T} {pos p:Pos}
theorem qJ {l:Expr} {tl:TE} (hl:PE X l tl):PI X tg l (fun σ H R=>tl σ H fun x H1=>(∃ a,x= .ref a/\(((∃ xs,SqL X.K H1 a xs)/\R (Itl X.K a) H1)\/((∃ xs,SqT X.K H1 a xs)/\R (Itt X.K a) H1)))\/(∃ z,x= .str z/\R (Itc z) H1)):=by
 intro pins s σ H R I h
 refine thn (hl pins s σ H _ I h) fun v s1 ⟨x,H1,I1,r1,q1⟩=> ?_
 have ok:∀ b∈[s1.heap.objs.size],wd X pins H1 b:=fun b hb=>by
  have e:b=s1.heap.objs.size:=by simpa using hb
  subst e
  exact I1.fpOk (Nat.le_refl _) (I1.hok.fresh (Nat.le_refl _))
 rcases q1 with ⟨a,e,q⟩ | ⟨z,e,q⟩
 ·subst e
  obtain rfl:v=Value.ref a:=r1
  rcases q with ⟨⟨xs,hq⟩,q⟩ | ⟨⟨xs,hq⟩,q⟩
  ·obtain ⟨its,rv,p,hz⟩:=I1.list hq
   exact wpAny_pyIter_list p.isList ⟨s1.heap.objs.size,[s1.heap.objs.size],_,_,H1,rfl,I1.kept (t' :=s1.toks) fun b o e=>Heap.get?_push_of_some _ e,WA a _,⟨_,Heap.get?_push_size _ rfl,rfl,rfl⟩,ok,q⟩
  ·obtain ⟨its,rv,p,hz⟩:=I1.tuple hq
   exact wpAny_pyIter_tuple (show s1.heap.IsTuple a its.toArray from p) ⟨s1.heap.objs.size,[s1.heap.objs.size],_,_,H1,rfl,I1.kept (t' :=s1.toks) fun b o e=>Heap.get?_push_of_some _ e,W7 a _,⟨_,Heap.get?_push_size _ rfl,rfl,rfl⟩,ok,q⟩
 ·subst e
  obtain ⟨t,rfl⟩:=r1
  cases ha:z.cps.all (· < 128)
  ·exact wpAny_pyIter_wide ha ⟨s1.heap.objs.size,[s1.heap.objs.size],_,_,H1,rfl,I1.kept (t' :=s1.toks) fun b o e=>Heap.get?_push_of_some _ e,jP _ (.inr rfl),⟨_,Heap.get?_push_size _ rfl,rfl,rfl⟩,ok,q⟩
  ·exact wpAny_pyIter_ascii ha ⟨s1.heap.objs.size,[s1.heap.objs.size],_,_,H1,rfl,I1.kept (t' :=s1.toks) fun b o e=>Heap.get?_push_of_some _ e,jP _ (.inl rfl),⟨_,Heap.get?_push_size _ rfl,rfl,rfl⟩,ok,q⟩
def ZV:T->R (List T)
 | .lst xs=> .ok xs
 | .tup xs=> .ok xs
 | .str x=> .ok (Ze x)
 | _=> .bad
def jH (fa:En->R T):En->R (List T):=fun ρ=>(fa ρ).bind ZV
theorem jw (ha:Snd X Y a fa):U3 X Y tg a (jH fa):= .mk fun ρ=>PI.imp (qJ (ha ρ)) fun σ H R ⟨B,I,q⟩=>step I q fun t v H1 _ s1 r1 I1 q1=>by
 cases r1 with
 | @tup l xs ts h r=>
  exact .inl ⟨l,rfl, .inr ⟨⟨xs,SqT.of (I1.sB _ _ h)⟩,Zv I1 (show Po Y rI _ H1 (.ok ts) R from q1) (qF h r)⟩⟩
 | @lst l xs ts h r=>
  exact .inl ⟨l,rfl, .inl ⟨⟨xs,SqL.of (I1.sB _ _ h)⟩,Zv I1 (show Po Y rI _ H1 (.ok ts) R from q1) (qG h r)⟩⟩
 | str z=>exact .inr ⟨z,rfl,Zv I1 (show Po Y rI _ H1 (.ok (Ze z)) R from q1) UC⟩
 | _=>exact q1.elim
end
theorem Inv.laidT {X:Cx} {pins:List (Addr×Obj)} {σ:Sg} {H:Hp} {s:Shared} {h' :Heap} {tk:Nat} {ch:List Addr} {a:Addr} {xs:List V} (I:L2.Inv X pins σ H s) (hf:∀ b∈ch,wd X pins H b) (k:∀ b o,b ∉ ch->s.heap.get? b=some o->h'.get? b=some o)
  (th:∀ b o,b∈ch->s.heap.get? b=some o->∃ o',h'.get? b=some o') (ha:s.heap.objs.size<=a) (new:Zk X.prog X.w (upd H a (.tup xs)) h' a (.tup xs)):L2.Inv X pins σ (upd H a (.tup xs)) { s with heap:=h',toks:=tk }:=by
 have hn:H a=none:=I.hok.fresh ha
 have nch:∀ b u,H b=some u->b ∉ ch:=fun b u e hb=>by rw [(hf b hb).1] at e; cases e
 refine I.call' (s' :={ s with heap:=h',toks:=tk }) (ch:=ch) rfl ⟨fun b o e n _ hc=>k b o hc e,fun b o e n _ hc=>⟨o.slots,k b o hc e⟩,fun b o e n _=>by rw [zr (Nat.ne_of_lt (Nat.lt_of_lt_of_le (Heap.lt_size e) ha))]; exact n,fun b o e hc=>⟨o,k b o hc e⟩,
  fun b ys e=>by rw [zr (zv e hn)]; exact e,fun b o u e=>by rw [zr (zv e hn)]; exact e,fun b ps e=>⟨#[],by rw [zr (zv e hn),e]; simp⟩⟩ (fun b u e=> ?_) I.bare fun b hb=> ?_
 ·by_cases hb:b=a
  ·subst hb; rw [Zc] at e; cases e; exact new
  ·rw [zr hb] at e
   refine (I.hok b u e).stay (fun c v hc q=> ?_) (fun c q=>by rw [zr (zv q hn)]; exact q) fun c ys q=>by rw [zr (zv q hn)]; exact q
   rcases hc with rfl | hc
   ·exact k c v (nch c u e) q
   ·exact k c v (nch c _ hc) q
 ·obtain ⟨f0,f1,f2,f3,f4,f5⟩:=hf b hb
  exact ⟨f3,f1,f4,f5⟩
def Ite (K:PySem.W.Frag) (l:Addr):It:=
 ⟨fun i H=>∃ xs x,SqL K H l xs/\xs[i]? =some x,fun i H v H' =>∃ p x,H p=none/\v= .ref p/\(∀ xs,SqL K H l xs->xs[i]? =some x)/\H' =upd H p (.tup [.int i,x]),fun i H=>∃ xs,SqL K H l xs/\xs.length<=i⟩
theorem ue {P:Program} {w:World} {K:PySem.W.Frag} {elts:List Expr} {kk:Nat} {pt:Pos} (e it l:Addr) (hei:e ≠ it) (hle:l ≠ e) (hli:l ≠ it):
  Ue P w K (.Tuple elts kk pt) (Ite K l) [e,it] e (fun i h=>(∃ old,IsEnum h e it i old)/\h.IsListIter it l i) where
 mem:=by simp
 obj:=fun i h st b hb=>by
  obtain ⟨⟨old,he⟩,o,e1,c,d⟩:=st
  rcases List.mem_cons.mp hb with rfl | hb
  ·exact ⟨_,he,fun v z=>nomatch z⟩
  ·have z:b=it:=by simpa using hb
   subst z
   exact ⟨o,e1,fun v z=>by rw [d] at z; cases z⟩
 keep:=fun i h h' st k=>by
  obtain ⟨⟨old,he⟩,hit⟩:=st
  exact ⟨⟨old,k e (by simp) _ he⟩,hit.at fun o x=>k it (by simp) o x⟩
 item:=by
  intro X hP hw hK hc i pins s σ H E I hf st hg
  subst hP hw hK
  obtain ⟨xs,x,hq,hx⟩:=hg
  obtain ⟨its,rv,p,hz⟩:=I.list hq
  obtain ⟨u,hu,ru⟩:=rv.get hx
  obtain ⟨⟨old,he⟩,hit⟩:=st
  have hi:i < its.toArray.size:=by
   have:=(List.getElem?_eq_some_iff.mp hu).1
   simpa using this
  refine (WalksT.enumerate (prog:=X.prog) (w:=X.w) (I.ok.hd hc) e it l hei hle hli its.toArray).item i s _ _ hi ⟨⟨old,he⟩,hit,p.isList⟩ fun T vals h' tk hP hT hTup hM hk=> ?_
  obtain ⟨t,y,hy,rfl⟩:=hP
  have hyu:y=u:=by
   have:its[i]? =some y:=by simpa using hy
   rw [hu] at this; exact (Option.some.inj this).symm
  subst hyu
  refine ⟨.ref T,rfl, ?_⟩
  refine (WalksT.enumerate (prog:=X.prog) (w:=X.w) (I.ok.hd hc) e it l hei hle hli its.toArray).go elts kk pt i T _ _ _ hM fun h2 hst2 hk2=> ?_
  have hTn:H T=none:=I.hok.fresh hT
  have hTne:∀ b∈[e,it],b ≠ T:=fun b hb z=>by
   obtain ⟨_,_,_,h3,h4⟩:=hM
   rcases List.mem_cons.mp hb with rfl | hb
   ·exact h3 z.symm
   ·have:b=it:=by simpa using hb
    subst this; exact h4 z.symm
  have uC:IsTup h2 T #[.int i t,y]:=by
   obtain ⟨o,eo,r⟩:=hTup
   exact ⟨o,hk2 T o (fun hb=>hTne T hb rfl) eo,r⟩
  refine ⟨.ref T,upd H T (.tup [.int i,x]),Inv.laidT (s:=s) (h' :=h2) (ch:=[e,it]) (tk:=tk) I hf (fun b o hb e=>hk2 b o hb (hk b o hb e)) (fun b o hb _=> ?_) hT ⟨by rw [sizeLine_eq]; show 2<=16777216; decide,[.int i t,y], .cons ⟨t,rfl⟩ (.cons ru .nil),uC, .inl ⟨_,_,rfl⟩⟩,rfl,⟨T,x,hTn,rfl,fun ys hy=>by rw [I.list_inj hy hq]; exact hx,rfl⟩,⟨hst2.1,hst2.2.1⟩,fun b hb=> ?_⟩
  ·obtain ⟨⟨old2,he2⟩,⟨o2,eo2,_⟩,_⟩:=hst2
   rcases List.mem_cons.mp hb with rfl | hb
   ·exact ⟨_,he2⟩
   ·have:b=it:=by simpa using hb
    subst this; exact ⟨o2,eo2⟩
  ·rw [zr (hTne b hb)]; exact (hf b hb).1
 done:=by
  intro X hP hw hK hc i pins s σ H E I hf st hg
  subst hP hw hK
  obtain ⟨xs,hq,hx⟩:=hg
  obtain ⟨its,rv,p,hz⟩:=I.list hq
  obtain ⟨⟨old,he⟩,hit⟩:=st
  have hl:=rv.length
  refine wpAny_pyNext_enum_end (I.ok.hd hc) he hit p.isList (Array.getElem?_eq_none (by simp; omega)) fun h' hk=>⟨rfl, ?_⟩
  obtain ⟨f0,f1,f2,f3,f4,f5⟩:=hf it (by simp)
  exact I.turned (t' :=s.toks) (fun b o hb e=>hk b o hb e) f0 f1 f3 f4 f5
 self:=fun _ _ _ _ _ st h=>let ⟨⟨_,he⟩,_⟩:=st; wpAny_pyIter_enum he h
def ZC (xs:List T):List T:=(xs.zipIdx).map fun p=>T.tup [.int (p.2:Nat),p.1]
theorem JP {xs:List T} {i:Nat} {t:T} (h:(ZC xs)[i]? =some t):∃ x,xs[i]? =some x/\t= .tup [.int (i:Nat),x]:=by
 unfold ZC at h
 rw [List.getElem?_map,List.getElem?_zipIdx] at h
 cases e:xs[i]? with
 | none=>rw [e] at h; cases h
 | some x=>rw [e] at h; cases h; exact ⟨x,rfl,by simp⟩
theorem ja (xs:List T):(ZC xs).length=xs.length:=by unfold ZC; simp
theorem Ye {K:PySem.W.Frag} {B1 H1:Hp} {a:Addr} {xs:List V} {ts:List T} (h:B1 a=some (.lst xs)) (r:zy B1 xs ts):rI B1 H1 (Ite K a) (ZC ts):=fun B2 H2 s1 s2=>by
 have h2:=s2 _ _ (s1 _ _ h)
 rw [ja]
 refine ⟨fun i hi=> ?_,fun i t x H3 e y=> ?_,fun i hi=>⟨xs,SqL.of h2,by rw [r.length]; exact hi⟩⟩
 ·obtain ⟨v,e,_⟩:=r.get (List.getElem?_eq_getElem hi)
  exact ⟨xs,v,SqL.of h2,e⟩
 ·obtain ⟨p,v,hp,rfl,y,rfl⟩:=y
  obtain ⟨t',et,rfl⟩:=JP e
  obtain ⟨v',e1,r1⟩:=r.get et
  have:=y xs (SqL.of h2)
  rw [e1] at this; cases this
  refine ⟨zt.new hp _, .tup (j2 hp _) (.cons (.int _) (.cons ?_ .nil))⟩
  exact (r1.mono s1).mono (zE.ge s2 (zt.new hp _))
section
variable {X:Cx} {Y:Fx} {a:Expr} {fa:En->R T} {pos p pt:Pos} {elts:List Expr} {kk:Nat}
theorem Yf {ta:TA} (hg:Gl X "enumerate") (hm:X.mg "enumerate"=none) (ha:PA X [a] ta) (hs:St1 X a:=by exact st1 rfl):
  PI X (.Tuple elts kk pt) (.Call (.Name "enumerate" p) [a] [] pos) (fun σ H R=>ta σ H fun vs H1=>∃ l xs,vs=[.ref l]/\H1 l=some (.lst xs)/\R (Ite X.K l) H1):=by
 intro pins s σ H R I h
 refine Call_ (jo I hg hm PyProof.Rows.Boot.«enumerate» (PyProof.Rows.callWith_type1 (thn (ha pos pins s σ H _ I h) fun us s1 ⟨vs,H1,I1,r1,q1⟩=> ?_) hs rfl))
 obtain ⟨l,xs,e,hl,q⟩:=q1
 subst e
 obtain ⟨u,rfl,ru⟩:=Zz r1
 obtain rfl:u=Value.ref l:=ru
 obtain ⟨_,its,n,rv,eo⟩:=(show Zk X.prog X.w H1 s1.heap l (.lst xs) from I1.hok l _ hl)
 have hlt:l < s1.heap.objs.size:=Heap.lt_size eo
 refine call_enumerate_1 eo fun h' he hit hsz hk=>wpAny_pyIter_enum he ?_
 have f:∀ b∈[s1.heap.objs.size+1,s1.heap.objs.size],wd X pins H1 b:=fun b hb=>by
  rcases List.mem_cons.mp hb with rfl | hb
  ·exact I1.fpOk (Nat.le_succ _) (I1.hok.fresh (Nat.le_succ _))
  ·have z:b=s1.heap.objs.size:=by simpa using hb
   subst z
   exact I1.fpOk (Nat.le_refl _) (I1.hok.fresh (Nat.le_refl _))
 exact ⟨s1.heap.objs.size+1,[s1.heap.objs.size+1,s1.heap.objs.size],_,_,H1,rfl,I1.kept (t' :=s1.toks) hk,ue _ _ l (Nat.succ_ne_self _) (Nat.ne_of_lt (Nat.lt_succ_of_lt hlt)) (Nat.ne_of_lt hlt),⟨⟨_,he⟩,hit⟩,f,q⟩
def Yg (fa:En->R T):En->R (List T):=fun ρ=>(fa ρ).bind fun t=>match t with
 | .lst xs=> .ok (ZC xs)
 | _=> .bad
theorem qK (hg:Gl X "enumerate") (hm:X.mg "enumerate"=none) (ha:Snd X Y a fa) (hs:St1 X a:=by exact st1 rfl):U3 X Y (.Tuple elts kk pt) (.Call (.Name "enumerate" p) [a] [] pos) (Yg fa):= .mk fun ρ=>
 PI.imp (Yf hg hm (zu (ha ρ) zU hs) hs) fun σ H R ⟨B,I,q⟩=>step I q fun t v H1 _ s1 r1 I1 q1=>by
  cases r1 with
  | @lst l xs ts h r=>exact ⟨l,xs,rfl,I1.sB _ _ h,Zv I1 (show Po Y rI _ H1 (.ok (ZC ts)) R from q1) (Ye h r)⟩
  | _=>exact q1.elim
def wm:List T->Option (List Str)
 | []=>some []
 | .str x :: r=>match wm r with | some ys=>some (x :: ys) | none=>none
 | _ :: _=>none
def wn (sep:Str):T->R T
 | .lst ts=>match wm ts with
  | some ys=>if (ys.map (·.length)).sum+ys.length*sep.length<=16777216 then .ok (.str (Txt.join sep ys)) else .bad
  | none=> .bad
 | _=> .bad
theorem Ja {H:Hp}:∀ {xs:List V} {ts:List T} {its:List Value} {ys:List Str},zy H xs ts->zR xs its->wm ts=some ys->StrsAre its ys
 | _,_,_,ys, .nil, .nil,h=>by
  have h' :some []=some ys:=h
  cases h'; exact .nil
 | _,_,_,ys, .cons (t:=t) r rs, .cons (b:=u) rv vs,h=>by
  cases r with
  | str x=>
   unfold wm at h
   split at h
   ·rename_i zs e
    cases h
    obtain ⟨tk,rfl⟩:=rv
    exact .cons x tk (Ja rs vs e)
   ·cases h
  | _=>cases h
theorem Yh:MtR X "str.join" (fun x xs H Q=>∃ z l zs ts ys,x= .str z/\xs=[.ref l]/\H l=some (.lst zs)/\zy H zs ts/\wm ts=some ys/\(ys.map (·.length)).sum+ys.length*z.length<=16777216/\Q (.str (Txt.join z ys)) H):=by
 intro pins s σ H x xs v us Q I rx rv h
 obtain ⟨z,l,zs,ts,ys,rfl,rfl,hl,r,e,hb,q⟩:=h
 obtain ⟨t,rfl⟩:=rx
 obtain ⟨u,rfl,ru⟩:=Zz rv
 obtain rfl:u=Value.ref l:=ru
 obtain ⟨its,rv,p,_⟩:=zC I (.inl hl) r
 exact join_list p (by simpa using Ja r rv e) hb fun t' k=>⟨.str _,H,I.tok k,⟨t',rfl⟩,q⟩
theorem JQ {z:Str} {kc:Nat} {pz pa:Pos} (ha:j8 X Y a fa) (hb:attributeBase (.Constant (.str z) kc pz) "join" X.env (eval (.Constant (.str z) kc pz) X.env)=eval (.Constant (.str z) kc pz) X.env:=by rfl) (hs:St1 X a:=by exact st1 rfl)
  (hz:(pa.endLine == p.line)=true:=by rfl):Snd X Y (.Call (.Attribute (.Constant (.str z) kc pz) "join" pa) [a] [] p) (ap1 (wn z) fa):= .mk fun ρ=>by
 have e1:(((((backTo p (starEach [a] X.env)).all fun x=> !x.fst) && (backToKw p (keywordEach [] X.env)).all fun x=>x.fst.isSome) && decide (([a].length+([]:List Keyword).length+if ([]:List Keyword).isEmpty=true then 0 else 1) < 30))=true):=by rw [hs]; rfl
 refine PE.imp (JE PySem.F.plainAttrs_str PySem.F.slot_str_join PySem.F.type_str_join Yh Ww (zu (ha ρ) zU hs) hb e1 hz hs rfl) fun σ H Q ⟨B,I,q⟩=> ?_
 refine ⟨rfl,step I q fun t v H1 _ s1 r1 I1 q1=> ?_⟩
 cases r1 with
 | @lst l xs ts h r=>
  have q1:Po Y rC _ H1 (match wm ts with | some ys=>if (ys.map (·.length)).sum+ys.length*z.length<=16777216 then .ok (.str (Txt.join z ys)) else .bad | none=> .bad) Q:=q1
  split at q1
  ·rename_i ys e
   split at q1
   ·rename_i hl
    exact ⟨z,l,xs,ts,ys,rfl,rfl,h,r,e,hl,po0 I1.sB q1 rfl (.str _)⟩
   ·exact q1.elim
  ·exact q1.elim
 | _=>exact q1.elim
end
def dd:List Str->List Str->List Str
 | acc,[]=>acc
 | acc,x :: r=>dd (if x∈acc then acc else acc++[x]) r
section
variable {prog:Program} {w:World} {A:Around} {R:Result->Shared->Prop} {I:Addr} {fp wr:List Addr} {n:Nat} {P:Nat->Value->Prop} {St:Nat->Heap->Prop}
theorem ZI {h h' :Heap} {S:Addr} {f g:Str->Bool} {m k:Nat} (x:h.SetOf (strKind prog w) S f m) (e:∀ o,h.get? S=some o->h'.get? S=some o) (ef:f=g) (em:m=k):h'.SetOf (strKind prog w) S g k:=by
 subst ef em
 obtain ⟨o,es,ep,t,ho,r⟩:=x
 exact ⟨o,es,ep,t,e o ho,r⟩
theorem UD (W:Walks prog w A.in1 I fp wr n P St) (S:Addr) (hSf:S ∉ fp) (val:Nat->Str) (hval:∀ i v,P i v->∃ t,v=Value.str (val i) t) (hb:n+1 < scanBound):
  ∀ (k i:Nat) (acc:List Str) (s:Shared),n - i=k->i<=n->acc.length<=i->St i s.heap->s.heap.SetOf (strKind prog w) S (fun x=>decide (x∈acc)) acc.length->
   (∀ h' tk,(∀ b o,b ∉ S :: wr->s.heap.get? b=some o->h'.get? b=some o)->h'.SetOf (strKind prog w) S (fun x=>decide (x∈dd acc ((List.range' i k).map val))) (dd acc ((List.range' i k).map val)).length->
    R (.ok (.ret .none)) { s with heap:=h',toks:=tk })->codeAny (model prog w) A (.builtin "set.update.loop" ⟨[.ref S, .ref I],[]⟩) R s:=by
 intro k
 induction k with
 | zero=>
  intro i acc s hk hi hal hst hS hR
  obtain rfl:i=n:=by omega
  refine codeAny_builtin F.entry_set_update_loop ?_
  rw [Around.under_plainId F.plain_set_update_loop _]
  refine wpAny_bind (m:=pyNext (.ref I)) (W.done s _ _ hst fun h' tk hk' =>wpAny_pure ?_)
  exact hR h' tk (fun b o hb e=>hk' b o (fun z=>hb (List.mem_cons_of_mem _ z)) e) (ZI hS (fun o e=>hk' S o (fun z=>hSf (W.sub _ z)) e) rfl rfl)
 | succ k ih=>
  intro i acc s hk hi hal hst hS hR
  refine codeAny_builtin F.entry_set_update_loop ?_
  rw [Around.under_plainId F.plain_set_update_loop _]
  refine wpAny_bind (m:=pyNext (.ref I)) (W.item i s _ _ (by omega) hst fun v h1 tk1 hP hst1 hk1=> ?_)
  obtain ⟨t,rfl⟩:=hval i v hP
  have hS1:=ZI hS (fun o e=>hk1 S o (fun z=>hSf (W.sub _ z)) e) rfl rfl
  refine wpAny_bind (m:=holding [Value.str (val i) t] (setAdd S (.str (val i) t))) (wpAny_holding ?_)
  unfold setAdd
  have isk:(strKind prog w).is (val i) (.str (val i) t)=true:=strKind_is _ _ _ _
  refine wpAny_holding (wpAny_bind ((strKind prog w).pyHash isk ?_))
  refine wpAny_setAddHashed_of (knd:=strKind prog w) (s:={ s with heap:=h1,toks:=tk1+1 }) isk rfl hS1 (by omega) fun h2 hsb hS2=> ?_
  have e2:(if decide (val i∈acc)=true then acc.length else acc.length+1)=(if val i∈acc then acc else acc++[val i]).length:=by
   by_cases hm:val i∈acc
   ·simp [hm]
   ·simp [hm]
  have e1:(fun x=>decide (x∈acc) || decide (x=val i))=(fun x=>decide (x∈(if val i∈acc then acc else acc++[val i]))):=by
   funext x
   by_cases hm:val i∈acc
   ·simp only [if_pos hm]
    by_cases hx:x=val i
    ·subst hx; simp [hm]
    ·simp [hx]
   ·simp [hm,Bool.decide_or]
  have hS3:=ZI (h' :=h2) hS2 (fun o e=>e) e1 e2
  refine wpAny_pure ⟨plainId_quiet F.plain_set_update_loop _,ih (i+1) _ _ (by omega) (by omega) ?_ (W.frame _ h1 _ hst1 fun b hb o e=> ?_) hS3 fun h3 tk3 hk3 hS4=> ?_⟩
  ·split
   ·omega
   ·rw [List.length_append,List.length_singleton]; omega
  ·exact (hsb.2 b (fun z:b=S=>hSf (z ▸ hb))).trans e
  ·rw [List.range'_succ,List.map_cons] at hR
   refine hR h3 tk3 (fun b o hb e=>hk3 b o hb ?_) hS4
   exact (hsb.2 b (fun z:b=S=>hb (z ▸ List.mem_cons_self))).trans (hk1 b o (fun z=>hb (List.mem_cons_of_mem _ z)) e)
end
section
variable {prog:Program} {w:World} {A:Around} {E:Value->Shared->Prop} {s:Shared}
set_option maxRecDepth 100000 in
set_option maxHeartbeats 3200000 in
theorem uf {l:Addr} {its:List Value} {ys:List Str} {Q:Value->Shared->Prop} (hh:A.handled=none) (hl:s.heap.IsList l its.toArray) (hi:StrsAre its ys) (hb:its.length+1 < scanBound)
  (h:∀ (h' :Heap) (tk:Nat),h'.SetOf (strKind prog w) s.heap.objs.size (fun x=>decide (x∈dd [] ys)) (dd [] ys).length->(∀ b o,b < s.heap.objs.size->s.heap.get? b=some o->h'.get? b=some o)->
   Q (.ref s.heap.objs.size) { s with heap:=h',toks:=tk }):wpAny (model prog w) A (call (.type "set") [.ref l]) Q E s:=by
 have getv:∀ {its:List Value} {ys:List Str},StrsAre its ys->its.length=ys.length/\∀ (i:Nat) (v:Value),its[i]? =some v->∃ t,v=Value.str (ys.getD i ⟨#[]⟩) t:=fun {its ys} hi=>by
  induction hi with
  | nil=>exact ⟨rfl,fun i v e=>by simp at e⟩
  | cons y t _ ih=>
   refine ⟨by simp [ih.1],fun i v e=> ?_⟩
   cases i with
   | zero=>exact ⟨t,by simpa using e.symm⟩
   | succ i=>exact ih.2 i v (by simpa using e)
 obtain ⟨hlen,hget⟩:=getv hi
 have hys:(List.range' 0 its.length).map (fun i=>ys.getD i ⟨#[]⟩)=ys:=by
  rw [hlen]
  refine List.ext_getElem? fun i=> ?_
  rw [List.getElem?_map]
  by_cases hi' :i < ys.length
  ·rw [List.getElem?_range' hi',List.getElem?_eq_getElem hi']
   simp [List.getElem?_eq_getElem hi']
  ·rw [List.getElem?_eq_none (by simp; omega),List.getElem?_eq_none (by omega)]
   rfl
 obtain ⟨c,tl,hmro⟩:=F.called_set.mro
 have hmade:=F.called_set.made
 have hsub:=F.called_set.sub
 have h1:=F.called_set.notType
 have h2:=F.called_set.canCreate
 have hct:=F.typeCall_set_1 (.ref l)
 refine wpAny_call (codeAny_of_tree (show wpAny _ _ (callAny (.type "set") _) _ _ _ from ?_))
 refine wpAny_pure ⟨Code.quiet_builtin _ (by decide+kernel),codeAny_builtin F.entry_type_call ?_⟩
 rw [Around.under_plain (weight_type_call_type "set" [.ref l] []) rfl]
 repeat any_goals (first | assumption | wp_step)
 refine codeAny_mono (code_set_new_1 (.ref l) (E:=E) (Q₁:=fun obj s₁=>∃ led:Bool,obj= .ref s.heap.objs.size/\s₁={ s with heap:=s.heap.push { cls:= .type "set",dict:=none,data:= .set #[] 0 (.fresh 0 0 led) } }) fun led=>⟨led,rfl,rfl⟩) fun r s₁ hr=> ?_
 cases r with
 | error e=>exact hr
 | ok fl=>
  cases fl with
  | ret obj=>
   obtain ⟨led,rfl,rfl⟩:=hr
   generalize hG:s.heap.push { cls:= .type "set",dict:=none,data:= .set #[] 0 (.fresh 0 0 led) }=G
   have hS:G.get? s.heap.objs.size=some { cls:= .type "set",dict:=none,data:= .set #[] 0 (.fresh 0 0 led) }:=by rw [← hG]; exact Heap.get?_push_size _ rfl
   have hGs:G.objs.size=s.heap.objs.size+1:=by rw [← hG,Heap.size_push]
   have hGk:∀ b o,s.heap.get? b=some o->G.get? b=some o:=fun b o e=>by rw [← hG]; exact Heap.get?_push_of_some _ e
   have hT:Shared.TypeIs { s with heap:=G } (.ref s.heap.objs.size) "set":=⟨_,hS,rfl⟩
   have hli:=F.called_set.init.lookup
   have hbi:=F.called_set.init.bind (.ref s.heap.objs.size)
   repeat any_goals (first | assumption | wp_step)
   refine codeAny_mono (codeAny_call_builtin (R:=wants (fun r s₂=>r= .none/\∃ h' tk,s₂={ s with heap:=h',toks:=tk }/\h'.SetOf (strKind prog w) s.heap.objs.size (fun x=>decide (x∈dd [] ys)) (dd [] ys).length/\
     (∀ b o,b < s.heap.objs.size->s.heap.get? b=some o->h'.get? b=some o)) E) F.called_set.init.plain F.entry_set_init (check_set_init_1 hT ?_)) fun r₂ s₂ hr₂=> ?_
   ·obtain ⟨⟨ocls,odict,odata,oslots⟩,hol,hcl,nl,hdl⟩:=hl
    simp only at hcl hdl
    subst hcl; subst hdl
    have hol' :=hGk _ _ hol
    have hsls:=F.sub_list_set
    have hslf:=F.sub_list_frozenset
    have hne:(Value.type "list" == Value.type "dict")=false:=by decide
    have hl1:G.IsList l its.toArray:=⟨_,hol',rfl,nl,rfl⟩
    have hlS:l < s.heap.objs.size:=Heap.lt_size hol
    unfold Builtin.«set.__init__» noKeywords Builtin.Frozenset.updateFrom
    generalize hPI:pyIter=PI
    wp_walk
    subst hPI
    refine wpAny_pyIter_list hl1 (wpAny_bind (wpAny_runValue ?_))
    have hSf:s.heap.objs.size ∉ [G.objs.size,l]:=by
     rw [hGs]
     intro z
     rcases List.mem_cons.mp z with z | z
     ·exact absurd z (Nat.ne_of_lt (Nat.lt_succ_self _))
     ·exact absurd (List.mem_singleton.mp z) (Nat.ne_of_gt hlS)
    refine UD (Walks.list (A:=A.in1.in1.in1) (by simp [hh]) G.objs.size l (by rw [hGs]; exact Nat.ne_of_lt (Nat.lt_succ_of_lt hlS)) its.toArray) s.heap.objs.size hSf (fun i=>ys.getD i ⟨#[]⟩) (fun i v e=>hget i v (by simpa using e)) (by simpa using hb) its.length 0 [] _ (by simp) (Nat.zero_le _) (Nat.le_refl _)
     ⟨⟨_,Heap.get?_push_size _ rfl,rfl,rfl⟩,hl1.push _⟩ ?_ ?_
    ·have hget' :(G.push { cls:= .type "list_iterator",data:= .fields #[.ref l, .int 0 0] }).get? s.heap.objs.size=some { cls:= .type "set",dict:=none,data:= .set #[] 0 (.fresh 0 0 led) }:=Heap.get?_push_of_some _ hS
     exact ZI ((PyProof.Rows.setObjOf_fresh (knd:=strKind prog w) led).setOf hget' (by unfold scanBound; omega)) (fun o e=>e) (by funext x; simp) rfl
    ·intro h' tk' hm hS'
     rw [hys] at hS'
     refine wpAny_pure (show wpAny _ _ (ret Value.none) _ _ _ from wpAny_pure ⟨rfl,h',tk',rfl,hS',fun b o hb e=> ?_⟩)
     refine hm b o (fun z=> ?_) (Heap.get?_push_of_some _ (hGk b o e))
     rcases List.mem_cons.mp z with z | z
     ·exact absurd z (Nat.ne_of_lt hb)
     ·have z' :b=G.objs.size:=List.mem_singleton.mp z
      rw [hGs] at z'
      exact absurd z' (Nat.ne_of_lt (Nat.lt_succ_of_lt hb))
   ·cases r₂ with
    | error e=>exact hr₂
    | ok fl₂=>
     cases fl₂ with
     | ret r=>
      obtain ⟨rfl,h',tk,rfl,hS',hk'⟩:=hr₂
      repeat any_goals (first | assumption | wp_step)
      exact h _ _ hS' hk'
     | _=>exact hr₂.elim
  | _=>exact hr.elim
end
section
variable {X:Cx} {Y:Fx} {a b:Expr} {fa fb:En->R T} {pos pos' p p' :Pos}
theorem ug (hh:X.A.handled=none):Zt X (.type "set") (fun vs H Q=>∃ l xs ts ys,vs=[.ref l]/\H l=some (.lst xs)/\zy H xs ts/\wm ts=some ys/\ts.length+1 < 4096/\
  ∀ q,H q=none->Q (.ref q) (upd H q (.ext fun h=>h.SetOf (strKind X.prog X.w) q (fun x=>decide (x∈dd [] ys)) (dd [] ys).length))):=by
 intro pins s σ H vs us Q I rv h
 obtain ⟨l,xs,ts,ys,rfl,hl,r,ey,hb,q⟩:=h
 obtain ⟨u,rfl,ru⟩:=Zz rv
 obtain rfl:u=Value.ref l:=ru
 obtain ⟨its,rv,pl,hln,_⟩:=zC I (.inl hl) r
 refine uf hh pl (Ja r rv ey) (by unfold scanBound; omega) fun h' tk hS hk=> ?_
 refine ⟨.ref s.heap.objs.size,_,I.laid (t' :=tk) (fun b u e=>hk b u (Heap.lt_size e) e) (Nat.le_refl _) ?_,rfl,q _ (I.hok.fresh (Nat.le_refl _))⟩
 obtain ⟨o,es,ep,t,ho,rr⟩:=id hS
 exact ⟨hS,⟨o,ho⟩,fun h1 h2 ⟨o1,es1,ep1,t1,ho1,rr1⟩ e=>⟨o1,es1,ep1,t1,e _ ho1,rr1⟩⟩
theorem uh:Zt X (.builtin "len") (fun vs H Q=>∃ q φ f n,vs=[.ref q]/\H q=some (.ext φ)/\(∀ h:Heap,φ h->h.SetOf (strKind X.prog X.w) q f n)/\Q (.int n) H):=by
 intro pins s σ H vs us Q I rv h
 obtain ⟨l,φ,f,n,rfl,hl,hφ,q⟩:=h
 obtain ⟨u,rfl,ru⟩:=Zz rv
 obtain rfl:u=Value.ref l:=ru
 obtain ⟨h1,_,_⟩:=(show Zk X.prog X.w H s.heap l (.ext φ) from I.hok l _ hl)
 obtain ⟨o,es,ep,t,ho,hex,hd,_,_,hb,hf,hn⟩:=hφ _ h1
 refine call_len_set ho hex hd hf ?_ ⟨.int es.size,H,I.tok _,⟨_,rfl⟩,by rw [hn]; exact q⟩
 have:es.size < 4096:=hb
 omega
def UE:T->R T
 | .lst ts=>match wm ts with
  | some ys=>if ts.length+1 < 4096 then .ok (.int (dd [] ys).length) else .bad
  | none=> .bad
 | _=> .bad
theorem qL (hh:X.A.handled=none) (gl:Gl X "len") (mg:X.mg "len"=none) (gl' :Gl X "set") (mg' :X.mg "set"=none) (ha:j8 X Y a fa) (hs:St1 X a:=by exact st1 rfl) (hs' :St1 X (.Call (.Name "set" p') [a] [] pos'):=by exact st1 rfl):
  Snd X Y (.Call (.Name "len" p) [.Call (.Name "set" p') [a] [] pos'] [] pos) (ap1 UE fa):= .mk fun ρ=>
 PE.imp (jj uh gl mg PySem.boot_len (zu (JA (ug hh) gl' mg' PyProof.Rows.Boot.«set» (zu (ha ρ) zU hs) (by decide) (by decide) hs rfl) zU hs') (by decide) (by decide) hs' rfl) fun σ H Q ⟨B,I,q⟩=>
  step I q fun t v H1 _ s1 r1 I1 q1=>by
   cases r1 with
   | @lst l xs ts h r=>
    have q1:Po Y rC _ H1 (match wm ts with | some ys=>if ts.length+1 < 4096 then .ok (.int (dd [] ys).length) else .bad | none=> .bad) Q:=q1
    split at q1
    ·rename_i ys e
     split at q1
     ·rename_i hl
      refine ⟨l,xs,ts,ys,rfl,h,r,e,hl,fun z hz=>⟨z,_,_,_,rfl,Zc,fun h hh=>hh, ?_⟩⟩
      exact q1 _ _ (zt.new hz _) (.int _)
     ·exact q1.elim
    ·exact q1.elim
   | _=>exact q1.elim
end
theorem vt {X:Cx} {E:XK}:wG CX0 X E:=fun _ _ _ _ _ _ _ h=>h.elim
section
variable {X:Cx} {Y:Fx} {a b:Expr} {fa fb:En->R T} {pos pos' p p' :Pos}
theorem Yi {cl:Nat->Value} {k j n:Nat} {f:Addr} {fd:FuncData} {ps:List Str} {g:List T->R T} {x:Str} {es:List Expr} {ga:En->R (List T)} (hy:Y.cl=cl) (F:Zl X.prog X.w X.K X.mg X.base CX0 j f fd ps (spP cl n g)) (hr:jI k X.A) (hj:j<=k) (gl:Gl X x)
  (mg:X.mg x=some (.ref f)) (kp:PySem.W.keepIn X.K (.ref f)=true) (bd:L2.Binds X.K fd ps []) (ha:WN X Y (a :: es) ga) (hd:(x == ("__debug__":Str))=false:=by decide)
  (hs:starEach (a :: es) X.env=(false,eval a X.env) :: starEach es X.env:=by exact Z6 rfl) (hz:((backTo pos (starEach es X.env)).any fun x=>x.fst)=false:=by exact ZS rfl):Snd X Y (.Call (.Name x p) (a :: es) [] pos) (za n g ga):=by
 subst hy
 exact qE F (hr.mono hj) gl mg kp bd vt ha hd hs hz
theorem wo {x:Str} {i:Int} {u:Value} (gl:Gl X x) (mg:X.mg x=some u) (hu:∃ t,u=Value.int i t) (hd:(x == ("__debug__":Str))=false:=by decide):Snd X Y (.Name x pos) (cE (.int i)):= .mk fun ρ=>
 PE.imp (yv (v:= .int i) gl mg hu hd) fun σ H Q ⟨B,I,q⟩=>Zv I q (.int i)
end
def vv (scope sc0:Scope):Bool:=(scope.kind == .function) && scope.names.all (fun x=>x.2 != .cell) && scope.names.all (fun x=>x.2 != .local || scope.names.lookup x.1 == some .local) &&
 scope.names.all (fun x=>x.2 != .free || sc0.names.lookup x.1 == some .cell || sc0.names.lookup x.1 == some .free)
theorem qM {X:Cx} {scope:Scope} (sc0:Scope) (h0:X.env.scope=sc0) (h:vv scope sc0=true):CSc X scope:=by
 unfold vv at h
 simp only [Bool.and_eq_true,List.all_eq_true] at h
 obtain ⟨⟨⟨h1,h2⟩,h3⟩,h4⟩:=h
 refine ⟨eq_of_beq h1,fun x hx=>by simpa using h2 x hx,fun x hx hl=> ?_,fun x hx hf=> ?_⟩
 ·have:=h3 x hx
  rw [hl] at this
  simpa using this
 ·have:=h4 x hx
  rw [hf] at this
  show X.env.scope.names.lookup x.1=_\/X.env.scope.names.lookup x.1=_
  rw [h0]
  simpa using this
def vw (N N' :List Str) (scope sc0:Scope) (k:Nat) (js:List Nat):Bool:=(N'.length == k+js.length) && (List.range js.length).all fun i=>match js[i]? with
 | none=>true
 | some j=>match N'[k+i]?,N[j]? with
  | some x,some y=>(x == y) && (sc0.names.lookup x == some .cell || sc0.names.lookup x == some .free) && (scope.names.lookup x == some .free)
  | _,_=>false
theorem Yj {X:Cx} {scope:Scope} {N' :List Str} {k:Nat} {js:List Nat} (N:List Str) (sc0:Scope) (hN:X.N=N) (h0:X.env.scope=sc0) (h:vw N N' scope sc0 k js=true):vq X scope N' k js:=by
 unfold vw at h
 simp only [Bool.and_eq_true,List.all_eq_true] at h
 obtain ⟨h1,h2⟩:=h
 refine ⟨eq_of_beq h1,fun i j e=> ?_⟩
 have hi:i < js.length:=(List.getElem?_eq_some_iff.mp e).1
 have q:=h2 i (List.mem_range.mpr hi)
 rw [e] at q
 dsimp only at q
 split at q
 ·rename_i x y e1 e2
  simp only [Bool.and_eq_true,Bool.or_eq_true,beq_iff_eq] at q
  obtain ⟨⟨rfl,q2⟩,q3⟩:=q
  refine ⟨x,e1,by rw [hN]; exact e2, ?_,q3, ?_⟩
  ·unfold Vis
   rw [h0]
   exact .inr q2
  ·show X.env.scope.names.lookup x=_\/X.env.scope.names.lookup x=_
   rw [h0]
   exact q2
 ·cases q
theorem Zp {X:Cx} {Y:Fx} {tg iter elt:Expr} {ifs:List Expr} {scope:Scope} {k:Nat} {js:List Nat} {fi:En->R (List T)} {tG:TG} {g:T->En->R En} {ft:En->R Bool} {fe:En->R T} (N' :List Str) (N:List Str) (sc0:Scope) (hN:X.N=N) (h0:X.env.scope=sc0)
  (h:(vv scope sc0 && vw N N' scope sc0 k js)=true) (cm:X.calm=true) (it:U3 X Y tg iter fi) (gt:Uz X scope N' fun XC=>PG XC tg tG) (gk:GOk tG g) (gn:GNo g) (tt:∀ Y',Y'.cl=Y.cl->Uz X scope N' fun XC=>uc XC Y' ifs ft)
  (el:∀ Y',Y'.cl=Y.cl->Uz X scope N' fun XC=>Snd XC Y' elt fe) (hs:∀ x,foldedSetIterable iter X.env x=pure x:=by intro _; rfl):ud X Y tg iter elt ifs scope N' k js fi tG g ft fe:=by
 rw [Bool.and_eq_true] at h
 exact ⟨qM sc0 h0 h.1,Yj N sc0 hN h0 h.2,cm,it,gt,gk,gn,tt,el,hs⟩
end PV
namespace PV
open PySem PySem.Spec PyProof.Rows L2 PySem.W
section
variable {X:Cx} {Y:Fx} {a b:Expr} {fa fb:En->R T} {pos pos' p p' :Pos}
end
section
variable {P:Program} {w:World} {K:PySem.W.Frag} {mg:Str->Option Value} {base:Heap} {N:List Str} {qual:Str} {scope:Scope} {f:Addr} {cd:Value} {A:Around} {outer:List Env} {s:Shared} {H:Hp} {E:XK} {Y:Fx}
end
end PV
namespace PySem.W
open PySem PySem.Calls PyProof.Rows PySem.Spec Builtin Builtin.ObjectAttr Builtin.Getset_descriptor
section
variable {prog:Program} {w:World} {A:Around} {E:Value->Shared->Prop} {s:Shared} {K:Frag} {x C:Addr}
end
end PySem.W
namespace PySem.W
open PySem PySem.Calls PyProof.Rows PySem.Spec Builtin Builtin.ObjectAttr Builtin.Getset_descriptor
section
variable {prog:Program} {w:World} {A:Around} {E:Value->Shared->Prop} {s:Shared} {K:Frag} {x C:Addr}
end
end PySem.W
namespace PySem.W
open PySem PySem.Calls PyProof.Rows PySem.Spec Builtin Builtin.ObjectAttr Builtin.Getset_descriptor
section
variable {prog:Program} {w:World} {A:Around} {E:Value->Shared->Prop} {s:Shared} {K:Frag} {x C:Addr}
end
end PySem.W
namespace PV
open PySem PySem.Spec PyProof.Rows L2 PySem.W
section
variable {X:Cx} {Y:Fx} {a b:Expr} {fa fb:En->R T} {pos pos' p p' :Pos}
end
section
variable {P:Program} {w:World} {K:PySem.W.Frag} {mg:Str->Option Value} {base:Heap}
end
end PV
namespace PySem.ZG
open PySem PySem.Spec PySem.Builtin.SmallTypes
end PySem.ZG
namespace PySem.ZG
open PySem PySem.Spec PySem.Builtin.SmallTypes
section
variable {prog:Program} {w:World} {A:Around} {E:Value->Shared->Prop} {s:Shared} {it l:Addr} {k:Nat} {xs:Array Value} {Q:Value->Shared->Prop}
end
end PySem.ZG
namespace PySem.ZG
open PySem PySem.Spec PySem.Builtin.SmallTypes
section
variable {prog:Program} {w:World} {A:Around} {E:Value->Shared->Prop} {s:Shared} {z TI TO i1 i2:Addr} {fp1 fp2:List Addr} {v1 v2:Nat->Option Value} {S1 S2:Nat->Heap->Prop} {k:Nat} {x y a b:Value}
end
end PySem.ZG
namespace PySem.ZG
open PySem PySem.Spec PySem.Builtin.SmallTypes
end PySem.ZG
namespace PySem.ZG
open PySem PySem.Spec PySem.Builtin.SmallTypes
end PySem.ZG
namespace PV
open PySem PySem.Spec PyProof.Rows L2 PySem.ZG
section
variable {X:Cx} {Y:Fx} {a b:Expr} {fa fb:En->R T} {pos p pt:Pos} {elts:List Expr} {kk:Nat}
end
end PV
namespace PV
open PySem PySem.Spec PyProof.Rows L2
section
variable {X:Cx} {Y:Fx} {a b:Expr} {fa fb:En->R T} {pos p p' pos' :Pos}
end
section
variable {X:Cx} {Y:Fx} {a b:Expr} {fa fb:En->R T} {pos p p' pos' :Pos}
end
def jb:List T->Option (List Int)
 | []=>some []
 | .int i :: r=>match jb r with | some l=>some (i :: l) | none=>none
 | _ :: _=>none
def Qz:T->R T
 | .lst ts=>match jb ts with | some l=> .ok (.int l.sum) | none=> .bad
 | _=> .bad
def U5:En->RS:=fun _=> .bad
theorem wp {X:Cx} {Y:Fx} {st:Stmt}:wL X Y st U5:= .mk fun ρ=>fun pins s σ H D I ⟨B,J,q⟩=>q.elim
theorem ui:∀ {H:Hp} {xs:List V} {ts:List T} {its:List Value} {is:List Int},zy H xs ts->zR xs its->jb ts=some is->∃ ps:List (Int×Tok),its=ps.map (fun p=>Value.int p.1 p.2)/\ps.map (·.1)=is
 | _,_,_,_,is, .nil, .nil,h=>by
  have h' :some []=some is:=h
  cases h'
  exact ⟨[],rfl,rfl⟩
 | H,_,_,_,is, .cons (v:=x) (t:=t) r rs, .cons (b:=u) rv vs,h=>by
  cases r with
  | int i=>
   unfold jb at h
   split at h
   ·rename_i l e
    cases h
    obtain ⟨ps,h1,h2⟩:=ui rs vs e
    obtain ⟨tk,rfl⟩:=rv
    exact ⟨(i,tk) :: ps,by rw [h1]; rfl,by rw [List.map_cons,h2]⟩
   ·cases h
  | _=>cases h
section
variable {X:Cx} {Y:Fx} {a b:Expr} {fa fb:En->R T} {pos p p' pos' :Pos}
theorem uj (hh:X.A.handled=none):Zt X (.builtin "sum") (fun vs H Q=>∃ l xs ts is,vs=[.ref l]/\H l=some (.lst xs)/\zy H xs ts/\jb ts=some is/\Q (.int is.sum) H):=by
 intro pins s σ H vs us Q I rv h
 obtain ⟨l,xs,ts,is,rfl,hl,r,hk,q⟩:=h
 obtain ⟨u,rfl,ru⟩:=Zz rv
 obtain rfl:u=Value.ref l:=ru
 obtain ⟨its,rv,p,_⟩:=zC I (.inl hl) r
 obtain ⟨ps,h1,h2⟩:=ui r rv hk
 have e:its.toArray=intItems ps.toArray:=by rw [h1]; simp [intItems]
 rw [e] at p
 refine sum_intListG hh p fun h' tk t' kp=> ?_
 have e2:preSum (numAt ps.toArray) ps.toArray.size=is.sum:=by
  rw [preSum_eq,List.take_of_length_le (by simp),← h2]
 rw [e2]
 exact ⟨.int is.sum,H,I.kept (t' :=tk) kp,⟨t',rfl⟩,q⟩
theorem vx (hh:X.A.handled=none) (gl:Gl X "sum") (mg:X.mg "sum"=none) (ha:j8 X Y a fa) (hs:St1 X a:=by exact st1 rfl):Snd X Y (.Call (.Name "sum" p) [a] [] pos) (ap1 Qz fa):=
 WW (uj hh) (fun v t B H Q r sB q=>by
  cases r with
  | @lst l xs ts h r=>
   have q:Po Y rC B H (match jb ts with | some k=> .ok (.int k.sum) | none=> .bad) Q:=q
   split at q
   ·rename_i k e
    exact ⟨l,xs,ts,k,rfl,h,r,e,po0 sB q rfl (.int _)⟩
   ·exact q.elim
  | _=>exact q.elim) gl mg boot_sum ha hs
end
section
variable {X:Cx} {Y:Fx} {a b:Expr} {fa fb:En->R T} {pos p p' pos' :Pos}
end
section
variable {X:Cx} {Y:Fx} {tg iter elt:Expr} {ifs:List Expr} {scope:Scope} {pos pos' :Pos} {N' :List Str} {k:Nat} {js:List Nat} {fi:En->R (List T)} {tG:TG} {g:T->En->R En} {ft:En->R Bool} {fe:En->R T}
end
section
variable {P:Program} {w:World} {K:PySem.W.Frag} {mg:Str->Option Value} {base:Heap}
end
end PV
namespace PySem.RV
open PySem PySem.Spec PyProof.Rows PySem.Builtin.SmallTypes
section
variable {prog:Program} {w:World} {A:Around} {E:Value->Shared->Prop} {s:Shared} {it l:Addr} {xs:Array Value}
end
end PySem.RV
namespace PySem.RV
open PySem PySem.Spec PyProof.Rows
section
variable {prog:Program} {w:World} {A:Around} {E:Value->Shared->Prop} {s:Shared} {I:Addr} {fp wr:List Addr} {G:Array GenState->Array GenState->Prop} {n:Nat} {P:Nat->Value->Prop} {St:Nat->Shared->Prop}
end
end PySem.RV
namespace PV
open PySem PySem.Spec PyProof.Rows L2
section
variable {X:Cx} {Y:Fx} {a b tg:Expr} {fa fb:En->R T} {pos p p' pos' :Pos}
end
section
variable {X:Cx} {Y:Fx} {a b:Expr} {fa fb:En->R T} {pos p p' pos' pt:Pos} {elts:List Expr} {kk:Nat}
end
section
variable {X:Cx} {Y:Fx} {a b:Expr} {fa fb:En->R T} {pos p p' pos' pt:Pos} {elts:List Expr} {kk:Nat}
end
end PV
namespace PySem.RV
open PySem PySem.Spec PyProof.Rows PySem.Builtin.SmallTypes
end PySem.RV
namespace PV
open PySem PySem.Spec PyProof.Rows L2
section
variable {X:Cx} {Y:Fx} {a:Expr} {fa:En->R T} {pos p pt:Pos} {elts:List Expr} {kk:Nat}
end
end PV
namespace PySem.RW37
open PySem PySem.Spec PyProof.Rows L2
section
variable {X:Cx} {pos:Pos}
end
end PySem.RW37
namespace PV
open PySem PySem.Spec PyProof.Rows L2 PySem.RW37
section
variable {X:Cx} {Y:Fx} {pos:Pos} {a b c:Expr}
end
end PV
namespace PV
open PySem PySem.Spec PyProof.Rows L2
section
variable {X:Cx} {Y:Fx} {a b:Expr} {fa fb:En->R T} {pos p p' pos' pt:Pos} {elts:List Expr} {kk:Nat}
end
section
variable {X:Cx} {Y:Fx} {tg iter elt:Expr} {ifs:List Expr} {scope:Scope} {pos pos' :Pos} {N' :List Str} {k:Nat} {js:List Nat} {fi:En->R (List T)} {tG:TG} {g:T->En->R En} {ft:En->R Bool} {fe:En->R T}
end
section
variable {prog:Program} {w:World} {A:Around} {R:Result->Shared->Prop} {I:Addr} {fp wr:List Addr} {n:Nat} {P:Nat->Value->Prop} {St:Nat->Heap->Prop}
end
section
variable {prog:Program} {w:World} {A:Around} {E:Value->Shared->Prop} {s:Shared} {l:Addr} {xs:Array (Int×Tok)}
end
section
variable {X:Cx} {Y:Fx} {a b:Expr} {fa fb:En->R T} {pos p p' pos' pt kp:Pos} {elts:List Expr} {kk:Nat}
end
section
variable {prog:Program} {w:World} {K:Type} [DecidableEq K] {knd:KeyKind prog w K} {A:Around} {E:Value->Shared->Prop} {s:Shared}
end
section
variable {prog:Program} {w:World} {A:Around} {E:Value->Shared->Prop} {s:Shared} {I S:Addr} {i ep j:Nat} {o:Obj} {es:Array (Int×Value)} {t:SetTable}
end
section
variable {prog:Program} {w:World} {A:Around} {E:Value->Shared->Prop} {s:Shared} {I S P:Addr} {i ep j:Nat} {es:Array (Int×Value)} {t:SetTable}
end
section
variable {prog:Program} {w:World} {A:Around} {E:Value->Shared->Prop} {s:Shared} {S:Addr} {ep:Nat} {es:Array (Int×Value)} {t:SetTable}
end
section
variable {prog:Program} {w:World} {A:Around} {E:Value->Shared->Prop} {s:Shared} {S:Addr}
end
section
variable {prog:Program} {w:World} {A:Around} {R:Result->Shared->Prop} {I:Addr} {fp wr:List Addr} {n:Nat} {P:Nat->Value->Prop} {St:Nat->Heap->Prop}
end
section
variable {prog:Program} {w:World} {A:Around} {E:Value->Shared->Prop} {s:Shared}
end
section
variable {prog:Program} {w:World} {A:Around} {E:Value->Shared->Prop} {s:Shared} {S:Addr}
end
section
variable {X:Cx} {Y:Fx} {a b:Expr} {fa fb:En->R T} {pos pos' p p' :Pos}
end
section
variable {X:Cx} {Y:Fx} {a b:Expr} {fa fb:En->R T} {pos:Pos}
end
section
variable {X:Cx} {Y:Fx} {a b:Expr} {fa fb:En->R T} {pos:Pos}
end
section
variable {prog:Program} {w:World} {A:Around} {E:Value->Shared->Prop} {s:Shared}
end
section
variable {prog:Program} {w:World} {A:Around} {E:Value->Shared->Prop} {s:Shared}
end
section
variable {prog:Program} {w:World} {A:Around} {R:Result->Shared->Prop} {I:Addr} {fp wr:List Addr} {n:Nat} {P:Nat->Value->Prop} {St:Nat->Heap->Prop}
end
section
variable {prog:Program} {w:World} {A:Around} {E:Value->Shared->Prop} {s:Shared}
end
section
variable {X:Cx} {Y:Fx} {a b:Expr} {fa fb:En->R T} {pos pos' p p' :Pos}
end
section
variable {X:Cx} {Y:Fx} {a:Expr} {fa:En->R T} {pos pos' p p' :Pos}
end
section
variable {X:Cx} {Y:Fx} {a b:Expr} {fa fb:En->R T} {pos:Pos}
end
section
variable {X:Cx} {Y:Fx} {a:Expr} {fa:En->R T} {pos p2 p3 p4:Pos} {kc:Nat}
end
end PV
namespace PySem.RV
open PySem PySem.Spec PyProof.Rows PySem.Builtin.SmallTypes
section
variable {prog:Program} {w:World} {A:Around} {E:Value->Shared->Prop} {s:Shared} {I l:Addr} {xs:Array Value}
end
end PySem.RV
namespace PV
open PySem PySem.Spec PyProof.Rows L2
section
variable {X:Cx} {Y:Fx} {a:Expr} {fa:En->R T} {pos p p' pos' :Pos}
end
def wP (t t' :T):R Bool:=match t,t' with
 | .str x, .str y=> .ok (Txt.contains y x)
 | _,_=> .bad
theorem ya:Nx wP:=fun t t' c h=>by
 unfold wP at h
 split at h <;> cases h
section
variable {X:Cx} {Y:Fx} {a b c:Expr} {fa fb fc:En->R T} {pos p:Pos}
theorem uk:OpR X (compareOp .In) (JL wP):=by
 intro pins s σ H x y v u Q I rx ry h
 obtain ⟨t,t',k,r,r',e,q⟩:=h
 unfold wP at e
 split at e
 ·cases e
  cases r; cases r'
  obtain ⟨t1,rfl⟩:=rx
  obtain ⟨t2,rfl⟩:=ry
  exact P.in_str ⟨.bl _,H,I,rfl,q⟩
 ·cases e
def smE (g:Str->T->R T) (fa fb:En->R T):En->R T:=fun ρ=>(fa ρ).bind fun t=>match t with
 | .str x=>(fb ρ).bind fun u=>g x u
 | _=> .bad
def yb (x:Str):T->R T
 | .str y=> .ok (.bl (Txt.startswith x y))
 | _=> .bad
def QA (x:Str):T->R T
 | .str y=> .ok (.bl (Txt.endswith x y))
 | _=> .bad
def YJ (x:Str):T->R T
 | .str y=>if x.length<=bnd/\(y.length == 0)=false then .ok (.tup [.str (Txt.partition x y).1, .str (Txt.partition x y).2.1, .str (Txt.partition x y).2.2]) else .bad
 | _=> .bad
def vy (x:Str):T->R T
 | .str y=>if x.length<=bnd/\(y.length == 0)=false then .ok (.tup [.str (Txt.rpartition x y).1, .str (Txt.rpartition x y).2.1, .str (Txt.rpartition x y).2.2]) else .bad
 | _=> .bad
def QB (x:Str):T->R T
 | .str y=>if x.length<=1000/\(y.length == 0)=false then .ok (.lst ((Txt.split x y).map T.str)) else .bad
 | _=> .bad
def UF (fa fb fc:En->R T):En->R T:=fun ρ=>(fa ρ).bind fun t=>match t with
 | .str x=>(fb ρ).bind fun u=>(fc ρ).bind fun w=>match u,w with
  | .str y, .int i=> .ok (.bl (Txt.startswith3 x y i))
  | _,_=> .bad
 | _=> .bad
theorem yc:MtR X "str.startswith" (fun x xs H Q=>(∃ z y,x= .str z/\xs=[.str y]/\Q (.bl (Txt.startswith z y)) H)\/∃ z y i,x= .str z/\xs=[.str y, .int i]/\Q (.bl (Txt.startswith3 z y i)) H):=by
 intro pins s σ H x xs v us Q I rx rv h
 rcases h with ⟨z,y,rfl,rfl,q⟩ | ⟨z,y,i,rfl,rfl,q⟩
 ·obtain ⟨t,rfl⟩:=rx
  obtain ⟨u,rfl,ru⟩:=Zz rv
  obtain ⟨t2,rfl⟩:=ru
  exact call_gives F.slot_str_startswith (typeIs_str _ _ _) F.entry_str_startswith (F.args_str_startswith_2 _ _) (gives_str_startswith z y t t2) ⟨.bl _,H,I,rfl,q⟩
 ·obtain ⟨t,rfl⟩:=rx
  obtain ⟨u,u3,rfl,ru,r3⟩:=yD rv
  obtain ⟨t2,rfl⟩:=ru
  obtain ⟨t3,rfl⟩:=r3
  refine SC.startswith3 ?_
  exact ⟨.bl _,H,I,rfl,q⟩
theorem qN:MtR X "str.endswith" (fun x xs H Q=>∃ z y,x= .str z/\xs=[.str y]/\Q (.bl (Txt.endswith z y)) H):=by
 intro pins s σ H x xs v us Q I rx rv h
 obtain ⟨z,y,rfl,rfl,q⟩:=h
 obtain ⟨t,rfl⟩:=rx
 obtain ⟨u,rfl,ru⟩:=Zz rv
 obtain ⟨t2,rfl⟩:=ru
 exact call_gives F.slot_str_endswith (typeIs_str _ _ _) F.entry_str_endswith (F.args_str_endswith_2 _ _) (gives_str_endswith z y t t2) ⟨.bl _,H,I,rfl,q⟩
theorem ZW {pins:List (Addr×Obj)} {s:Shared} {σ:L2.St} {H:Hp} (I:Inv X pins σ H s) (x y z:Str) (t1 t2 t3:Tok) (k:Nat) {Q:VK} (q:∀ p,H p=none->Q (.ref p) (upd H p (.tup [.str x, .str y, .str z]))):
  EP X pins σ Q (.ref s.heap.objs.size) { s with heap:=s.heap.push { cls:= .type "tuple",data:= .seq [.str x t1, .str y t2, .str z t3].toArray },toks:=k }:=
 ⟨.ref s.heap.objs.size,upd H s.heap.objs.size (.tup [.str x, .str y, .str z]),I.laid (t' :=k) (fun b u e=>Heap.get?_push_of_some _ e) (Nat.le_refl _) ⟨by rw [sizeLine_eq]; show 3<=16777216; decide,[.str x t1, .str y t2, .str z t3], .cons ⟨_,rfl⟩ (.cons ⟨_,rfl⟩ (.cons ⟨_,rfl⟩ .nil)),⟨_,Heap.get?_push_size _ rfl,rfl,_,rfl⟩, .inr ⟨_,Heap.get?_push_size _ rfl,rfl⟩⟩,rfl,q _ (I.hok.fresh (Nat.le_refl _))⟩
theorem qO:MtR X "str.partition" (fun x xs H Q=>∃ z y,x= .str z/\xs=[.str y]/\z.length<=bnd/\(y.length == 0)=false/\∀ p,H p=none->Q (.ref p) (upd H p (.tup [.str (Txt.partition z y).1, .str (Txt.partition z y).2.1, .str (Txt.partition z y).2.2]))):=by
 intro pins s σ H x xs v us Q I rx rv h
 obtain ⟨z,y,rfl,rfl,hz,hy,q⟩:=h
 obtain ⟨t,rfl⟩:=rx
 obtain ⟨u,rfl,ru⟩:=Zz rv
 obtain ⟨t2,rfl⟩:=ru
 refine call_meets F.slot_str_partition (typeIs_str _ _ _) F.entry_str_partition (F.args_str_partition_2 _ _) (meets_str_partition z y t t2 hy (Z8 hz)) ?_
 unfold Txt.partition at q
 revert q
 cases Builtin.Str.occurrences z y 0 z.length 1 with
 | nil=>exact fun q=>ZW I _ _ _ _ _ _ _ q
 | cons i r=>exact fun q=>ZW I _ _ _ _ _ _ _ q
theorem qP:MtR X "str.rpartition" (fun x xs H Q=>∃ z y,x= .str z/\xs=[.str y]/\z.length<=bnd/\(y.length == 0)=false/\∀ p,H p=none->Q (.ref p) (upd H p (.tup [.str (Txt.rpartition z y).1, .str (Txt.rpartition z y).2.1, .str (Txt.rpartition z y).2.2]))):=by
 intro pins s σ H x xs v us Q I rx rv h
 obtain ⟨z,y,rfl,rfl,hz,hy,q⟩:=h
 obtain ⟨t,rfl⟩:=rx
 obtain ⟨u,rfl,ru⟩:=Zz rv
 obtain ⟨t2,rfl⟩:=ru
 refine call_meets F.slot_str_rpartition (typeIs_str _ _ _) F.entry_str_rpartition (F.args_str_rpartition_2 _ _) (meets_str_rpartition z y t t2 hy (Z8 hz)) ?_
 unfold Txt.rpartition at q
 revert q
 cases Builtin.Str.lastOccurrence z y 0 z.length with
 | none=>exact fun q=>ZW I _ _ _ _ _ _ _ q
 | some i=>exact fun q=>ZW I _ _ _ _ _ _ _ q
theorem JR:∀ l:List (Str×Tok),zR (l.map fun p=>V.str p.1) (strValues l)
 | []=> .nil
 | (x,t) :: r=> .cons ⟨t,rfl⟩ (JR r)
theorem Jb {pins:List (Addr×Obj)} {s:Shared} {σ:L2.St} {H:Hp} (I:Inv X pins σ H s) (l:List (Str×Tok)) (k:Nat) {ys:List Str} (hl:l.map (·.1)=ys) (hz:ys.length<=sizeLine) {Q:VK} (q:∀ p,H p=none->Q (.ref p) (upd H p (.lst (ys.map V.str)))):
  EP X pins σ Q (.ref s.heap.objs.size) { s with heap:=s.heap.push { cls:= .type "list",data:= .seq (strValues l).toArray },toks:=k }:=by
 subst hl
 have e:(l.map (·.1)).map V.str=l.map fun p=>V.str p.1:=by rw [List.map_map]; rfl
 rw [e] at q
 refine ⟨.ref s.heap.objs.size,upd H s.heap.objs.size (.lst (l.map fun p=>V.str p.1)),I.laid (t' :=k) (fun b u e=>Heap.get?_push_of_some _ e) (Nat.le_refl _) ⟨?_,strValues l,0,JR l,Heap.get?_push_size _ rfl⟩,rfl,q _ (I.hok.fresh (Nat.le_refl _))⟩
 rw [List.length_map] at hz ⊢
 exact hz
theorem ul (x y:Str):(Txt.split x y).length<=x.length+2:=by
 unfold Txt.split
 have e1:=StrLaws.occ_length_le x y 0 x.length (x.length+1)
 split
 ·simp
 ·split
  ·simp
  ·rw [length_partsBetween]; omega
theorem qQ:MtR X "str.split" (fun x xs H Q=>∃ z y,x= .str z/\xs=[.str y]/\z.length<=1000/\(y.length == 0)=false/\∀ p,H p=none->Q (.ref p) (upd H p (.lst ((Txt.split z y).map V.str)))):=by
 intro pins s σ H x xs v us Q I rx rv h
 obtain ⟨z,y,rfl,rfl,hz,hy,q⟩:=h
 obtain ⟨t,rfl⟩:=rx
 obtain ⟨u,rfl,ru⟩:=Zz rv
 obtain ⟨t2,rfl⟩:=ru
 have hs:(Txt.split z y).length<=sizeLine:=by
  have:=ul z y
  rw [sizeLine_eq]; omega
 have hn:(Builtin.Str.partsBetween z (Builtin.Str.occurrences z y 0 z.length (z.length+1)) y.length).length<=sizeLine:=by
  have e1:=StrLaws.occ_length_le z y 0 z.length (z.length+1)
  rw [length_partsBetween,sizeLine_eq]; omega
 cases h1:(decide (z.length < y.length) || decide (Builtin.Str.strKind z < Builtin.Str.strKind y))
 ·cases hf:(Builtin.Str.occurrences z y 0 z.length (z.length+1)).isEmpty
  ·refine call_meets F.slot_str_split (typeIs_str _ _ _) F.entry_str_split (F.args_str_split_2 _ _) (meets_str_split_sep z y t t2 h1 hy hf (by rw [sizeLine_eq]; omega) hn) ?_
   refine (show wants (EP X pins σ Q) X.xe _ { s with toks:=_,heap:=s.heap.push { cls:= .type "list",data:= .seq (strsFrom s.toks (Builtin.Str.partsBetween z (Builtin.Str.occurrences z y 0 z.length (z.length+1)) y.length)).toArray } } from ?_)
   rw [strsFrom_eq]
   exact Jb I _ _ ((numbered_texts _ _).trans ((if_neg (ne_true_of_eq_false h1)).trans (if_neg (ne_true_of_eq_false hf))).symm) hs q
  ·refine call_meets F.slot_str_split (typeIs_str _ _ _) F.entry_str_split (F.args_str_split_2 _ _) (meets_str_split_not_found z y t t2 h1 hy hf) ?_
   exact Jb I [(z,t)] s.toks ((if_neg (ne_true_of_eq_false h1)).trans (if_pos hf)).symm hs q
 ·refine call_meets F.slot_str_split (typeIs_str _ _ _) F.entry_str_split (F.args_str_split_2 _ _) (meets_str_split_cannot_occur z y t t2 h1) ?_
  exact Jb I [(z,t)] s.toks (if_pos h1).symm hs q
section
variable {pa:Pos}
theorem qR {b:Expr} {p:Pos} (hs:St1 X b):(((((backTo p (starEach [b] X.env)).all fun x=> !x.fst) && (backToKw p (keywordEach [] X.env)).all fun x=>x.fst.isSome) && decide (([b].length+([]:List Keyword).length+if ([]:List Keyword).isEmpty=true then 0 else 1) < 30))=true):=by rw [hs]; rfl
theorem UG (ha:Snd X Y a fa) (hb:Snd X Y b fb) (hb1:attributeBase a "startswith" X.env (eval a X.env)=eval a X.env:=by rfl) (hs:St1 X b:=by exact st1 rfl) (hz:(pa.endLine == p.line)=true:=by rfl):
  Snd X Y (.Call (.Attribute a "startswith" pa) [b] [] p) (smE yb fa fb):= .mk fun ρ=>
 PE.imp (JE PySem.F.plainAttrs_str PySem.F.slot_str_startswith PySem.F.type_str_startswith yc (ha ρ) (zu (hb ρ) zU hs) hb1 (qR hs) hz hs rfl) fun σ H Q ⟨B,I,q⟩=>step I q fun t v H1 _ s1 r1 I1 q1=>by
  cases r1 with
  | str x=>
   refine ⟨rfl,step I1 q1 fun u v' H2 _ s2 r2 I2 q2=> ?_⟩
   cases r2 with
   | str y=>exact .inl ⟨x,y,rfl,rfl,po0 I2.sB q2 rfl (.bl _)⟩
   | _=>exact q2.elim
  | _=>exact q1.elim
theorem qS (ha:Snd X Y a fa) (hb:Snd X Y b fb) (hc:Snd X Y c fc) (hb1:attributeBase a "startswith" X.env (eval a X.env)=eval a X.env:=by rfl) (hs:starEach [b,c] X.env=[(false,eval b X.env),(false,eval c X.env)]:=by exact st2 rfl rfl) (hs2:St1 X c:=by exact st1 rfl) (hz:(pa.endLine == p.line)=true:=by rfl):
  Snd X Y (.Call (.Attribute a "startswith" pa) [b,c] [] p) (UF fa fb fc):= .mk fun ρ=>
 PE.imp (JE PySem.F.plainAttrs_str PySem.F.slot_str_startswith PySem.F.type_str_startswith yc (ha ρ) (zu (hb ρ) (zu (hc ρ) zU hs2) (by rw [hs,hs2])) hb1 (by rw [hs]; rfl) hz (by rw [hs,hs2]) (by rw [hs2]; rfl)) fun σ H Q ⟨B,I,q⟩=>step I q fun t v H1 _ s1 r1 I1 q1=>by
  cases r1 with
  | str x=>
   refine ⟨rfl,step I1 q1 fun u v' H2 _ s2 r2 I2 q2=>step I2 q2 fun w v3 H3 _ s3 r3 I3 q3=> ?_⟩
   cases r2 with
   | str y=>
    cases r3 with
    | int i=>exact .inr ⟨x,y,i,rfl,rfl,po0 I3.sB q3 rfl (.bl _)⟩
    | _=>exact q3.elim
   | _=>cases r3 <;> exact q3.elim
  | _=>exact q1.elim
theorem vz (ha:Snd X Y a fa) (hb:Snd X Y b fb) (hb1:attributeBase a "endswith" X.env (eval a X.env)=eval a X.env:=by rfl) (hs:St1 X b:=by exact st1 rfl) (hz:(pa.endLine == p.line)=true:=by rfl):
  Snd X Y (.Call (.Attribute a "endswith" pa) [b] [] p) (smE QA fa fb):= .mk fun ρ=>
 PE.imp (JE PySem.F.plainAttrs_str PySem.F.slot_str_endswith PySem.F.type_str_endswith qN (ha ρ) (zu (hb ρ) zU hs) hb1 (qR hs) hz hs rfl) fun σ H Q ⟨B,I,q⟩=>step I q fun t v H1 _ s1 r1 I1 q1=>by
  cases r1 with
  | str x=>
   refine ⟨rfl,step I1 q1 fun u v' H2 _ s2 r2 I2 q2=> ?_⟩
   cases r2 with
   | str y=>exact ⟨x,y,rfl,rfl,po0 I2.sB q2 rfl (.bl _)⟩
   | _=>exact q2.elim
  | _=>exact q1.elim
theorem qT {H:Hp} (x y z:Str):zy H [V.str x, .str y, .str z] [T.str x, .str y, .str z]:= .cons (.str _) (.cons (.str _) (.cons (.str _) .nil))
theorem qU {H:Hp}:∀ ys:List Str,zy H (ys.map V.str) (ys.map T.str)
 | []=> .nil
 | _ :: r=> .cons (.str _) (qU r)
theorem qV (ha:Snd X Y a fa) (hb:Snd X Y b fb) (hb1:attributeBase a "partition" X.env (eval a X.env)=eval a X.env:=by rfl) (hs:St1 X b:=by exact st1 rfl) (hz:(pa.endLine == p.line)=true:=by rfl):
  Snd X Y (.Call (.Attribute a "partition" pa) [b] [] p) (smE YJ fa fb):= .mk fun ρ=>
 PE.imp (JE PySem.F.plainAttrs_str PySem.F.slot_str_partition PySem.F.type_str_partition qO (ha ρ) (zu (hb ρ) zU hs) hb1 (qR hs) hz hs rfl) fun σ H Q ⟨B,I,q⟩=>step I q fun t v H1 _ s1 r1 I1 q1=>by
  cases r1 with
  | str x=>
   refine ⟨rfl,step I1 q1 fun u v' H2 _ s2 r2 I2 q2=> ?_⟩
   cases r2 with
   | str y=>
    have q2:Po Y rC _ H2 (if x.length<=bnd/\(y.length == 0)=false then .ok (.tup [.str (Txt.partition x y).1, .str (Txt.partition x y).2.1, .str (Txt.partition x y).2.2]) else .bad) Q:=q2
    split at q2
    ·rename_i hc
     exact ⟨x,y,rfl,rfl,hc.1,hc.2,fun z hz=>qv I2.sB q2 rfl (qT _ _ _) hz⟩
    ·exact q2.elim
   | _=>exact q2.elim
  | _=>exact q1.elim
theorem vA (ha:Snd X Y a fa) (hb:Snd X Y b fb) (hb1:attributeBase a "rpartition" X.env (eval a X.env)=eval a X.env:=by rfl) (hs:St1 X b:=by exact st1 rfl) (hz:(pa.endLine == p.line)=true:=by rfl):
  Snd X Y (.Call (.Attribute a "rpartition" pa) [b] [] p) (smE vy fa fb):= .mk fun ρ=>
 PE.imp (JE PySem.F.plainAttrs_str PySem.F.slot_str_rpartition PySem.F.type_str_rpartition qP (ha ρ) (zu (hb ρ) zU hs) hb1 (qR hs) hz hs rfl) fun σ H Q ⟨B,I,q⟩=>step I q fun t v H1 _ s1 r1 I1 q1=>by
  cases r1 with
  | str x=>
   refine ⟨rfl,step I1 q1 fun u v' H2 _ s2 r2 I2 q2=> ?_⟩
   cases r2 with
   | str y=>
    have q2:Po Y rC _ H2 (if x.length<=bnd/\(y.length == 0)=false then .ok (.tup [.str (Txt.rpartition x y).1, .str (Txt.rpartition x y).2.1, .str (Txt.rpartition x y).2.2]) else .bad) Q:=q2
    split at q2
    ·rename_i hc
     exact ⟨x,y,rfl,rfl,hc.1,hc.2,fun z hz=>qv I2.sB q2 rfl (qT _ _ _) hz⟩
    ·exact q2.elim
   | _=>exact q2.elim
  | _=>exact q1.elim
theorem vC (ha:Snd X Y a fa) (hb:Snd X Y b fb) (hb1:attributeBase a "split" X.env (eval a X.env)=eval a X.env:=by rfl) (hs:St1 X b:=by exact st1 rfl) (hz:(pa.endLine == p.line)=true:=by rfl):
  Snd X Y (.Call (.Attribute a "split" pa) [b] [] p) (smE QB fa fb):= .mk fun ρ=>
 PE.imp (JE PySem.F.plainAttrs_str PySem.F.slot_str_split PySem.F.type_str_split qQ (ha ρ) (zu (hb ρ) zU hs) hb1 (qR hs) hz hs rfl) fun σ H Q ⟨B,I,q⟩=>step I q fun t v H1 _ s1 r1 I1 q1=>by
  cases r1 with
  | str x=>
   refine ⟨rfl,step I1 q1 fun u v' H2 _ s2 r2 I2 q2=> ?_⟩
   cases r2 with
   | str y=>
    have q2:Po Y rC _ H2 (if x.length<=1000/\(y.length == 0)=false then .ok (.lst ((Txt.split x y).map T.str)) else .bad) Q:=q2
    split at q2
    ·rename_i hc
     exact ⟨x,y,rfl,rfl,hc.1,hc.2,fun z hz=>vi I2.sB q2 rfl (qU _) hz⟩
    ·exact q2.elim
   | _=>exact q2.elim
  | _=>exact q1.elim
end
end
def Jr (fa:En->R T) (fl fh:En->R (Option Int)):En->R T:=fun ρ=>(fa ρ).bind fun t=>(fl ρ).bind fun lo=>(fh ρ).bind fun hi=>match t with
 | .str x=>if x.length<=bnd then .ok (.str (Txt.slice x lo hi)) else .bad
 | _=> .bad
def U6 (i:Int):Str:=Str.ofString (toString i)
def txO:T->Option Str
 | .int i=>if i.natAbs < 1000000 then some (U6 i) else none
 | .str x=>if x.length<=1000000 then some x else none
 | _=>none
def txV:V->Option Str
 | .int i=>if i.natAbs < 1000000 then some (U6 i) else none
 | .str x=>if x.length<=1000000 then some x else none
 | _=>none
def Js (t:T):R T:=match txO t with
 | some x=> .ok (.str x)
 | none=> .bad
def f3T (z:Str) (t u:T):R T:=match txO t,txO u with
 | some x,some y=>if (x++z++y).length<=bnd then .ok (.str (x++z++y)) else .bad
 | _,_=> .bad
def f3E (z:Str) (fa fb:En->R T):En->R T:=fun ρ=>(fa ρ).bind fun t=>match txO t with
 | some x=>if (x++z).length<=bnd then (fb ρ).bind fun u=>f3T z t u else .bad
 | none=> .bad
def rdI (x:Str):Option Int:=((List.range 199).map fun (k:Nat)=>(k:Int) - 99).find? fun n=>U6 n == x
def QC:T->R T
 | .str x=>match rdI x with
  | some n=> .ok (.int n)
  | none=> .bad
 | _=> .bad
theorem JS {i:Int} (h:i.natAbs < 1000000):i.natAbs.log2 < 1920:=by
 by_cases h0:i.natAbs=0
 ·rw [h0]; decide
 ·have:i.natAbs.log2 < 20:=(Nat.log2_lt h0).mpr (by omega)
  omega
theorem qW:∀ k < 199,PySem.intText? (U6 ((k:Nat) - 99:Int))=some ((k:Nat) - 99:Int)/\(U6 ((k:Nat) - 99:Int)).length<=640:=by decide+kernel
section
variable {X:Cx} {Y:Fx} {a b c:Expr} {fa fb fc:En->R T} {pos p p1 p2 p3:Pos} {kc:Nat}
theorem qX:SlR X (fun x lo hi H Q=>∃ z,x= .str z/\z.length<=bnd/\Q (.str (Txt.slice z lo hi)) H):=by
 intro pins s σ H x v vl vu lo hi sl Q I rx hs pl pu h
 obtain ⟨z,rfl,hz,q⟩:=h
 obtain ⟨t,rfl⟩:=rx
 refine ⟨"str",_,F.slot_str_getitem.lookup,typeIs_str _ _ _, ?_⟩
 have fin:∀ t' k,EP X pins σ Q (.str (Txt.slice z lo hi) t') { s with toks:=k }:=fun t' k=>⟨.str _,H,I.tok k,⟨t',rfl⟩,q⟩
 have hl:=Nat.le_trans (Txt.slice_le z lo hi) (Z8 hz)
 cases pl with
 | none=>
  cases pu with
  | none=>exact wpAny_getItem_str_slice (l:=none) (u:=none) (st:=none) hs rfl (post_val_or_str ⟨hl,fin⟩)
  | int j tj=>exact wpAny_getItem_str_slice (l:=none) (u:=some (j,tj)) (st:=none) hs rfl (post_val_or_str ⟨hl,fin⟩)
 | int i ti=>
  cases pu with
  | none=>exact wpAny_getItem_str_slice (l:=some (i,ti)) (u:=none) (st:=none) hs rfl (post_val_or_str ⟨hl,fin⟩)
  | int j tj=>exact wpAny_getItem_str_slice (l:=some (i,ti)) (u:=some (j,tj)) (st:=none) hs rfl (post_val_or_str ⟨hl,fin⟩)
theorem um {lo hi:Option Expr} {fl fh:En->R (Option Int)} (ha:Snd X Y a fa) (hl:YI X Y lo fl) (hh:YI X Y hi fh):Snd X Y (.Subscript a (.Slice lo hi none p2) pos) (Jr fa fl fh):= .mk fun ρ=>
 PE.imp (Uj qX (ha ρ) (hl ρ) (hh ρ)) fun σ H Q ⟨B,I,q⟩=>step I q fun t v H1 _ s1 r1 I1 q1=>step I1 q1 fun l l' H2 _ s2 el I2 q2=>step I2 q2 fun h h' H3 _ s3 eh I3 q3=>by
  have el' :l' =l:=el
  have eh' :h' =h:=eh
  subst el' eh'
  cases r1 with
  | str x=>
   have q3:Po Y rC _ H3 (if x.length<=bnd then .ok (.str (Txt.slice x l' h')) else .bad) Q:=q3
   split at q3
   ·rename_i hb
    exact ⟨x,rfl,hb,po0 I3.sB q3 rfl (.str _)⟩
   ·exact q3.elim
  | _=>exact q3.elim
theorem UH:Zt X (.type "str") (fun xs H Q=>∃ v x,xs=[v]/\txV v=some x/\Q (.str x) H):=by
 intro pins s σ H xs us Q I r h
 obtain ⟨v,x,rfl,e,q⟩:=h
 obtain ⟨u,rfl,ru⟩:=Zz r
 unfold txV at e
 split at e
 ·split at e
  ·rename_i i hi
   obtain ⟨t,rfl⟩:=ru
   cases e
   exact P.str_of_int (JS hi) ⟨.str _,H,I.tok _,⟨_,rfl⟩,q⟩
  ·cases e
 ·split at e
  ·obtain ⟨t,rfl⟩:=ru
   cases e
   exact P.str_of_str ⟨.str _,H,I,⟨_,rfl⟩,q⟩
  ·cases e
 ·cases e
theorem uo {H:Hp} {v:V} {t:T} {x:Str} (r:Rep H v t) (e:txO t=some x):txV v=some x:=by
 cases r with
 | int i=>exact e
 | str y=>exact e
 | _=>cases e
theorem wQ (gl:Gl X "str") (mg:X.mg "str"=none) (ha:Snd X Y a fa) (hs:St1 X a:=by exact st1 rfl):Snd X Y (.Call (.Name "str" p) [a] [] pos) (ap1 Js fa):=
 WX UH (fun v t B H Q r sB q=>by
  unfold Js at q
  split at q
  ·rename_i x e
   exact ⟨v,x,rfl,uo r e,po0 sB q rfl (.str _)⟩
  ·exact q.elim) gl mg (PyProof.Rows.Boot.«str») ha hs
theorem JT:Zt X (.type "int") (fun xs H Q=>∃ x n,xs=[.str x]/\rdI x=some n/\Q (.int n) H):=by
 intro pins s σ H xs us Q I r h
 obtain ⟨x,n,rfl,e,q⟩:=h
 obtain ⟨u,rfl,ru⟩:=Zz r
 obtain ⟨t,rfl⟩:=ru
 have hm:=List.mem_of_find?_eq_some e
 have hx:U6 n=x:=by simpa using List.find?_some e
 obtain ⟨k,hk,rfl⟩:=List.mem_map.mp hm
 obtain ⟨h1,h2⟩:=qW k (List.mem_range.mp hk)
 subst hx
 exact PySem.W.KIN.call_text h1 h2 ⟨.int _,H,I.tok _,⟨_,rfl⟩,q⟩
theorem qY (gl:Gl X "int") (mg:X.mg "int"=none) (ha:Snd X Y a fa) (hs:St1 X a:=by exact st1 rfl):Snd X Y (.Call (.Name "int" p) [a] [] pos) (ap1 QC fa):=
 WX JT (fun v t B H Q r sB q=>by
  cases r with
  | str x=>
   have q:Po Y rC _ H (match rdI x with | some n=> .ok (.int n) | none=> .bad) Q:=q
   split at q
   ·rename_i n e
    exact ⟨x,n,rfl,e,po0 sB q rfl (.int _)⟩
   ·exact q.elim
  | _=>exact q.elim) gl mg (PyProof.Rows.Boot.«int») ha hs
theorem yd {prog:Program} {w:World} {A:Around} {E:Value->Shared->Prop} {s:Shared} {v:V} {u:Value} {x:Str} {Q:Value->Shared->Prop} (r:Z0 v u) (e:txV v=some x) (h:∀ t k,Q (.str x t) { s with toks:=k }):wpAny (model prog w) A (formatField u Str.empty) Q E s:=by
 unfold txV at e
 split at e
 ·split at e
  ·rename_i i hi
   obtain ⟨t,rfl⟩:=r
   cases e
   exact wpAny_formatField_int (JS hi) (h _ _)
  ·cases e
 ·split at e
  ·rename_i hb
   obtain ⟨t,rfl⟩:=r
   cases e
   exact wpAny_formatField_str (h _ s.toks) (h _ _) (by rw [sizeLine_eq]; omega)
  ·cases e
 ·cases e
theorem vD {z:Str} {ta tb:TE} (ha:PE X a ta) (hb:PE X b tb):PE X (.JoinedStr [.FormattedValue a (-1) none p1, .Constant (.str z) kc p2, .FormattedValue b (-1) none p3] pos)
  (fun σ H Q=>ta σ H fun v H1=>∃ x,txV v=some x/\(x++z).length<=sizeLine/\tb σ H1 fun v' H2=>∃ y,txV v' =some y/\(x++z++y).length<=sizeLine/\Q (.str (x++z++y)) H2):=by
 intro pins s σ H Q I h
 refine wpAny_JoinedStr ?_
 refine (show wpAny _ _ (eval (.FormattedValue a (-1) none p1) X.env) _ _ _ from ?_)
 refine wpAny_FormattedValue_plain (thn (ha pins s σ H _ I h) fun u s1 ⟨v,H1,I1,r1,x,ex,hz,q1⟩=>yd r1 ex fun t k=>⟨x,t,rfl, ?_, ?_⟩)
 ·rw [Str.empty_append]
  exact Nat.le_trans (by rw [Str.length_append]; omega) hz
 rw [Str.empty_append]
 have I1:=I1.tok k
 refine (show wpAny _ _ (eval (.Constant (.str z) kc p2) X.env) _ _ _ from ?_)
 refine thn (Ww pins _ σ H1 (fun v' H' =>v' =V.str z/\H' =H1) I1 ⟨rfl,rfl⟩) fun u2 s2 ⟨v2,H2,I2,r2,e1,e2⟩=> ?_
 subst e1 e2
 obtain ⟨t2,rfl⟩:=r2
 refine ⟨z,t2,rfl,hz, ?_⟩
 refine (show wpAny _ _ (eval (.FormattedValue b (-1) none p3) X.env) _ _ _ from ?_)
 refine wpAny_FormattedValue_plain (thn (hb pins s2 σ H2 _ I2 q1) fun u3 s3 ⟨v3,H3,I3,r3,y,ey,hz3,q3⟩=>yd r3 ey fun t k=>⟨y,t,rfl,hz3,hz3, ?_⟩)
 exact ⟨.str _,H3,(I3.tok k).tok _,⟨_,rfl⟩,q3⟩
theorem V6 {z:Str} (ha:Snd X Y a fa) (hb:Snd X Y b fb):Snd X Y (.JoinedStr [.FormattedValue a (-1) none p1, .Constant (.str z) kc p2, .FormattedValue b (-1) none p3] pos) (f3E z fa fb):= .mk fun ρ=>
 PE.imp (vD (ha ρ) (hb ρ)) fun σ H Q ⟨B,I,q⟩=>step I q fun t v H1 _ s1 r1 I1 q1=>by
  cases e:txO t with
  | none=>rw [e] at q1; exact q1.elim
  | some x=>
   rw [e] at q1
   have q1:Po Y rC _ H1 (if (x++z).length<=bnd then (fb ρ).bind fun u=>f3T z t u else .bad) Q:=q1
   split at q1
   ·rename_i hl
    refine ⟨x,uo r1 e,Z8 hl,step I1 q1 fun u v' H2 _ s2 r2 I2 q2=> ?_⟩
    unfold f3T at q2
    rw [e] at q2
    cases e2:txO u with
    | none=>rw [e2] at q2; exact q2.elim
    | some y=>
     rw [e2] at q2
     have q2:Po Y rC _ H2 (if (x++z++y).length<=bnd then .ok (.str (x++z++y)) else .bad) Q:=q2
     split at q2
     ·rename_i hl2
      exact ⟨y,uo r2 e2,Z8 hl2,po0 I2.sB q2 rfl (.str _)⟩
     ·exact q2.elim
   ·exact q1.elim
end
def vF (x:Str):It:=
 ⟨fun i _=>i < x.cps.size,fun i H v H' =>∃ p c,H p=none/\v= .ref p/\x.cps[i]? =some c/\H' =upd H p (.tup [.int i, .str ⟨#[c]⟩]),fun i _=>x.cps.size<=i⟩
theorem Yk (x:Str):strIterType x="str_ascii_iterator"\/strIterType x="str_iterator":=by
 unfold strIterType; split
 ·exact .inl rfl
 ·exact .inr rfl
theorem JU {prog:Program} {w:World} {A:Around} (hh:A.handled=none) (it:Addr) (x:Str) (t:Tok) {ty:String} (hty:ty="str_ascii_iterator"\/ty="str_iterator"):Draws prog w A it [it] x.cps.size (SignAt x) (fun i h=>h.IsStrIter it ty x t i):=by
 rcases hty with rfl | rfl
 ·exact Draws.strAscii hh it x t
 ·exact Draws.strWide hh it x t
theorem Wj {P:Program} {w:World} {K:PySem.W.Frag} {elts:List Expr} {kk:Nat} {pt:Pos} {x:Str} {tt:Tok} {ty:String} (hty:ty="str_ascii_iterator"\/ty="str_iterator") (e it:Addr) (hei:e ≠ it):
  Ue P w K (.Tuple elts kk pt) (vF x) [e,it] e (fun i h=>i<=x.cps.size/\(∃ old,IsEnum h e it i old)/\h.IsStrIter it ty x tt i) where
 mem:=by simp
 obj:=fun i h st b hb=>by
  obtain ⟨_,⟨old,he⟩,o,e1,c,d⟩:=st
  rcases List.mem_cons.mp hb with rfl | hb
  ·exact ⟨_,he,fun v z=>nomatch z⟩
  ·have z:b=it:=by simpa using hb
   subst z
   exact ⟨o,e1,fun v z=>by rw [d] at z; cases z⟩
 keep:=fun i h h' st k=>by
  obtain ⟨hn,⟨old,he⟩,o,e1,r⟩:=st
  exact ⟨hn,⟨old,k e (by simp) _ he⟩,o,k it (by simp) o e1,r⟩
 item:=by
  intro X hP hw hK hc i pins s σ H E I hf st hg
  subst hP hw hK
  obtain ⟨hin,⟨old,he⟩,hit⟩:=st
  have D:=JU (prog:=X.prog) (w:=X.w) (A:=X.A.in1) (I.ok.hd hc) it x tt hty
  have hef:e ∉ [it]:=fun z=>hei (List.mem_singleton.mp z)
  have WE:=WalksT.enumerateD D e hei hef (.head _)
  refine WE.item i s _ _ hg ⟨⟨old,he⟩,hit⟩ fun T vals h' tk hP hT hTup hM hk=> ?_
  obtain ⟨t,y,⟨c,u,hc',rfl⟩,rfl⟩:=hP
  refine ⟨.ref T,rfl, ?_⟩
  refine WE.go elts kk pt i T _ _ _ hM fun h2 hst2 hk2=> ?_
  have hTn:H T=none:=I.hok.fresh hT
  have hTne:∀ b∈[e,it],b ≠ T:=fun b hb z=>by
   obtain ⟨_,_,h3,h4⟩:=hM
   rcases List.mem_cons.mp hb with rfl | hb
   ·exact h3 z.symm
   ·have:b=it:=by simpa using hb
    subst this; exact h4 z.symm
  have uC:IsTup h2 T #[.int i t, .str ⟨#[c]⟩ u]:=by
   obtain ⟨o,eo,r⟩:=hTup
   exact ⟨o,hk2 T o (fun hb=>hTne T hb rfl) eo,r⟩
  refine ⟨.ref T,upd H T (.tup [.int i, .str ⟨#[c]⟩]),Inv.laidT (s:=s) (h' :=h2) (ch:=[e,it]) (tk:=tk) I hf (fun b o hb e=>hk2 b o hb (hk b o hb e)) (fun b o hb _=> ?_) hT ⟨by rw [sizeLine_eq]; show 2<=16777216; decide,[.int i t, .str ⟨#[c]⟩ u], .cons ⟨t,rfl⟩ (.cons ⟨u,rfl⟩ .nil),uC, .inl ⟨_,_,rfl⟩⟩,rfl,⟨T,c,hTn,rfl,hc',rfl⟩,⟨hg,hst2.1,hst2.2⟩,fun b hb=> ?_⟩
  ·obtain ⟨⟨old2,he2⟩,⟨o2,eo2,_⟩⟩:=hst2
   rcases List.mem_cons.mp hb with rfl | hb
   ·exact ⟨_,he2⟩
   ·have:b=it:=by simpa using hb
    subst this; exact ⟨o2,eo2⟩
  ·rw [zr (hTne b hb)]; exact (hf b hb).1
 done:=by
  intro X hP hw hK hc i pins s σ H E I hf st hg
  subst hP hw hK
  obtain ⟨hin,⟨old,he⟩,hit⟩:=st
  have D:=JU (prog:=X.prog) (w:=X.w) (A:=X.A.in1) (I.ok.hd hc) it x tt hty
  have hn:x.cps.size=i:=Nat.le_antisymm hg hin
  refine wpAny_pyNext_enum_endD D he (by rw [hn]; exact hit) fun h' hk=>⟨rfl, ?_⟩
  obtain ⟨f0,f1,f2,f3,f4,f5⟩:=hf it (by simp)
  exact I.turned (t' :=s.toks) (fun b o hb e=>hk b o hb e) f0 f1 f3 f4 f5
 self:=fun _ _ _ _ _ st h=>let ⟨_,⟨_,he⟩,_⟩:=st; wpAny_pyIter_enum he h
theorem UI {B1 H1:Hp} {x:Str}:rI B1 H1 (vF x) (ZC (Ze x)):=fun B2 H2 s1 s2=>by
 have hl:(ZC (Ze x)).length=x.cps.size:=by rw [ja]; unfold Ze; simp
 refine ⟨fun i hi=>by rw [hl] at hi; exact hi,fun i t v H3 e y=> ?_,fun i hi=>by rw [hl] at hi; exact hi⟩
 obtain ⟨p,c,hp,rfl,hc,rfl⟩:=y
 obtain ⟨t',et,rfl⟩:=JP e
 have hc' :x.cps.toList[i]? =some c:=by simpa using hc
 unfold Ze at et
 rw [List.getElem?_map,hc'] at et
 cases et
 exact ⟨zt.new hp _, .tup (j2 hp _) (.cons (.int _) (.cons (.str _) .nil))⟩
def uq (fa:En->R T):En->R (List T):=fun ρ=>(fa ρ).bind fun t=>match t with
 | .str x=> .ok (ZC (Ze x))
 | _=> .bad
section
variable {X:Cx} {Y:Fx} {a:Expr} {fa:En->R T} {pos p pt:Pos} {elts:List Expr} {kk:Nat}
theorem UJ {ta:TA} (hg:Gl X "enumerate") (hm:X.mg "enumerate"=none) (ha:PA X [a] ta) (hs:St1 X a:=by exact st1 rfl):
  PI X (.Tuple elts kk pt) (.Call (.Name "enumerate" p) [a] [] pos) (fun σ H R=>ta σ H fun vs H1=>∃ x,vs=[.str x]/\R (vF x) H1):=by
 intro pins s σ H R I h
 refine Call_ (jo I hg hm PyProof.Rows.Boot.«enumerate» (PyProof.Rows.callWith_type1 (thn (ha pos pins s σ H _ I h) fun us s1 ⟨vs,H1,I1,r1,q1⟩=> ?_) hs rfl))
 obtain ⟨x,e,q⟩:=q1
 subst e
 obtain ⟨u,rfl,ru⟩:=Zz r1
 obtain ⟨tt,rfl⟩:=ru
 refine call_enumerate_str fun h' he hit hsz hk=>wpAny_pyIter_enum he ?_
 have f:∀ b∈[s1.heap.objs.size+1,s1.heap.objs.size],wd X pins H1 b:=fun b hb=>by
  rcases List.mem_cons.mp hb with rfl | hb
  ·exact I1.fpOk (Nat.le_succ _) (I1.hok.fresh (Nat.le_succ _))
  ·have z:b=s1.heap.objs.size:=by simpa using hb
   subst z
   exact I1.fpOk (Nat.le_refl _) (I1.hok.fresh (Nat.le_refl _))
 exact ⟨s1.heap.objs.size+1,[s1.heap.objs.size+1,s1.heap.objs.size],_,_,H1,rfl,I1.kept (t' :=s1.toks) hk,Wj (Yk x) _ _ (Nat.succ_ne_self _),⟨Nat.zero_le _,⟨_,he⟩,hit⟩,f,q⟩
theorem Yl (hg:Gl X "enumerate") (hm:X.mg "enumerate"=none) (ha:Snd X Y a fa) (hs:St1 X a:=by exact st1 rfl):U3 X Y (.Tuple elts kk pt) (.Call (.Name "enumerate" p) [a] [] pos) (uq fa):= .mk fun ρ=>
 PI.imp (UJ hg hm (zu (ha ρ) zU hs) hs) fun σ H R ⟨B,I,q⟩=>step I q fun t v H1 _ s1 r1 I1 q1=>by
  cases r1 with
  | str x=>exact ⟨x,rfl,Zv I1 (show Po Y rI _ H1 (.ok (ZC (Ze x))) R from q1) UI⟩
  | _=>exact q1.elim
end
def qZ (fb:En->RS):En->RS:=fun ρ=>match fb ρ with
 | .ex _=> .bad
 | r=>r
theorem Ym {X:Cx} {tb:TS} {body:List Stmt} {hh:ExceptHandler} {hs:List ExceptHandler} {pos:Pos}
  (hb:∀ (pn:List (Addr×Obj)) (xe:Value->Shared->Prop),PSs (X.try' pn xe) body tb):PS X (.Try body (hh :: hs) [] [] pos) tb:=by
 intro pins s σ H D I hw
 have hr:=hb (X.pn++pins) (fun e s1=>wpAny (model X.prog X.w) X.A (noteFrame e X.env) (fun _ s2=>wpAny (model X.prog X.w) X.A (setFlight e none) (fun _ s3=>wpAny (model X.prog X.w) X.A (handleBy e X.env (hh :: hs)) (SP X pins D) X.xe s3) X.xe s2) X.xe s1) [] s σ H D (I.try' _) hw
 refine wpAny_Try_except (wpAny_mono hr (fun f s1 h1=> ?_) fun _ _ z=>z)
 have h1:=h1.untry
 cases f with
 | next=>exact wpAny_execs_nil h1
 | brk=>exact h1
 | cont=>exact h1
 | ret u=>exact h1
theorem Q0 {X:Cx} {Y:Fx} {fb:En->RS} {body:List Stmt} {hh:ExceptHandler} {hs:List ExceptHandler} {pos:Pos}
  (hb:∀ (pn:List (Addr×Obj)) (xe:Value->Shared->Prop),u5 (X.try' pn xe) Y body fb):wL X Y (.Try body (hh :: hs) [] [] pos) (qZ fb):= .mk fun ρ=>
 PS.imp (Ym (tb:=tSS Y fb ρ) fun pn xe=>hb pn xe ρ) fun D σ H ⟨B,I,q⟩=>⟨B,I,by
  unfold qZ at q
  cases e:fb ρ with
  | ex c=>rw [e] at q; exact q.elim
  | _=>rw [e] at q; exact q⟩
end PV
namespace G
open PySem PySem.Spec PyProof.Rows L2 PV
def b_u:En->RS:=
  zF (ifS (zY ltC (vB 1) (ap1 ZP (vB 0))) (zO (zc ixT (vE 0) (vE 1))) (nxS))
  (zF (ifS (zY eqC (vB 0) (Wt (ze))) (zO (cE (.int 0))) (nxS))
  (zO (zc zl (zc Zn (zc ixT (vE 0) (zc JJ (vE 1) (ap1 ZP (vB 0)))) (cE (.int 31))) (vE 1))))
def f_u:List T->R T:=fun ts=>zk (b_u  (en0 2 ts))
def b_5 (c_u:List T->R T):En->RS:=
  zF (Z5 3 (zc JJ (zc Zn (zc zl (za 2 c_u (z4 (vE 0) (z4 (vE 1) (ze)))) (zc Zn (cE (.int 6151)) (zc zl (vE 1) (cE (.int 1))))) (cE (.int 40692))) (cE (.int 2147483399))))
  (zO (zc JJ (zc JJ (zc zl (zc Zn (vE 3) (vE 3)) (zc Wc (vE 3) (cE (.int 31)))) (cE (.int 2147483629))) (vE 2)))
def f_5:List T->R T:=fun ts=>zk (b_5 (f_u) (en0 4 ts))
def b_n (c_5:List T->R T):En->RS:=
  zF (Z5 2 (cE (.str "abcdefghijklmnopqrstuvwxyz")))
  (zF (ifS (zY gtC (za 3 c_5 (z4 (vE 0) (z4 (vE 1) (z4 (cE (.int 6)) (ze))))) (cE (.int 0))) (zO (zc ixT (Wt (z4 (cE (.str "a")) (z4 (cE (.str "b")) (z4 (cE (.str "ab")) (z4 (cE (.str "cab")) (ze)))))) (za 3 c_5 (z4 (vE 0) (z4 (zc zl (vE 1) (cE (.int 1))) (z4 (cE (.int 4)) (ze))))))) (nxS))
  (zO (ap1 (wn "") (Zd (j5 (zc zl (cE (.int 1)) (za 3 c_5 (z4 (vE 0) (z4 (zc zl (vE 1) (cE (.int 1))) (z4 (cE (.int 3)) (ze))))))) (Za 0) (Zf) (zc ixT (vE 3) (za 3 c_5 (z4 (vE 1) (z4 (zc zl (zc zl (vE 2) (cE (.int 2))) (vE 0)) (z4 (cE (.int 26)) (ze)))))) 1 [0,1,2]))))
def f_n:List T->R T:=fun ts=>zk (b_n (f_5) (en0 3 ts))
def b_k (c_5:List T->R T) (c_n:List T->R T):En->RS:=
  zF (ifS (zY gtC (za 3 c_5 (z4 (vE 0) (z4 (vE 1) (z4 (cE (.int 3)) (ze))))) (cE (.int 0))) (zF (Z5 2 (zc jr (za 3 c_5 (z4 (vE 0) (z4 (zc zl (vE 1) (cE (.int 1))) (z4 (cE (.int 7)) (ze))))) (cE (.int 3))))
  (zF (ifS (zY eqC (za 3 c_5 (z4 (vE 0) (z4 (zc zl (vE 1) (cE (.int 3))) (z4 (cE (.int 8)) (ze))))) (cE (.int 0))) (Z5 2 (zc ixT (Wt (z4 (Jq (cE (.int 20))) (z4 (cE (.int 17)) (z4 (cE (.int 20)) (ze))))) (za 3 c_5 (z4 (vE 0) (z4 (zc zl (vE 1) (cE (.int 4))) (z4 (cE (.int 3)) (ze))))))) (nxS))
  (zO (ZJ (z4 (cE (.str "whole")) (z4 (vE 2) (z4 (zc u0 (cE (.int 20)) (zc zl (vE 2) (za 3 c_5 (z4 (vE 0) (z4 (zc zl (vE 1) (cE (.int 2))) (z4 (cE (.int 4)) (ze))))))) (ze)))))))) (nxS))
  (zF (qC 3 (ze))
  (zF (U4 (j5 (zc zl (cE (.int 1)) (za 3 c_5 (z4 (vE 0) (z4 (zc zl (vE 1) (cE (.int 1))) (z4 (cE (.int 4)) (ze))))))) (Za 4) (zF (Z5 5 (za 2 c_n (z4 (vE 0) (z4 (zc zl (zc zl (vE 1) (cE (.int 5))) (zc Zn (cE (.int 5)) (vE 4))) (ze)))))
  (ifS (zY Ut (vB 5) (vB 3)) (Ux 3 (vE 5)) (nxS))))
  (zO (ZJ (z4 (cE (.str "pick")) (z4 (ap1 Y5 (Zd (Yg (vE 3)) (Z1 0 1) (Zf) (ZJ (z4 (vE 1) (z4 (zc zl (cE (.int 1)) (za 3 c_5 (z4 (vE 2) (z4 (zc zl (zc zl (vE 3) (cE (.int 30))) (vE 0)) (z4 (cE (.int 20)) (ze)))))) (ze)))) 2 [0,1])) (ze)))))))
def f_k:List T->R T:=fun ts=>zk (b_k (f_5) (f_n) (en0 6 ts))
def b_1 (c_5:List T->R T) (c_k:List T->R T) (c_1:List T->R T):En->RS:=
  zF (Z5 3 (za 3 c_5 (z4 (vE 0) (z4 (vE 1) (z4 (cE (.int 5)) (ze))))))
  (zF (ifS (orT (zY eqC (vB 2) (cE (.int 1))) (zY ltC (vB 3) (cE (.int 2)))) (zO (za 2 c_k (z4 (vE 0) (z4 (zc zl (vE 1) (cE (.int 1))) (ze))))) (nxS))
  (zF (ifS (zY ltC (vB 3) (cE (.int 4))) (zF (Z5 4 (Zd (j5 (zc zl (cE (.int 1)) (za 3 c_5 (z4 (vE 0) (z4 (zc zl (vE 1) (cE (.int 1))) (z4 (cE (.int 3)) (ze))))))) (Za 0) (Zf) (za 3 c_1 (z4 (vE 1) (z4 (zc zl (zc zl (zc Zn (cE (.int 3)) (vE 2)) (cE (.int 40))) (zc Zn (cE (.int 50)) (vE 0))) (z4 (zc jr (vE 3) (cE (.int 1))) (ze))))) 1 [0,1,2]))
  (zO (ZJ (z4 (cE (.str "row")) (z4 (ap1 Y5 (vE 4)) (ze)))))) (nxS))
  (zF (Z5 5 (za 3 c_5 (z4 (vE 0) (z4 (zc zl (vE 1) (cE (.int 1))) (z4 (cE (.int 3)) (ze))))))
  (zO (ZJ (z4 (cE (.str "many")) (z4 (za 3 c_1 (z4 (vE 0) (z4 (zc zl (zc Zn (cE (.int 3)) (vE 1)) (cE (.int 40))) (z4 (zc jr (vE 2) (cE (.int 1))) (ze))))) (z4 (vE 5) (z4 (zc u0 (cE (.int 3)) (zc zl (vE 5) (za 3 c_5 (z4 (vE 0) (z4 (zc zl (vE 1) (cE (.int 2))) (z4 (cE (.int 3)) (ze))))))) (ze))))))))))
def S_1:Nat->Nat->List T->R T
 | 0,_=>fun _=> .bad
 | n+1,_=>fun ts=>zk (b_1 (f_5) (f_k) (S_1 n 0) (en0 6 ts))
abbrev f_1 (n:Nat):List T->R T:=S_1 n 0
def b_7 (c_7:List T->R T):En->RS:=
  zF (ifS (zY eqC (zc ixT (vE 0) (cE (.int 0))) (cE (.str "pick"))) (zO (zc zl (zc zl (cE (.str "{")) (ap1 (wn " ") (Zd (jH (zc ixT (vE 0) (cE (.int 1)))) (Z1 0 1) (Zf) (zc zl (zc zl (vE 0) (cE (.str ":"))) (ap1 Js (vE 1))) 2 []))) (cE (.str "}")))) (nxS))
  (zF (ifS (zY eqC (zc ixT (vE 0) (cE (.int 0))) (cE (.str "row"))) (zO (zc zl (zc zl (cE (.str "(")) (ap1 (wn " ") (Zd (jH (zc ixT (vE 0) (cE (.int 1)))) (Za 0) (Zf) (za 1 c_7 (z4 (vE 0) (ze))) 1 []))) (cE (.str ")")))) (nxS))
  (zF (Z5 1 (ifE (zY eqC (zc ixT (vE 0) (cE (.int 0))) (cE (.str "many"))) (zc zl (zc zl (cE (.str "[")) (za 1 c_7 (z4 (zc ixT (vE 0) (cE (.int 1))) (ze)))) (cE (.str "]"))) (cE (.str ""))))
  (zO (zc zl (zc zl (zc zl (vE 1) (ap1 Js (zc ixT (vE 0) (Jq (cE (.int 2)))))) (cE (.str ".."))) (ap1 Js (zc ixT (vE 0) (Jq (cE (.int 1)))))))))
def S_7:Nat->Nat->List T->R T
 | 0,_=>fun _=> .bad
 | n+1,_=>fun ts=>zk (b_7 (S_7 n 0) (en0 2 ts))
abbrev f_7 (n:Nat):List T->R T:=S_7 n 0
def b_v:En->RS:=
  ifS (wk (jL (ap1 (UW "str") (vB 0)))) (U5) (nxS)
def f_v:List T->R T:=fun ts=>zk (b_v  (en0 1 ts))
def b_f:En->RS:=
  zF (qC 2 (ze))
  (zF (Z5 3 (cE (.int 0)))
  (zF (Z5 4 (cE (.int 0)))
  (zF (U4 (uq (vE 0)) (Z1 5 6) (zF (ifS (zY wP (vB 6) (cE (.str "([{"))) (Z5 4 (zc zl (vE 4) (cE (.int 1)))) (nxS))
  (zF (ifS (zY wP (vB 6) (cE (.str ")]}"))) (Z5 4 (zc jr (vE 4) (cE (.int 1)))) (nxS))
  (ifS (qz (zY eqC (vB 4) (cE (.int 0))) (jL (UF (vE 0) (vE 1) (vE 5)))) (zF (Ux 2 (Jr (vE 0) (zZ (vE 3)) (zZ (vE 5))))
  (Z5 3 (zc zl (vE 5) (ap1 ZP (vB 1))))) (nxS)))))
  (zF (Ux 2 (Jr (vE 0) (zZ (vE 3)) (noO)))
  (zO (vE 2))))))
def f_f:List T->R T:=fun ts=>zk (b_f  (en0 7 ts))
def b_b:En->RS:=
  zF (ifS (zY gtC (ap1 ZP (vB 0)) (cE (.int 3))) (U5) (nxS))
  (zF (qZ (Z5 1 (ap1 QC (vE 0))))
  (zF (ifS (zY neC (ap1 Js (vE 1)) (vB 0)) (U5) (nxS))
  (zO (vE 1))))
def f_b:List T->R T:=fun ts=>zk (b_b  (en0 2 ts))
def b_i (c_b:List T->R T):En->RS:=
  zF (Z5 1 (smE YJ (vE 0) (cE (.str ".."))))
  (zO (ZJ (z4 (za 1 c_b (z4 (zc ixT (vE 1) (cE (.int 0))) (ze))) (z4 (za 1 c_b (z4 (zc ixT (vE 1) (cE (.int 2))) (ze))) (ze)))))
def f_i:List T->R T:=fun ts=>zk (b_i (f_b) (en0 2 ts))
def b_g:En->RS:=
  zF (ifS (orT (wk (jL (smE yb (vE 0) (vE 1)))) (wk (jL (smE QA (vE 0) (vE 2))))) (U5) (nxS))
  (zO (Jr (vE 0) (zZ (ap1 ZP (vB 1))) (zZ (Jq (ap1 ZP (vB 2))))))
def f_g:List T->R T:=fun ts=>zk (b_g  (en0 3 ts))
def b_o (c_b:List T->R T):En->RS:=
  zF (Z5 1 (smE YJ (vE 0) (cE (.str ":"))))
  (zO (ZJ (z4 (zc ixT (vE 1) (cE (.int 0))) (z4 (za 1 c_b (z4 (zc ixT (vE 1) (cE (.int 2))) (ze))) (ze)))))
def f_o:List T->R T:=fun ts=>zk (b_o (f_b) (en0 2 ts))
def b_8 (c_g:List T->R T) (c_f:List T->R T) (c_8:List T->R T) (c_o:List T->R T) (c_i:List T->R T):En->RS:=
  zF (ifS (zY eqC (vB 1) (cE (.int 0))) (U5) (nxS))
  (zF (ifS (jL (smE yb (vE 0) (cE (.str "{")))) (zO (ZJ (z4 (cE (.str "pick")) (z4 (ap1 Y5 (Zd (jH (smE QB (za 3 c_g (z4 (vE 0) (z4 (cE (.str "{")) (z4 (cE (.str "}")) (ze))))) (cE (.str " ")))) (Za 0) (Zf) (za 1 c_o (z4 (vE 0) (ze))) 1 [])) (ze))))) (nxS))
  (zF (ifS (jL (smE yb (vE 0) (cE (.str "(")))) (zF (Z5 2 (za 2 c_f (z4 (za 3 c_g (z4 (vE 0) (z4 (cE (.str "(")) (z4 (cE (.str ")")) (ze))))) (z4 (cE (.str " ")) (ze)))))
  (zO (ZJ (z4 (cE (.str "row")) (z4 (ap1 Y5 (Zd (jH (vE 2)) (Za 0) (Zf) (za 2 c_8 (z4 (vE 0) (z4 (zc jr (vE 1) (cE (.int 1))) (ze)))) 1 [1])) (ze)))))) (nxS))
  (zF (ifS (jL (smE yb (vE 0) (cE (.str "[")))) (zF (Z5 3 (smE vy (vE 0) (cE (.str "]"))))
  (zO (zc zl (ZJ (z4 (cE (.str "many")) (z4 (za 2 c_8 (z4 (Jr (zc ixT (vE 3) (cE (.int 0))) (zZ (cE (.int 1))) (noO)) (z4 (zc jr (vE 1) (cE (.int 1))) (ze)))) (ze)))) (za 1 c_i (z4 (zc ixT (vE 3) (cE (.int 2))) (ze)))))) (nxS))
  (zO (zc zl (ZJ (z4 (cE (.str "whole")) (ze))) (za 1 c_i (z4 (vE 0) (ze))))))))
def S_8:Nat->Nat->List T->R T
 | 0,_=>fun _=> .bad
 | n+1,_=>fun ts=>zk (b_8 (f_g) (f_f) (S_8 n 0) (f_o) (f_i) (en0 4 ts))
abbrev f_8 (n:Nat):List T->R T:=S_8 n 0
def b_d:En->RS:=
  zO (wj (ap1 (UW "int") (vB 0)) (V5 (ap1 (UW "bool") (vB 0))))
def f_d:List T->R T:=fun ts=>zk (b_d  (en0 1 ts))
def b_s (c_d:List T->R T):En->RS:=
  zO (wj (za 1 c_d (z4 (vE 0) (ze))) (wj (za 1 c_d (z4 (vE 1) (ze))) (V4 leC leC leC (vB 2) (vB 0) (vB 1) (vB 3))))
def f_s:List T->R T:=fun ts=>zk (b_s (f_d) (en0 4 ts))
def b_a:En->RS:=
  zO (wj (ap1 (UW "tuple") (vB 0)) (chE leC leC (vB 1) (ap1 ZP (vB 0)) (vB 2)))
def f_a:List T->R T:=fun ts=>zk (b_a  (en0 3 ts))
def b_q:En->RS:=
  zF (ifS (orT (wk (jL (ap1 (UW "str") (vB 0)))) (wk (chT leC leC (cE (.int 1)) (ap1 ZP (vB 0)) (cE (.int 3))))) (zO (cE (.bl false))) (nxS))
  (zO (ap1 Y7 (Zd (jH (vE 0)) (Za 0) (Zf) (chE leC leC (cE (.str "a")) (vB 0) (cE (.str "z"))) 1 [])))
def f_q:List T->R T:=fun ts=>zk (b_q  (en0 1 ts))
def b_p (c_d:List T->R T) (c_a:List T->R T) (c_q:List T->R T):En->RS:=
  zO (wj (za 3 c_a (z4 (vE 0) (z4 (cE (.int 2)) (z4 (cE (.int 2)) (ze))))) (wj (za 1 c_q (z4 (zc ixT (vE 0) (cE (.int 0))) (ze))) (wj (za 1 c_d (z4 (zc ixT (vE 0) (cE (.int 1))) (ze))) (chE leC leC (cE (.int 1)) (zc ixT (vE 0) (cE (.int 1))) (cE (.int 20))))))
def f_p:List T->R T:=fun ts=>zk (b_p (f_d) (f_a) (f_q) (en0 1 ts))
def b_m (c_a:List T->R T) (c_p:List T->R T):En->RS:=
  zF (ifS (orT (wk (jL (za 3 c_a (z4 (vE 0) (z4 (cE (.int 1)) (z4 (cE (.int 4)) (ze))))))) (wk (jL (ap1 Y7 (Zd (jH (vE 0)) (Za 0) (Zf) (za 1 c_p (z4 (vE 0) (ze))) 1 []))))) (zO (cE (.bl false))) (nxS))
  (zF (Z5 1 (Zd (jH (vE 0)) (Za 0) (Zf) (zc ixT (vE 0) (cE (.int 0))) 1 []))
  (zO (Uq eqC (ap1 UE (vB 1)) (ap1 ZP (vB 1)))))
def f_m:List T->R T:=fun ts=>zk (b_m (f_a) (f_p) (en0 2 ts))
def b_6 (c_s:List T->R T) (c_6:List T->R T) (c_m:List T->R T) (c_t:List T->R T):En->RS:=
  zF (ifS (orT (zY eqC (vB 1) (cE (.int 0))) (orT (wk (jL (ap1 (UW "tuple") (vB 0)))) (zY eqC (ap1 ZP (vB 0)) (cE (.int 0))))) (zO (cE (.bl false))) (nxS))
  (zF (ifS (zY eqC (zc ixT (vE 0) (cE (.int 0))) (cE (.str "whole"))) (zO (wj (Uq eqC (ap1 ZP (vB 0)) (cE (.int 3))) (za 4 c_s (z4 (zc ixT (vE 0) (cE (.int 1))) (z4 (zc ixT (vE 0) (cE (.int 2))) (z4 (Jq (cE (.int 20))) (z4 (cE (.int 20)) (ze)))))))) (nxS))
  (zF (ifS (zY eqC (zc ixT (vE 0) (cE (.int 0))) (cE (.str "pick"))) (zO (wj (Uq eqC (ap1 ZP (vB 0)) (cE (.int 2))) (za 1 c_m (z4 (zc ixT (vE 0) (cE (.int 1))) (ze))))) (nxS))
  (zF (ifS (zY eqC (zc ixT (vE 0) (cE (.int 0))) (cE (.str "row"))) (zO (wj (Uq eqC (ap1 ZP (vB 0)) (cE (.int 2))) (za 2 c_t (z4 (zc ixT (vE 0) (cE (.int 1))) (z4 (zc jr (vE 1) (cE (.int 1))) (ze)))))) (nxS))
  (zF (ifS (zY eqC (zc ixT (vE 0) (cE (.int 0))) (cE (.str "many"))) (zO (wj (Uq eqC (ap1 ZP (vB 0)) (cE (.int 4))) (wj (za 4 c_s (z4 (zc ixT (vE 0) (cE (.int 2))) (z4 (zc ixT (vE 0) (cE (.int 3))) (z4 (cE (.int 0)) (z4 (cE (.int 3)) (ze)))))) (za 2 c_6 (z4 (zc ixT (vE 0) (cE (.int 1))) (z4 (zc jr (vE 1) (cE (.int 1))) (ze))))))) (nxS))
  (zO (cE (.bl false)))))))
def b_t (c_a:List T->R T) (c_6:List T->R T):En->RS:=
  zO (wj (za 3 c_a (z4 (vE 0) (z4 (cE (.int 1)) (z4 (cE (.int 3)) (ze))))) (ap1 Y7 (Zd (jH (vE 0)) (Za 0) (Zf) (za 2 c_6 (z4 (vE 0) (z4 (vE 1) (ze)))) 1 [1])))
def S_6:Nat->Nat->List T->R T
 | 0,_=>fun _=> .bad
 | n+1,0=>fun ts=>zk (b_6 (f_s) (S_6 n 0) (f_m) (S_6 n 1) (en0 2 ts))
 | n+1,_=>fun ts=>zk (b_t (f_a) (S_6 n 0) (en0 2 ts))
abbrev f_6 (n:Nat):List T->R T:=S_6 n 0
abbrev f_t (n:Nat):List T->R T:=S_6 n 1
def b_2 (c_6:List T->R T):En->RS:=
  zO (za 2 c_6 (z4 (vE 0) (z4 (cE (.int 3)) (ze))))
def f_2:List T->R T:=fun ts=>zk (b_2 (f_6 20) (en0 1 ts))
def b_c (c_2:List T->R T) (c_v:List T->R T) (c_8:List T->R T):En->RS:=
  zF (Wi (za 1 c_v (z4 (vE 0) (ze))))
  (zF (Z5 1 (za 2 c_8 (z4 (vE 0) (z4 (cE (.int 3)) (ze)))))
  (zF (ifS (wk (jL (za 1 c_2 (z4 (vE 1) (ze))))) (U5) (nxS))
  (zO (vE 1))))
def f_c:List T->R T:=fun ts=>zk (b_c (f_2) (f_v) (f_8 20) (en0 2 ts))
def b_h (c_2:List T->R T):En->RS:=
  ifS (wk (jL (za 1 c_2 (z4 (vE 0) (ze))))) (U5) (nxS)
def f_h:List T->R T:=fun ts=>zk (b_h (f_2) (en0 1 ts))
def b_l:En->RS:=
  zO (f3E ".." (vE 0) (vE 1))
def f_l:List T->R T:=fun ts=>zk (b_l  (en0 2 ts))
def b_9 (c_9:List T->R T) (c_l:List T->R T):En->RS:=
  zF (ifS (zY eqC (zc ixT (vE 0) (cE (.int 0))) (cE (.str "whole"))) (zO (za 2 c_l (z4 (zc ixT (vE 0) (cE (.int 1))) (z4 (zc ixT (vE 0) (cE (.int 2))) (ze))))) (nxS))
  (zF (ifS (zY eqC (zc ixT (vE 0) (cE (.int 0))) (cE (.str "pick"))) (zO (zc zl (zc zl (cE (.str "{")) (ap1 (wn " ") (Zd (jH (zc ixT (vE 0) (cE (.int 1)))) (Z1 0 1) (Zf) (f3E ":" (vE 0) (vE 1)) 2 []))) (cE (.str "}")))) (nxS))
  (zF (ifS (zY eqC (zc ixT (vE 0) (cE (.int 0))) (cE (.str "row"))) (zO (zc zl (zc zl (cE (.str "(")) (ap1 (wn " ") (Zd (jH (zc ixT (vE 0) (cE (.int 1)))) (Za 0) (Zf) (za 1 c_9 (z4 (vE 0) (ze))) 1 []))) (cE (.str ")")))) (nxS))
  (zO (zc zl (zc zl (zc zl (cE (.str "[")) (za 1 c_9 (z4 (zc ixT (vE 0) (cE (.int 1))) (ze)))) (cE (.str "]"))) (za 2 c_l (z4 (zc ixT (vE 0) (cE (.int 2))) (z4 (zc ixT (vE 0) (cE (.int 3))) (ze))))))))
def S_9:Nat->Nat->List T->R T
 | 0,_=>fun _=> .bad
 | n+1,_=>fun ts=>zk (b_9 (S_9 n 0) (f_l) (en0 1 ts))
abbrev f_9 (n:Nat):List T->R T:=S_9 n 0
def b_3 (c_h:List T->R T) (c_9:List T->R T):En->RS:=
  zF (Wi (za 1 c_h (z4 (vE 0) (ze))))
  (zO (za 1 c_9 (z4 (vE 0) (ze))))
def f_3:List T->R T:=fun ts=>zk (b_3 (f_h) (f_9 20) (en0 1 ts))
def b_4 (c_e:List T->R T) (c_r:List T->R T):En->RS:=
  zF (ifS (zY eqC (zc ixT (vE 0) (cE (.int 0))) (cE (.str "whole"))) (zO (zc zl (zc jr (zc ixT (vE 0) (cE (.int 2))) (zc ixT (vE 0) (cE (.int 1)))) (cE (.int 1)))) (nxS))
  (zF (ifS (zY eqC (zc ixT (vE 0) (cE (.int 0))) (cE (.str "pick"))) (zO (ap1 ZP (zc ixT (vE 0) (cE (.int 1))))) (nxS))
  (zF (ifS (zY eqC (zc ixT (vE 0) (cE (.int 0))) (cE (.str "row"))) (zO (za 1 c_e (z4 (zc ixT (vE 0) (cE (.int 1))) (ze)))) (nxS))
  (zO (za 2 c_r (z4 (vE 0) (z4 (zc zl (zc ixT (vE 0) (cE (.int 3))) (cE (.int 1))) (ze)))))))
def b_e (c_4:List T->R T):En->RS:=
  zF (Z5 1 (cE (.int 1)))
  (zF (U4 (jH (vE 0)) (Za 2) (Z5 1 (zc Zn (vE 1) (za 1 c_4 (z4 (vE 2) (ze))))))
  (zO (vE 1)))
def b_r (c_e:List T->R T):En->RS:=
  zO (ap1 Qz (Zd (u8 (zc ixT (vE 0) (cE (.int 2))) (vE 1)) (Za 0) (Zf) (za 1 c_e (z4 (zc Zn (Wt (z4 (zc ixT (vE 1) (cE (.int 1))) (ze))) (vE 0)) (ze))) 1 [0]))
def S_4:Nat->Nat->List T->R T
 | 0,_=>fun _=> .bad
 | n+1,0=>fun ts=>zk (b_4 (S_4 n 1) (S_4 n 2) (en0 1 ts))
 | n+1,1=>fun ts=>zk (b_e (S_4 n 0) (en0 3 ts))
 | n+1,_=>fun ts=>zk (b_r (S_4 n 1) (en0 2 ts))
abbrev f_4 (n:Nat):List T->R T:=S_4 n 0
abbrev f_e (n:Nat):List T->R T:=S_4 n 1
abbrev f_r (n:Nat):List T->R T:=S_4 n 2
def b_j (c_h:List T->R T) (c_4:List T->R T):En->RS:=
  zF (Wi (za 1 c_h (z4 (vE 0) (ze))))
  (zO (za 1 c_4 (z4 (vE 0) (ze))))
def f_j:List T->R T:=fun ts=>zk (b_j (f_h) (f_4 20) (en0 1 ts))
def b_0 (c_j:List T->R T) (c_1:List T->R T) (c_3:List T->R T) (c_c:List T->R T) (c_7:List T->R T):En->RS:=
  zF (U4 (j5 (cE (.int 4))) (Za 1) (zF (Z5 2 (za 3 c_1 (z4 (vE 0) (z4 (zc zl (cE (.int 10)) (zc Zn (cE (.int 1000)) (vE 1))) (z4 (cE (.int 3)) (ze))))))
  (zF (Z5 3 (za 1 c_7 (z4 (vE 2) (ze))))
  (ifS (orT (zY neC (za 1 c_3 (z4 (vE 2) (ze))) (vB 3)) (orT (zY neC (za 1 c_c (z4 (vE 3) (ze))) (vB 2)) (zY neC (za 1 c_j (z4 (za 1 c_c (z4 (vE 3) (ze))) (ze))) (za 1 c_j (z4 (vE 2) (ze)))))) (zO (cE (.bl false))) (nxS)))))
  (zO (Uq eqC (za 1 c_c (z4 (Jr (cE (.str "[[[0..0]0..0]0..0]0..0")) (zZ (cE (.int 1))) (zZ (Jq (cE (.int 5))))) (ze))) (ZJ (z4 (cE (.str "many")) (z4 (ZJ (z4 (cE (.str "many")) (z4 (ZJ (z4 (cE (.str "whole")) (z4 (cE (.int 0)) (z4 (cE (.int 0)) (ze))))) (z4 (cE (.int 0)) (z4 (cE (.int 0)) (ze)))))) (z4 (cE (.int 0)) (z4 (cE (.int 0)) (ze))))))))
def f_0:List T->R T:=fun ts=>zk (b_0 (f_j) (f_1 8) (f_3) (f_c) (f_7 8) (en0 4 ts))
end G
namespace G
open PySem L2 PV
abbrev scr (ns:List Int):T:= .fz (ns.map T.int)
theorem Yn (ns:List Int) (k:Int) (h0:0<=k):∃ c,f_u [scr ns, .int k]= .ok (.int c):=by
 have e1:f_u [scr ns, .int k]=zk (if decide (k < ((ns.map T.int).length:Int))=true then (atT (ns.map T.int) k).s (fun t=> .rt t) else
   match (eqC (scr ns) (.lst [])).s (fun b=>if b=true then RS.rt (.int 0) else .nx [.vl (scr ns), .vl (.int k)]) with
   | .nx ρ' =>zO (zc zl (zc Zn (zc ixT (vE 0) (zc JJ (vE 1) (ap1 ZP (vB 0)))) (cE (.int 31))) (vE 1)) ρ'
   | r=>r):=by
  show zk (match (if decide (k < ((ns.map T.int).length:Int))=true then (atT (ns.map T.int) k).s (fun t=>RS.rt t) else .nx [.vl (scr ns), .vl (.int k)]) with
   | .nx ρ' =>_
   | r=>r)=_
  cases decide (k < ((ns.map T.int).length:Int)) with
  | true=>
   rw [if_pos rfl,if_pos rfl]
   unfold atT
   cases atI (ns.map T.int) k <;> rfl
  | false=>rfl
 rw [e1,List.length_map]
 by_cases hk:k < (ns.length:Int)
 ·obtain ⟨v,hv⟩:∃ v,ns[k.toNat]? =some v:=⟨ns[k.toNat]'(by omega),List.getElem?_eq_getElem (by omega)⟩
  have ea:atI (ns.map T.int) k=some (.int v):=by
   have:k=((k.toNat:Nat):Int):=by omega
   rw [this]
   exact j1 (by rw [List.getElem?_map,hv]; rfl)
  rw [decide_eq_true hk,if_pos rfl]
  exact ⟨v,by unfold atT; rw [ea]; rfl⟩
 ·rw [decide_eq_false hk,if_neg Bool.false_ne_true]
  cases ns with
  | nil=>exact ⟨0,rfl⟩
  | cons x xs=>
   have hm0:=Int.emod_nonneg k (show (((x :: xs).length:Nat):Int) ≠ 0 by simp only [List.length_cons]; omega)
   have hm1:=Int.emod_lt_of_pos k (show (0:Int) < (((x :: xs).length:Nat):Int) by simp only [List.length_cons]; omega)
   obtain ⟨v,hv⟩:∃ v,(x :: xs)[(k % (((x :: xs).length:Nat):Int)).toNat]? =some v:=⟨_,List.getElem?_eq_getElem (by omega)⟩
   have ea:atI ((x :: xs).map T.int) (k % (((x :: xs).length:Nat):Int))=some (.int v):=by
    have e:k % (((x :: xs).length:Nat):Int)=(((k % (((x :: xs).length:Nat):Int)).toNat:Nat):Int):=by omega
    rw [e]
    exact j1 (by rw [List.getElem?_map,hv]; rfl)
   have cm:Jp v 31:= .inr ⟨by decide,by decide⟩
   have hp:(0:Int) < (((x :: xs).map T.int).length:Int):=by simp only [List.length_map,List.length_cons]; omega
   refine ⟨v*31+k, ?_⟩
   show zk (((((if 0 < (((x :: xs).map T.int).length:Int) then R.ok (T.int (k % (((x :: xs).map T.int).length:Int))) else .bad).bind fun y=>ixT (scr (x :: xs)) y).bind fun a=>Zn a (.int 31)).bind fun a=>zl a (.int k)).s fun t=> .rt t)=_
   rw [if_pos hp]
   show zk ((((atT ((x :: xs).map T.int) (k % (((x :: xs).map T.int).length:Int))).bind fun a=>Zn a (.int 31)).bind fun a=>zl a (.int k)).s fun t=> .rt t)=_
   rw [List.length_map]
   unfold atT
   rw [ea]
   show zk ((((if Jp v 31 then R.ok (T.int (v*31)) else .bad)).bind fun a=>zl a (.int k)).s fun t=> .rt t)=_
   rw [if_pos cm]
   rfl
theorem zT (ns:List Int) (k m:Int) (h0:0<=k) (hm:0 < m):∃ p,f_5 [scr ns, .int k, .int m]= .ok (.int p)/\0<=p/\p < m:=by
 obtain ⟨c,hc⟩:=Yn ns k h0
 have cm1:Jp 6151 (k+1):= .inl ⟨by decide,by decide⟩
 have cm2:Jp (c+6151*(k+1)) 40692:= .inr ⟨by decide,by decide⟩
 generalize hd:(c+6151*(k+1))*40692 % 2147483399=d
 have hd0:0<=d:=by rw [← hd]; exact Int.emod_nonneg _ (by decide)
 have hd1:d < 2147483399:=by rw [← hd]; exact Int.emod_lt_of_pos _ (by decide)
 have cm3:Jp d d:= .inl ⟨by omega,by omega⟩
 refine ⟨(d*d+d / 31) % 2147483629 % m, ?_,Int.emod_nonneg _ (by omega),Int.emod_lt_of_pos _ hm⟩
 have e1:f_5 [scr ns, .int k, .int m]=zk (match ((((((f_u [scr ns, .int k]).bind fun x=>(Zn (.int 6151) (.int (k+1))).bind fun y=>zl x y).bind fun x=>Zn x (.int 40692)).bind fun x=>JJ x (.int 2147483399))).s fun t=>RS.nx [.vl (scr ns), .vl (.int k), .vl (.int m), .vl t]) with
   | .nx ρ' =>zO (zc JJ (zc JJ (zc zl (zc Zn (vE 3) (vE 3)) (zc Wc (vE 3) (cE (.int 31)))) (cE (.int 2147483629))) (vE 2)) ρ'
   | r=>r):=rfl
 rw [e1,hc]
 show zk (match (((((if Jp 6151 (k+1) then R.ok (T.int (6151*(k+1))) else .bad).bind fun y=>zl (.int c) y).bind fun x=>Zn x (.int 40692)).bind fun x=>JJ x (.int 2147483399)).s fun t=>RS.nx [.vl (scr ns), .vl (.int k), .vl (.int m), .vl t]) with
   | .nx ρ' =>_
   | r=>r)=_
 rw [if_pos cm1]
 show zk (match ((((if Jp (c+6151*(k+1)) 40692 then R.ok (T.int ((c+6151*(k+1))*40692)) else .bad)).bind fun x=>JJ x (.int 2147483399)).s fun t=>RS.nx [.vl (scr ns), .vl (.int k), .vl (.int m), .vl t]) with
   | .nx ρ' =>_
   | r=>r)=_
 rw [if_pos cm2]
 show zk (zO (zc JJ (zc JJ (zc zl (zc Zn (vE 3) (vE 3)) (zc Wc (vE 3) (cE (.int 31)))) (cE (.int 2147483629))) (vE 2)) [.vl (scr ns), .vl (.int k), .vl (.int m), .vl (.int ((c+6151*(k+1))*40692 % 2147483399))])=_
 rw [hd]
 show zk (((((if Jp d d then R.ok (T.int (d*d)) else .bad).bind fun x=>zl x (.int (d / 31))).bind fun x=>JJ x (.int 2147483629)).bind fun x=>JJ x (.int m)).s fun t=>RS.rt t)=_
 rw [if_pos cm3]
 show zk ((if 0 < m then R.ok (T.int ((d*d+d / 31) % 2147483629 % m)) else .bad).s fun t=>RS.rt t)=_
 rw [if_pos hm]
 rfl
theorem ur {ft:En->R Bool} {fe:En->R T}:∀ (ts:List T) (ρ:En) (x:Sl),zx (Za 0) ft fe ts (ρ.set 0 x)=zx (Za 0) ft fe ts ρ
 | [],_,_=>rfl
 | t :: ts,ρ,x=>by
  unfold zx Za
  rw [List.set_set]
theorem jc {ft:En->R Bool} {fe:En->R T} {p:T->Bool} {h:T->T}:∀ (ts:List T) (ρ:En),(∀ t∈ts,ft (ρ.set 0 (.vl t))= .ok (p t)/\(p t=true->fe (ρ.set 0 (.vl t))= .ok (h t)))->zx (Za 0) ft fe ts ρ= .ok ((ts.filter p).map h)
 | [],_,_=>rfl
 | t :: ts,ρ,H=>by
  obtain ⟨h1,h2⟩:=H t List.mem_cons_self
  have ih:=jc ts ρ fun u hu=>H u (List.mem_cons_of_mem _ hu)
  have e:zx (Za 0) ft fe (t :: ts) ρ=(ft (ρ.set 0 (.vl t))).bind fun k=>if k=true then (fe (ρ.set 0 (.vl t))).bind fun v=>(zx (Za 0) ft fe ts (ρ.set 0 (.vl t))).bind fun vs=> .ok (v :: vs) else zx (Za 0) ft fe ts (ρ.set 0 (.vl t)):=rfl
  rw [e,h1,ur,ih]
  show (if p t=true then _ else _)=_
  cases hp:p t with
  | true=>rw [if_pos rfl,h2 hp,List.filter_cons_of_pos hp]; rfl
  | false=>rw [if_neg Bool.false_ne_true,List.filter_cons_of_neg (by rw [hp]; exact Bool.false_ne_true)]
theorem ut {fe:En->R T} {h:T->T} (ts:List T) (ρ:En) (H:∀ t∈ts,fe (ρ.set 0 (.vl t))= .ok (h t)):zx (Za 0) Zf fe ts ρ= .ok (ts.map h):=by
 have:=jc (ft:=Zf) (fe:=fe) (p:=fun _=>true) (h:=h) ts ρ fun t ht=>⟨rfl,fun _=>H t ht⟩
 rw [this,List.filter_eq_self.mpr (fun _ _=>rfl)]
theorem Zh {fe:En->R T} {h:T->T} {k:Nat} {js:List Nat} {ρ:En} (ts:List T) (hl:ts.length<=bnd) (H:∀ t∈ts,fe ((wO k js ρ).set 0 (.vl t))= .ok (h t)):Zs (Za 0) Zf fe k js ρ ts= .ok (ts.map h):=by
 unfold Zs
 rw [if_pos hl,ut ts _ H]
 rfl
theorem jl (p:T->Bool):∀ ts:List T,Wu (ts.map fun t=>T.bl (p t))=some (ts.all p)
 | []=>rfl
 | t :: ts=>by
  show (match Wu (ts.map fun t=>T.bl (p t)) with | some j=>some (p t && j) | none=>none)=_
  rw [jl p ts]; rfl
def isW:T->Bool
 | .int _=>true
 | _=>false
theorem UK (t:T):f_d [t]= .ok (.bl (isW t)):=by cases t <;> rfl
def Wk (a b:Nat):T->Bool
 | .tup xs=>decide (a<=xs.length) && decide (xs.length<=b)
 | _=>false
theorem ZM (t:T) (a b:Nat):f_a [t, .int a, .int b]= .ok (.bl (Wk a b t)):=by
 cases t with
 | tup xs=>
  show zk ((if decide ((a:Int)<=(xs.length:Int))=true then R.ok (T.bl (decide ((xs.length:Int)<=(b:Int)))) else .ok (.bl false)).s fun t=> .rt t)=_
  have e1:decide ((a:Int)<=(xs.length:Int))=decide (a<=xs.length):=by simp
  have e2:decide ((xs.length:Int)<=(b:Int))=decide (xs.length<=b):=by simp
  rw [e1,e2]
  show _=R.ok (T.bl (decide (a<=xs.length) && decide (xs.length<=b)))
  cases decide (a<=xs.length) <;> rfl
 | _=>rfl
def jd (lo hi:Int):T->T->Bool
 | .int i, .int j=>decide (lo<=i) && decide (i<=j) && decide (j<=hi)
 | _,_=>false
theorem uu (t u:T) (lo hi:Int):f_s [t,u, .int lo, .int hi]= .ok (.bl (jd lo hi t u)):=by
 cases t with
 | int i=>
  cases u with
  | int j=>
   show zk ((if decide (lo<=i)=true then (if decide (i<=j)=true then R.ok (T.bl (decide (j<=hi))) else .ok (.bl false)) else .ok (.bl false)).s fun t=> .rt t)=_
   show _=R.ok (T.bl (decide (lo<=i) && decide (i<=j) && decide (j<=hi)))
   cases decide (lo<=i) <;> cases decide (i<=j) <;> rfl
  | _=>rfl
 | _=>cases u <;> rfl
def zL (c:Nat):Bool:=decide (97<=c) && decide (c<=122)
def zI:T->Bool
 | .str x=>decide (1<=x.length) && decide (x.length<=3) && x.cps.toList.all zL
 | _=>false
theorem ye (a b:Nat):decide ([a] < [b])=decide (a < b):=by
 by_cases h:a < b
 ·rw [decide_eq_true h]; exact decide_eq_true (List.Lex.rel h)
 ·rw [decide_eq_false h]
  refine decide_eq_false fun z=> ?_
  cases z with
  | rel h' =>exact h h'
  | cons h' =>cases h'
theorem Yo (c:Nat) (ρ:En):chE leC leC (cE (.str "a")) (vB 0) (cE (.str "z")) ((Sl.vl (.str ⟨#[c]⟩)) :: ρ)= .ok (.bl (zL c)):=by
 have e1:leC (.str "a") (.str ⟨#[c]⟩)= .ok (decide (97<=c)):=by
  show R.ok (!decide ([c] < [97]))=_
  rw [ye]
  by_cases h:c < 97
  ·rw [decide_eq_true h,decide_eq_false (by omega)]; rfl
  ·rw [decide_eq_false h,decide_eq_true (by omega)]; rfl
 have e2:leC (.str ⟨#[c]⟩) (.str "z")= .ok (decide (c<=122)):=by
  show R.ok (!decide ([122] < [c]))=_
  rw [ye]
  by_cases h:122 < c
  ·rw [decide_eq_true h,decide_eq_false (by omega)]; rfl
  ·rw [decide_eq_false h,decide_eq_true (by omega)]; rfl
 show (leC (.str "a") (.str ⟨#[c]⟩)).bind (fun k=>if k=true then (leC (.str ⟨#[c]⟩) (.str "z")).bind fun k' =>R.ok (T.bl k') else R.ok (T.bl false))=_
 rw [e1,e2]
 unfold zL
 show (if decide (97<=c)=true then R.ok (T.bl (decide (c<=122))) else .ok (.bl false))=_
 cases decide (97<=c) <;> rfl
def Q1:T->Prop
 | .str x=>x.length<=bnd
 | _=>True
theorem Yp (t:T) (ht:Q1 t):f_q [t]= .ok (.bl (zI t)):=by
 cases t with
 | str x=>
  have hx:x.length<=bnd:=ht
  have e0:ZP (.str x)= .ok (.int x.length):=if_pos hx
  have ec:Zs (Za 0) Zf (chE leC leC (cE (.str "a")) (vB 0) (cE (.str "z"))) 1 [] [.vl (.str x)] (Ze x)= .ok (x.cps.toList.map fun c=>T.bl (zL c)):=by
   have hs:(Ze x).length<=bnd:=by unfold Ze; rw [List.length_map,Array.length_toList]; exact hx
   have:=Zh (fe:=chE leC leC (cE (.str "a")) (vB 0) (cE (.str "z"))) (h:=fun t=>match t with | .str y=>T.bl (zL (y.cps.toList.headD 0)) | t=>t) (k:=1) (js:=[]) (ρ:=[.vl (.str x)]) (Ze x) hs fun t ht=>by
    unfold Ze at ht
    obtain ⟨c,_,rfl⟩:=List.mem_map.mp ht
    exact Yo c []
   rw [this]
   unfold Ze
   rw [List.map_map]
   rfl
  have ea:Wu (x.cps.toList.map fun c=>T.bl (zL c))=some (x.cps.toList.all zL):=by
   have:=jl (fun t=>match t with | .str y=>zL (y.cps.toList.headD 0) | _=>true) (Ze x)
   unfold Ze at this
   rw [List.map_map,List.all_map] at this
   exact this
  have e1:f_q [.str x]=zk (match ((((ZP (.str x)).bind fun y=>(leC (.int 1) y).bind fun k=>if k=true then leC y (.int 3) else .ok false).bind fun b=> .ok (!b)).s fun k=>if k=true then RS.rt (.bl false) else .nx [.vl (.str x)]) with
    | .nx ρ' =>zO (ap1 Y7 (Zd (jH (vE 0)) (Za 0) (Zf) (chE leC leC (cE (.str "a")) (vB 0) (cE (.str "z"))) 1 [])) ρ'
    | r=>r):=rfl
  rw [e1,e0]
  have c1:decide ((1:Int)<=(x.length:Int))=decide (1<=x.length):=by
   by_cases h:1<=x.length
   ·rw [decide_eq_true h]; exact decide_eq_true (by omega)
   ·rw [decide_eq_false h]; exact decide_eq_false (by omega)
  have c2:decide ((x.length:Int)<=(3:Int))=decide (x.length<=3):=by
   by_cases h:x.length<=3
   ·rw [decide_eq_true h]; exact decide_eq_true (by omega)
   ·rw [decide_eq_false h]; exact decide_eq_false (by omega)
  show zk (match ((((if decide ((1:Int)<=(x.length:Int))=true then R.ok (decide ((x.length:Int)<=(3:Int))) else .ok false)).bind fun b=> .ok (!b)).s fun k=>if k=true then RS.rt (.bl false) else .nx [.vl (.str x)]) with
    | .nx ρ' =>_
    | r=>r)=_
  rw [c1,c2]
  show _=R.ok (T.bl (decide (1<=x.length) && decide (x.length<=3) && x.cps.toList.all zL))
  cases decide (1<=x.length) with
  | false=>rfl
  | true=>
   cases decide (x.length<=3) with
   | false=>rfl
   | true=>
    show zk ((((Zs (Za 0) Zf (chE leC leC (cE (.str "a")) (vB 0) (cE (.str "z"))) 1 [] [.vl (.str x)] (Ze x)).bind fun vs=> .ok (.lst vs)).bind Y7).s fun t=> .rt t)=_
    rw [ec]
    show zk ((match Wu (x.cps.toList.map fun c=>T.bl (zL c)) with | some k=>R.ok (T.bl k) | none=> .bad).s fun t=> .rt t)=_
    rw [ea]
    rfl
 | _=>rfl
theorem bOk {α β:Type} (a:α) (f:α->R β):(R.ok a).bind f=f a:=rfl
theorem ZQ {α:Type} (a:α) (f:α->RS):(R.ok a).s f=f a:=rfl
theorem je (r:R T):zk (r.s fun t=> .rt t)=r:=by cases r <;> rfl
theorem Zi (f:En->R T) (ρ:En):zO f ρ=(f (frz ρ)).s fun t=> .rt t:=rfl
theorem Z2 {g:List T->R T} {f:En->R T} {ρ:En}:za 1 g (z4 f ze) ρ=(f ρ).bind fun x=>g [x]:=by
 unfold za z4 ze
 cases f ρ <;> rfl
theorem ji {g:List T->R T} {f f' :En->R T} {ρ:En}:za 2 g (z4 f (z4 f' ze)) ρ=(f ρ).bind fun x=>(f' ρ).bind fun y=>g [x,y]:=by
 unfold za z4 ze
 cases f ρ with
 | ok a=>cases f' ρ <;> rfl
 | ex c=>rfl
 | bad=>rfl
theorem Zx {g:List T->R T} {f f' f'' :En->R T} {ρ:En}:za 3 g (z4 f (z4 f' (z4 f'' ze))) ρ=(f ρ).bind fun x=>(f' ρ).bind fun y=>(f'' ρ).bind fun z=>g [x,y,z]:=by
 unfold za z4 ze
 cases f ρ with
 | ok a=>
  cases f' ρ with
  | ok b=>cases f'' ρ <;> rfl
  | ex c=>rfl
  | bad=>rfl
 | ex c=>rfl
 | bad=>rfl
theorem vG {g:List T->R T} {f f' f'' f3:En->R T} {ρ:En}:za 4 g (z4 f (z4 f' (z4 f'' (z4 f3 ze)))) ρ=(f ρ).bind fun x=>(f' ρ).bind fun y=>(f'' ρ).bind fun z=>(f3 ρ).bind fun w=>g [x,y,z,w]:=by
 unfold za z4 ze
 cases f ρ with
 | ok a=>
  cases f' ρ with
  | ok b=>
   cases f'' ρ with
   | ok c=>cases f3 ρ <;> rfl
   | ex c=>rfl
   | bad=>rfl
  | ex c=>rfl
  | bad=>rfl
 | ex c=>rfl
 | bad=>rfl
def QD (r k:R T):R T:=r.bind fun x=>match x with
 | .bl true=>k
 | .bl false=> .ok (.bl false)
 | _=> .bad
theorem uv (f g:En->R T) (ρ:En):wj f g ρ=QD (f ρ) (g ρ):=rfl
theorem Zu (a:Bool) (k:R T):QD (.ok (.bl a)) k=if a=true then k else .ok (.bl false):=by cases a <;> rfl
theorem v0 {t:T} {ρ:En}:vE 0 (.vl t :: ρ)= .ok t:=rfl
theorem v1 {t:T} {a:Sl} {ρ:En}:vE 1 (a :: .vl t :: ρ)= .ok t:=rfl
theorem w0 {t:T} {ρ:En}:vB 0 (.vl t :: ρ)= .ok t:=rfl
theorem w1 {t:T} {a:Sl} {ρ:En}:vB 1 (a :: .vl t :: ρ)= .ok t:=rfl
theorem ZX {t:T} {ρ:En}:cE t ρ= .ok t:=rfl
theorem zA {g:T->T->R T} {f f' :En->R T} {ρ:En}:zc g f f' ρ=(f ρ).bind fun x=>(f' ρ).bind fun y=>g x y:=rfl
theorem j6 {t:T} {ρ:En}:frz (.vl t :: ρ)= .vl t :: frz ρ:=rfl
theorem UL {ρ:En}:frz (.un :: ρ)= .un :: frz ρ:=rfl
theorem j7:frz []=[]:=rfl
theorem vH {g g' :T->T->R Bool} {fa fb fc:En->R T} {ρ:En}:chE g g' fa fb fc ρ=(fa ρ).bind fun x=>(fb ρ).bind fun y=>(g x y).bind fun k=>if k=true then (fc ρ).bind fun z=>(g' y z).bind fun k' => .ok (.bl k') else .ok (.bl false):=rfl
theorem jM {g:T->R T} {f:En->R T} {ρ:En}:ap1 g f ρ=(f ρ).bind g:=rfl
theorem uw {g:T->T->R Bool} {f f' :En->R T} {ρ:En}:Uq g f f' ρ=(f ρ).bind fun x=>(f' ρ).bind fun y=>(g x y).bind fun b=> .ok (.bl b):=rfl
theorem UM {xs:List T}:ZP (.tup xs)= .ok (.int xs.length):=rfl
theorem vI {xs:List T}:ZP (.lst xs)= .ok (.int xs.length):=rfl
mutual
def sOk:T->Prop
 | .str x=>x.length<=bnd
 | .tup xs=>wb xs
 | .lst xs=>wb xs
 | .fz xs=>wb xs
 | _=>True
def wb:List T->Prop
 | []=>True
 | t :: ts=>sOk t/\wb ts
end
theorem ZY:∀ {ts:List T} {t:T},wb ts->t∈ts->sOk t
 | u :: ts,t,h,hm=>by
  have h' :sOk u/\wb ts:=by simpa only [wb] using h
  rcases List.mem_cons.mp hm with rfl | hm
  ·exact h'.1
  ·exact ZY h'.2 hm
theorem sOk.str {t:T} (h:sOk t):Q1 t:=by
 cases t with
 | str x=>
  have h' :x.length<=bnd:=by simpa only [sOk] using h
  exact h'
 | _=>trivial
theorem Jc {xs:List T} (h:sOk (.tup xs)):wb xs:=by simpa only [sOk] using h
def zq:T->Bool
 | .tup [w, .int i]=>zI w && decide (1<=i) && decide (i<=20)
 | _=>false
theorem ux (t:T) (ht:sOk t):f_p [t]= .ok (.bl (zq t)):=by
 have e:f_p [t]=zk (b_p f_d f_a f_q [.vl t]):=rfl
 rw [e,b_p]
 simp only [Zi,je,j6,j7,uv,Zx,Z2,v0,ZX,bOk,zA,vH]
 rw [show f_a [t, .int 2, .int 2]= .ok (.bl (Wk 2 2 t)) from ZM t 2 2,Zu]
 cases t with
 | tup xs=>
  match xs,ht with
  | [],_=>rfl
  | [_],_=>rfl
  | _ :: _ :: _ :: _,_=>simp [Wk,zq]
  | [w,n],ht=>
   have hw:sOk w:=ZY (Jc ht) (by simp)
   show (if true=true then QD (f_q [w]) (QD (f_d [n]) ((leC (.int 1) n).bind fun k=>if k=true then (leC n (.int 20)).bind fun k' =>R.ok (T.bl k') else .ok (.bl false))) else _)=_
   rw [if_pos rfl,Yp w hw.str,UK,Zu,Zu]
   cases n with
   | int i=>
    show (if zI w=true then (if true=true then (if decide (1<=i)=true then R.ok (T.bl (decide (i<=20))) else .ok (.bl false)) else _) else _)=R.ok (T.bl (zI w && decide (1<=i) && decide (i<=20)))
    cases zI w <;> cases decide (1<=i) <;> rfl
   | _=>
    show (if zI w=true then (if false=true then _ else R.ok (T.bl false)) else R.ok (T.bl false))=R.ok (T.bl false)
    cases zI w <;> rfl
 | _=>rfl
theorem ZK (f g:En->RS) (ρ:En):zF f g ρ=match f ρ with | .nx ρ' =>g ρ' | r=>r:=rfl
theorem Jd (g:En->R Bool) (f1 f2:En->RS) (ρ:En):ifS g f1 f2 ρ=(g ρ).s fun k=>if k=true then f1 ρ else f2 ρ:=rfl
theorem Wl (f g:En->R Bool) (ρ:En):orT f g ρ=(f ρ).bind fun x=>if x=true then .ok true else g ρ:=rfl
theorem jQ (f:En->R Bool) (ρ:En):wk f ρ=(f ρ).bind fun x=> .ok (!x):=rfl
theorem jf (f:En->R T) (ρ:En):jL f ρ=(f ρ).bind tru:=rfl
theorem jx (k:Bool):tru (.bl k)= .ok k:=rfl
theorem jR (i:Nat) (f:En->R T) (ρ:En):Z5 i f ρ=(f ρ).s fun t=> .nx (ρ.set i (.vl t)):=rfl
theorem ZN {g:T->T->R Bool} {f f' :En->R T} {ρ:En}:zY g f f' ρ=(f ρ).bind fun x=>(f' ρ).bind fun y=>g x y:=rfl
theorem ZD {fi:En->R (List T)} {g:T->En->R En} {ft:En->R Bool} {fe:En->R T} {k:Nat} {js:List Nat} {ρ:En}:Zd fi g ft fe k js ρ=(fi ρ).bind fun ts=>(Zs g ft fe k js ρ ts).bind fun vs=> .ok (.lst vs):=rfl
theorem uy {f:En->R T} {ρ:En}:jH f ρ=(f ρ).bind ZV:=rfl
def zM:T->Str
 | .tup (.str w :: _)=>w
 | _=>⟨#[]⟩
def wR:T->Bool
 | .tup cs=>decide (1<=cs.length) && decide (cs.length<=4) && cs.all zq && decide ((dd [] (cs.map zM)).length=cs.length)
 | _=>false
theorem JV {c:T} (h:zq c=true):∃ w n,c= .tup [.str w,n]:=by
 unfold zq at h
 split at h
 ·rename_i w i
  cases w with
  | str x=>exact ⟨x,_,rfl⟩
  | _=>cases h
 ·cases h
theorem jS:∀ {cs:List T},cs.all zq=true->wm (cs.map fun c=>T.str (zM c))=some (cs.map zM)
 | [],_=>rfl
 | c :: cs,h=>by
  rw [List.all_cons,Bool.and_eq_true] at h
  have ih:=jS h.2
  show (match wm (cs.map fun c=>T.str (zM c)) with | some ys=>some (zM c :: ys) | none=>none)=_
  rw [ih]; rfl
theorem Wm (t:T) (ht:sOk t):f_m [t]= .ok (.bl (wR t)):=by
 have e:f_m [t]=zk (b_m f_a f_p [.vl t, .un]):=rfl
 rw [e,b_m]
 simp only [ZK,Jd,Wl,jQ,jf,Zx,v0,ZX,bOk]
 rw [show f_a [t, .int 1, .int 4]= .ok (.bl (Wk 1 4 t)) from ZM t 1 4]
 simp only [bOk,jx]
 cases t with
 | tup cs=>
  have hl:Wk 1 4 (.tup cs)=(decide (1<=cs.length) && decide (cs.length<=4)):=rfl
  rw [hl]
  show _=R.ok (T.bl (decide (1<=cs.length) && decide (cs.length<=4) && cs.all zq && decide ((dd [] (cs.map zM)).length=cs.length)))
  cases h14:(decide (1<=cs.length) && decide (cs.length<=4)) with
  | false=>rfl
  | true=>
   rw [Bool.and_eq_true,decide_eq_true_eq,decide_eq_true_eq] at h14
   have hb:cs.length<=bnd:=Nat.le_trans h14.2 (by decide)
   have ec:Zs (Za 0) Zf (za 1 f_p (z4 (vE 0) ze)) 1 [] [.vl (.tup cs), .un] cs= .ok (cs.map fun c=>T.bl (zq c)):=
    Zh (h:=fun c=>T.bl (zq c)) cs hb fun c hc=>by
     show za 1 f_p (z4 (vE 0) ze) [.vl c]=_
     rw [Z2,v0,bOk]
     exact ux c (ZY (Jc ht) hc)
   simp only [Bool.not_true,Bool.false_eq_true,if_false,jM,ZD,uy,v0,bOk,ZV,ec]
   have ea:Y7 (.lst (cs.map fun c=>T.bl (zq c)))= .ok (.bl (cs.all zq)):=by
    show (match Wu (cs.map fun c=>T.bl (zq c)) with | some k=>R.ok (T.bl k) | none=> .bad)=_
    rw [jl]
   rw [ea]
   simp only [bOk,jx,ZQ]
   cases hall:cs.all zq with
   | false=>rfl
   | true=>
    have ew:Zs (Za 0) Zf (zc ixT (vE 0) (cE (.int 0))) 1 [] [.vl (.tup cs), .un] cs= .ok (cs.map fun c=>T.str (zM c)):=
     Zh (h:=fun c=>T.str (zM c)) cs hb fun c hc=>by
      obtain ⟨w,n,rfl⟩:=JV (List.all_eq_true.mp hall c hc)
      rfl
    simp only [Bool.not_true,Bool.false_eq_true,if_false,nxS,jR,ZD,uy,v0,bOk,ZV,ew,ZQ,Zi]
    show zk (((UE (.lst (cs.map fun c=>T.str (zM c)))).bind fun x=>(ZP (.lst (cs.map fun c=>T.str (zM c)))).bind fun y=>(eqC x y).bind fun b=>R.ok (T.bl b)).s fun t=> .rt t)=_
    have el:UE (.lst (cs.map fun c=>T.str (zM c)))= .ok (.int (dd [] (cs.map zM)).length):=by
     show (match wm (cs.map fun c=>T.str (zM c)) with | some ys=>if (cs.map fun c=>T.str (zM c)).length+1 < 4096 then R.ok (T.int (dd [] ys).length) else .bad | none=> .bad)=_
     rw [jS hall]
     exact if_pos (by rw [List.length_map]; omega)
    rw [el,vI,List.length_map,je]
    show R.ok (T.bl (((dd [] (cs.map zM)).length:Int) == (cs.length:Int)))=_
    congr 2
    by_cases hq:(dd [] (cs.map zM)).length=cs.length
    ·rw [decide_eq_true hq,hq]; simp
    ·rw [decide_eq_false hq]
     simp only [Bool.true_and,beq_eq_false_iff_ne]
     omega
 | _=>rfl
def isS (w:Str):T->Bool
 | .str s=>s == w
 | _=>false
theorem eqS (h:T) (w:Str):eqC h (.str w)= .ok (isS w h):=by cases h <;> rfl
theorem eqI (i j:Int):eqC (.int i) (.int j)= .ok (i == j):=rfl
theorem at0 {h:T} {r:List T}:ixT (.tup (h :: r)) (.int 0)= .ok h:=by
 show atT (h :: r) 0=_
 unfold atT
 rw [show atI (h :: r) 0=some h from j1 (j:=0) rfl]
theorem at1 {h a:T} {r:List T}:ixT (.tup (h :: a :: r)) (.int 1)= .ok a:=by
 show atT (h :: a :: r) 1=_
 unfold atT
 rw [show atI (h :: a :: r) 1=some a from j1 (j:=1) rfl]
theorem at2 {h a b:T} {r:List T}:ixT (.tup (h :: a :: b :: r)) (.int 2)= .ok b:=by
 show atT (h :: a :: b :: r) 2=_
 unfold atT
 rw [show atI (h :: a :: b :: r) 2=some b from j1 (j:=2) rfl]
theorem at3 {h a b c:T} {r:List T}:ixT (.tup (h :: a :: b :: c :: r)) (.int 3)= .ok c:=by
 show atT (h :: a :: b :: c :: r) 3=_
 unfold atT
 rw [show atI (h :: a :: b :: c :: r) 3=some c from j1 (j:=3) rfl]
def jy (k:T->Bool):T->Bool
 | .tup ks=>decide (1<=ks.length) && decide (ks.length<=3) && ks.all k
 | _=>false
def JW:List T->Bool
 | [a,b]=>jd (-20) 20 a b
 | _=>false
def uz:List T->Bool
 | [c]=>wR c
 | _=>false
def Q2 (k:T->Bool):List T->Bool
 | [c]=>jy k c
 | _=>false
def uA (k:T->Bool):List T->Bool
 | [c,a,b]=>jd 0 3 a b && k c
 | _=>false
def Wn (k:T->Bool):T->Bool
 | .tup (h :: r)=>if isS "whole" h=true then JW r else if isS "pick" h=true then uz r else if isS "row" h=true then Q2 k r else if isS "many" h=true then uA k r else false
 | _=>false
def isK:Nat->T->Bool
 | 0,_=>false
 | d+1,t=>Wn (isK d) t
theorem uB {α:Type} (xs:List α) (n:Nat):((xs.length:Int) == (n:Int))=decide (xs.length=n):=by
 by_cases h:xs.length=n
 ·rw [decide_eq_true h,h]; simp
 ·rw [decide_eq_false h,beq_eq_false_iff_ne]; omega
theorem Q3 {f:En->R T} {ρ:En}:Jq f ρ=(f ρ).bind fun x=>match x with | .int i=> .ok (.int (-i)) | _=> .bad:=rfl
theorem jz {i j:Int}:jr (.int i) (.int j)= .ok (.int (i - j)):=rfl
set_option maxHeartbeats 1000000 in
theorem Yq {n:Nat} {d:Nat} {k:T->Bool} (H0:∀ t,sOk t->S_6 n 0 [t, .int d]= .ok (.bl (k t))) (H1:∀ t,sOk t->S_6 n 1 [t, .int d]= .ok (.bl (jy k t))) (t:T) (ht:sOk t):
  S_6 (n+1) 0 [t, .int ((d+1:Nat):Int)]= .ok (.bl (Wn k t)):=by
 have e:S_6 (n+1) 0 [t, .int ((d+1:Nat):Int)]=zk (b_6 f_s (S_6 n 0) f_m (S_6 n 1) [.vl t, .vl (.int ((d+1:Nat):Int))]):=rfl
 have hL:(((d+1:Nat):Int) == 0)=false:=by rw [beq_eq_false_iff_ne]; omega
 have hL1:((d+1:Nat):Int) - 1=(d:Int):=by omega
 rw [e,b_6]
 simp only [ZK,Jd,Wl,jQ,jf,ZN,w0,w1,ZX,bOk,eqI,hL,Bool.false_eq_true,if_false,jM]
 cases t with
 | tup xs=>
  cases xs with
  | nil=>rfl
  | cons h r=>
   have hs:=Jc ht
   have hm:∀ u∈r,sOk u:=fun u hu=>ZY hs (List.mem_cons_of_mem _ hu)
   have z0:(((h :: r).length:Int) == 0)=false:=by rw [beq_eq_false_iff_ne]; simp only [List.length_cons]; omega
   have ti:UW "tuple" (.tup (h :: r))= .ok (.bl true):=rfl
   simp only [ti,bOk,jx,Bool.not_true,Bool.false_eq_true,if_false,UM,eqI,z0,ZQ,nxS,zA,v0,v1,ZX,at0,eqS,Zi,j6,j7,uv,uw,jM,w0,vG,Z2,ji,Q3,jz,hL1]
   show _=R.ok (T.bl (if isS "whole" h=true then JW r else if isS "pick" h=true then uz r else if isS "row" h=true then Q2 k r else if isS "many" h=true then uA k r else false))
   have l3:(((h :: r).length:Int) == 3)=decide ((h :: r).length=3):=uB (h :: r) 3
   have l2:(((h :: r).length:Int) == 2)=decide ((h :: r).length=2):=uB (h :: r) 2
   have l4:(((h :: r).length:Int) == 4)=decide ((h :: r).length=4):=uB (h :: r) 4
   simp only [l2,l3,l4,Zu]
   cases isS "whole" h with
   | true=>
    simp only [if_true]
    match r,hm with
    | [],_=>rfl
    | [_],_=>rfl
    | _ :: _ :: _ :: _,_=>simp [JW,ZQ,zk]
    | [a,b],_=>
     simp only [at1,at2,bOk,uu]
     rfl
   | false=>
    simp only [Bool.false_eq_true,if_false,v0,v1,w0,bOk,at0,ZQ,j6,j7,UM,eqI,l2,l4,Zu,jz,hL1]
    cases isS "pick" h with
    | true=>
     simp only [if_true]
     match r,hm with
     | [],_=>rfl
     | _ :: _ :: _,_=>simp [uz,ZQ,zk]
     | [c],hm=>
      simp only [at1,bOk,Wm c (hm c (by simp))]
      rfl
    | false=>
     simp only [Bool.false_eq_true,if_false,v0,v1,w0,bOk,at0,ZQ,j6,j7,UM,eqI,l2,l4,Zu,jz,hL1]
     cases isS "row" h with
     | true=>
      simp only [if_true]
      match r,hm with
      | [],_=>rfl
      | _ :: _ :: _,_=>simp [Q2,ZQ,zk]
      | [c],hm=>
       simp only [at1,bOk,H1 c (hm c (by simp))]
       rfl
     | false=>
      simp only [Bool.false_eq_true,if_false,v0,v1,w0,bOk,at0,ZQ,j6,j7,UM,eqI,l2,l4,Zu,jz,hL1]
      cases isS "many" h with
      | true=>
       simp only [if_true]
       match r,hm with
       | [],_=>rfl
       | [_],_=>rfl
       | [_,_],_=>rfl
       | _ :: _ :: _ :: _ :: _,_=>simp [uA,ZQ,zk]
       | [c,a,b],hm=>
        simp only [at1,at2,at3,bOk,uu,H0 c (hm c (by simp)),Zu]
        show zk (match (if jd 0 3 a b=true then R.ok (T.bl (k c)) else .ok (.bl false)).s (fun t=>RS.rt t) with | .nx _=>RS.rt (T.bl false) | r=>r)=R.ok (T.bl (jd 0 3 a b && k c))
        cases jd 0 3 a b <;> rfl
      | false=>rfl
 | _=>rfl
theorem Q4 {n:Nat} {d:Nat} {k:T->Bool} (H0:∀ t,sOk t->S_6 n 0 [t, .int d]= .ok (.bl (k t))) (t:T) (ht:sOk t):S_6 (n+1) 1 [t, .int d]= .ok (.bl (jy k t)):=by
 have e:S_6 (n+1) 1 [t, .int d]=zk (b_t f_a (S_6 n 0) [.vl t, .vl (.int d)]):=rfl
 rw [e,b_t]
 simp only [Zi,je,j6,j7,uv,Zx,v0,ZX,bOk]
 rw [show f_a [t, .int 1, .int 3]= .ok (.bl (Wk 1 3 t)) from ZM t 1 3,Zu]
 cases t with
 | tup ks=>
  show (if (decide (1<=ks.length) && decide (ks.length<=3))=true then _ else _)=R.ok (T.bl (decide (1<=ks.length) && decide (ks.length<=3) && ks.all k))
  cases h13:(decide (1<=ks.length) && decide (ks.length<=3)) with
  | false=>rfl
  | true=>
   rw [Bool.and_eq_true,decide_eq_true_eq,decide_eq_true_eq] at h13
   have hb:ks.length<=bnd:=Nat.le_trans h13.2 (by decide)
   have ec:Zs (Za 0) Zf (za 2 (S_6 n 0) (z4 (vE 0) (z4 (vE 1) ze))) 1 [1] [.vl (.tup ks), .vl (.int d)] ks= .ok (ks.map fun c=>T.bl (k c)):=
    Zh (h:=fun c=>T.bl (k c)) ks hb fun c hc=>by
     show za 2 (S_6 n 0) (z4 (vE 0) (z4 (vE 1) ze)) [.vl c, .vl (.int d)]=_
     rw [ji,v0,v1,bOk,bOk]
     exact H0 c (ZY (Jc ht) hc)
   simp only [if_true,jM,ZD,uy,v0,bOk,ZV,ec]
   show (match Wu (ks.map fun c=>T.bl (k c)) with | some k=>R.ok (T.bl k) | none=> .bad)=_
   rw [jl]
   rfl
 | _=>rfl
theorem wq:∀ (d n:Nat),2*d+1<=n->∀ t,sOk t->S_6 n 0 [t, .int d]= .ok (.bl (isK d t))
 | 0,n+1,_,t,_=>rfl
 | d+1,n+2,h,t,ht=>Yq (n:=n+1) (fun u hu=>wq d (n+1) (by omega) u hu) (fun u hu=>Q4 (fun v hv=>wq d n (by omega) v hv) u hu) t ht
theorem Wo (t:T) (ht:sOk t):f_2 [t]= .ok (.bl (isK 3 t)):=by
 have e:f_2 [t]=zk (b_2 (f_6 20) [.vl t]):=rfl
 rw [e,b_2]
 simp only [Zi,je,j6,j7,ji,v0,ZX,bOk]
 exact wq 3 20 (by omega) t ht
theorem JX:∀ (ws acc:List Str),(dd acc ws).length<=acc.length+ws.length
 | [],acc=>Nat.le_refl _
 | w :: ws,acc=>by
  unfold dd
  have:=JX ws (if w∈acc then acc else acc++[w])
  by_cases h:w∈acc
  ·rw [if_pos h] at this ⊢; simp only [List.length_cons]; omega
  ·rw [if_neg h] at this ⊢; rw [List.length_append,List.length_singleton] at this; simp only [List.length_cons]; omega
theorem Je:∀ (ws acc:List Str),((dd acc ws).length=acc.length+ws.length)↔∀ (k:Nat) (w:Str),ws[k]? =some w->w ∉ acc++ws.take k
 | [],acc=>by simp [dd]
 | w :: ws,acc=>by
  unfold dd
  by_cases h:w∈acc
  ·rw [if_pos h]
   have:=JX ws acc
   constructor
   ·intro e; simp only [List.length_cons] at e; omega
   ·intro H; exact absurd (List.mem_append_left _ h) (H 0 w rfl)
  ·rw [if_neg h]
   have ih:=Je ws (acc++[w])
   rw [List.length_append,List.length_singleton] at ih
   rw [show acc.length+(w :: ws).length=acc.length+1+ws.length by simp only [List.length_cons]; omega,ih]
   constructor
   ·intro H k v e
    cases k with
    | zero=>simp at e; subst e; simpa using h
    | succ k=>
     have:=H k v (by simpa using e)
     simpa [List.append_assoc] using this
   ·intro H k v e
    have:=H (k+1) v (by simpa using e)
    simpa [List.append_assoc] using this
theorem ltI (i j:Int):ltC (.int i) (.int j)= .ok (decide (i < j)):=rfl
theorem v2 {t:T} {a b:Sl} {ρ:En}:vE 2 (a :: b :: .vl t :: ρ)= .ok t:=rfl
theorem v3 {t:T} {a b c:Sl} {ρ:En}:vE 3 (a :: b :: c :: .vl t :: ρ)= .ok t:=rfl
theorem w2 {t:T} {a b:Sl} {ρ:En}:vB 2 (a :: b :: .vl t :: ρ)= .ok t:=rfl
theorem w3 {t:T} {a b c:Sl} {ρ:En}:vB 3 (a :: b :: c :: .vl t :: ρ)= .ok t:=rfl
theorem w5 {t:T} {a b c d e:Sl} {ρ:En}:vB 5 (a :: b :: c :: d :: e :: .vl t :: ρ)= .ok t:=rfl
theorem v4 {t:T} {a b c d:Sl} {ρ:En}:vE 4 (a :: b :: c :: d :: .vl t :: ρ)= .ok t:=rfl
theorem Yr (f g:En->R Bool) (ρ:En):qz f g ρ=(f ρ).bind fun x=>if x=true then g ρ else .ok false:=rfl
theorem wS (w:Str):∀ ws:List Str,Us (fun y=>eqF 30 y (.str w)) (ws.map T.str)=some (decide (w∈ws))
 | []=>rfl
 | x :: ws=>by
  have ih:=wS w ws
  show (match Us (fun y=>eqF 30 y (.str w)) (ws.map T.str) with | none=>none | some c=>some ((x == w) || c))=_
  rw [ih]
  show some ((x == w) || decide (w∈ws))=_
  congr 1
  by_cases h:x=w
  ·subst h; simp
  ·have h' :¬ w=x:=fun z=>h z.symm
   simp [h,h']
theorem gtI (i j:Int):gtC (.int i) (.int j)= .ok (decide (i > j)):=rfl
theorem Zj (i j:Int):zl (.int i) (.int j)= .ok (.int (i+j)):=rfl
theorem Q5 (p:Int) (h0:0<=p) (h1:p < 26):ixT (.str "abcdefghijklmnopqrstuvwxyz") (.int p)= .ok (.str ⟨#[97+p.toNat]⟩):=by
 have h:p=0\/p=1\/p=2\/p=3\/p=4\/p=5\/p=6\/p=7\/p=8\/p=9\/p=10\/p=11\/p=12\/p=13\/p=14\/p=15\/p=16\/p=17\/p=18\/p=19\/p=20\/p=21\/p=22\/p=23\/p=24\/p=25:=by omega
 rcases h with rfl|rfl|rfl|rfl|rfl|rfl|rfl|rfl|rfl|rfl|rfl|rfl|rfl|rfl|rfl|rfl|rfl|rfl|rfl|rfl|rfl|rfl|rfl|rfl|rfl|rfl <;> rfl
abbrev QE:En->R T:=zc ixT (vE 3) (za 3 f_5 (z4 (vE 1) (z4 (zc zl (zc zl (vE 2) (cE (.int 2))) (vE 0)) (z4 (cE (.int 26)) (ze)))))
theorem Q6 (ns:List Int) (k:Int) (h0:0<=k) (j:Nat):∃ c:Nat,(97<=c/\c<=122)/\QE [.vl (.int (j:Int)), .vl (scr ns), .vl (.int k), .vl (.str "abcdefghijklmnopqrstuvwxyz")]= .ok (.str ⟨#[c]⟩):=by
 obtain ⟨p,e,p0,p1⟩:=zT ns (k+2+j) 26 (by omega) (by omega)
 refine ⟨97+p.toNat,⟨by omega,by omega⟩, ?_⟩
 simp only [QE,zA,v3,bOk,Zx,v1,v2,v0,ZX,Zj,e]
 exact Q5 p p0 p1
theorem Wp (ns:List Int) (k:Int) (h0:0<=k):∃ w:Str,f_n [scr ns, .int k]= .ok (.str w)/\zI (.str w)=true:=by
 have e:f_n [scr ns, .int k]=zk (b_n f_5 [.vl (scr ns), .vl (.int k), .un]):=rfl
 obtain ⟨p,e0,p0,p1⟩:=zT ns k 6 h0 (by omega)
 have hset:∀ t,([Sl.vl (scr ns),Sl.vl (.int k), .un]:En).set 2 (.vl t)=[Sl.vl (scr ns),Sl.vl (.int k), .vl t]:=fun _=>rfl
 rw [e,b_n]
 simp only [ZK,Jd,jR,ZX,ZQ,hset,ZN,Zx,v0,v1,bOk,e0,gtI]
 cases hp:decide (p > 0) with
 | true=>
  obtain ⟨q,e1,q0,q1⟩:=zT ns (k+1) 4 (by omega) (by omega)
  simp only [if_true,Zi,j6,j7,zA,Zx,v0,v1,ZX,bOk,Zj,e1]
  have hq:q=0\/q=1\/q=2\/q=3:=by omega
  rcases hq with rfl | rfl | rfl | rfl
  ·exact ⟨"a",rfl,by decide⟩
  ·exact ⟨"b",rfl,by decide⟩
  ·exact ⟨"ab",rfl,by decide⟩
  ·exact ⟨"cab",rfl,by decide⟩
 | false=>
  obtain ⟨q,e1,q0,q1⟩:=zT ns (k+1) 3 (by omega) (by omega)
  simp only [Bool.false_eq_true,if_false,nxS,Zi,je,j6,j7,jM,ZD]
  obtain ⟨g,hg⟩:=Classical.skolem.mp (Q6 ns k h0)
  have ei:j5 (zc zl (cE (.int 1)) (za 3 f_5 (z4 (vE 0) (z4 (zc zl (vE 1) (cE (.int 1))) (z4 (cE (.int 3)) (ze)))))) [Sl.vl (scr ns),Sl.vl (.int k), .vl (.str "abcdefghijklmnopqrstuvwxyz")]= .ok (rng 0 (1+q).toNat):=by
   unfold j5
   simp only [zA,Zx,v0,v1,ZX,bOk,Zj,e1]
   rw [if_pos ⟨by omega,by omega⟩]
  have ec:∀ n:Nat,n<=3->Zs (Za 0) Zf QE 1 [0,1,2] [Sl.vl (scr ns),Sl.vl (.int k), .vl (.str "abcdefghijklmnopqrstuvwxyz")] (rng 0 n)= .ok ((rng 0 n).map fun t=>match t with | .int j=> .str ⟨#[g j.toNat]⟩ | t=>t):=fun n hn=>
   Zh (rng 0 n) (by unfold rng; rw [List.length_map,List.length_range]; exact Nat.le_trans hn (by decide)) fun t ht=>by
    unfold rng at ht
    obtain ⟨j,_,rfl⟩:=List.mem_map.mp ht
    show QE [.vl (.int (0+(j:Int))), .vl (scr ns), .vl (.int k), .vl (.str "abcdefghijklmnopqrstuvwxyz")]= .ok (.str ⟨#[g (0+(j:Int)).toNat]⟩)
    rw [Int.zero_add,Int.toNat_natCast]
    exact (hg j).2
  rw [ei,bOk,ec _ (by omega),bOk,bOk]
  have hw:∀ j,zL (g j)=true:=fun j=>by
   obtain ⟨a,b⟩:=(hg j).1
   unfold zL
   rw [decide_eq_true a,decide_eq_true b]; rfl
  have hq:q=0\/q=1\/q=2:=by omega
  rcases hq with rfl | rfl | rfl
  ·refine ⟨⟨#[g 0]⟩,rfl, ?_⟩
   show (zL (g 0) && true)=true
   rw [hw 0]; rfl
  ·refine ⟨⟨#[g 0,g 1]⟩,rfl, ?_⟩
   show (zL (g 0) && (zL (g 1) && true))=true
   rw [hw 0,hw 1]; rfl
  ·refine ⟨⟨#[g 0,g 1,g 2]⟩,rfl, ?_⟩
   show (zL (g 0) && (zL (g 1) && (zL (g 2) && true)))=true
   rw [hw 0,hw 1,hw 2]; rfl
theorem vJ (j:Int):Zn (.int 5) (.int j)= .ok (.int (5*j)):=by
 show (if Jp 5 j then R.ok (T.int (5*j)) else .bad)=_
 rw [if_pos (.inl ⟨by decide,by decide⟩)]
theorem uC {f g:En->R T} {ρ:En} {x y:T} (hf:f ρ= .ok x) (hg:g ρ= .ok y):ZJ (z4 f (z4 g ze)) ρ= .ok (.tup [x,y]):=by
 unfold ZJ z4 ze
 rw [hf,hg]; rfl
theorem VE {f g h:En->R T} {ρ:En} {x y z:T} (hf:f ρ= .ok x) (hg:g ρ= .ok y) (hh:h ρ= .ok z):ZJ (z4 f (z4 g (z4 h ze))) ρ= .ok (.tup [x,y,z]):=by
 unfold ZJ z4 ze
 rw [hf,hg,hh]; rfl
theorem VF {f g h i:En->R T} {ρ:En} {x y z w:T} (hf:f ρ= .ok x) (hg:g ρ= .ok y) (hh:h ρ= .ok z) (hi:i ρ= .ok w):ZJ (z4 f (z4 g (z4 h (z4 i ze)))) ρ= .ok (.tup [x,y,z,w]):=by
 unfold ZJ z4 ze
 rw [hf,hg,hh,hi]; rfl
def Dst (ws:List Str):Prop:=∀ (k:Nat) (w:Str),ws[k]? =some w->w ∉ ws.take k
theorem Dst.add {ws:List Str} (h:Dst ws) {w:Str} (hw:w ∉ ws):Dst (ws++[w]):=fun k x hx=>by
 by_cases hk:k < ws.length
 ·rw [List.getElem?_append_left hk] at hx
  rw [List.take_append_of_le_length (by omega)]
  exact h k x hx
 ·rw [List.getElem?_append_right (by omega)] at hx
  have hk' :k=ws.length:=by
   rcases Nat.lt_or_ge (k - ws.length) 1 with z | z
   ·omega
   ·rw [List.getElem?_eq_none (by simpa using z)] at hx; cases hx
  subst hk'
  rw [Nat.sub_self] at hx
  cases hx
  rw [List.take_left']
  ·exact hw
  ·rfl
abbrev JY:En->RS:=zF (Z5 5 (za 2 f_n (z4 (vE 0) (z4 (zc zl (zc zl (vE 1) (cE (.int 5))) (zc Zn (cE (.int 5)) (vE 4))) (ze)))))
  (ifS (zY Ut (vB 5) (vB 3)) (Ux 3 (vE 5)) (nxS))
theorem jA (ns:List Int) (k:Int) (h0:0<=k):∀ (js:List Nat) (ws:List Str) (x4 x5:Sl),js.length+ws.length<=4->Dst ws->(∀ w∈ws,zI (.str w)=true)->
  ∃ ws' y4 y5,jk (Za 4) JY (js.map fun (j:Nat)=>T.int (0+(j:Int))) [.vl (scr ns), .vl (.int k), .un, .ow (ws.map T.str),x4,x5]= .nx [.vl (scr ns), .vl (.int k), .un, .ow (ws'.map T.str),y4,y5]/\ws'.length<=4/\Dst ws' /\(∀ w∈ws',zI (.str w)=true)/\(0 < js.length+ws.length->0 < ws'.length)
 | [],ws,x4,x5,hl,hd,hw=>⟨ws,x4,x5,rfl,by simpa using hl,hd,hw,fun h=>by simpa using h⟩
 | j :: js,ws,x4,x5,hl,hd,hw=>by
  obtain ⟨w,ew,hw'⟩:=Wp ns (k+5+5*(0+(j:Int))) (by omega)
  have hl' :js.length+ws.length+1<=4:=by simpa [List.length_cons,Nat.add_right_comm] using hl
  have e:jk (Za 4) JY ((j :: js).map fun (j:Nat)=>T.int (0+(j:Int))) [.vl (scr ns), .vl (.int k), .un, .ow (ws.map T.str),x4,x5]=match JY [.vl (scr ns), .vl (.int k), .un, .ow (ws.map T.str), .vl (.int (0+(j:Int))),x5] with
   | .nx ρ2=>jk (Za 4) JY (js.map fun (j:Nat)=>T.int (0+(j:Int))) ρ2
   | .ct ρ2=>jk (Za 4) JY (js.map fun (j:Nat)=>T.int (0+(j:Int))) ρ2
   | .bk ρ2=> .nx ρ2
   | r=>r:=rfl
  have eb:JY [.vl (scr ns), .vl (.int k), .un, .ow (ws.map T.str), .vl (.int (0+(j:Int))),x5]= .nx [.vl (scr ns), .vl (.int k), .un, .ow ((if w∈ws then ws else ws++[w]).map T.str), .vl (.int (0+(j:Int))), .vl (.str w)]:=by
   have w3o:∀ (a b c:Sl) (ts:List T) (ρ:En),vB 3 (a :: b :: c :: .ow ts :: ρ)= .ok (.lst ts):=fun _ _ _ _ _=>rfl
   have hset:∀ t,([.vl (scr ns), .vl (.int k), .un, .ow (ws.map T.str), .vl (.int (0+(j:Int))),x5]:En).set 5 (.vl t)=[.vl (scr ns), .vl (.int k), .un, .ow (ws.map T.str), .vl (.int (0+(j:Int))), .vl t]:=fun _=>rfl
   have en:Ut (.str w) (.lst (ws.map T.str))= .ok (!decide (w∈ws)):=by
    show ((match Us (fun y=>eqF 30 y (.str w)) (ws.map T.str) with | some b=>R.ok b | none=> .bad)).bind (fun b=>R.ok (!b))=_
    rw [wS]; rfl
   simp only [JY,ZK,jR,ji,v0,v1,v4,zA,ZX,bOk,Zj,vJ,ew,ZQ,hset,Jd,ZN,w5,w3o,en]
   by_cases hm:w∈ws
   ·rw [decide_eq_true hm,if_pos hm]; rfl
   ·rw [decide_eq_false hm,if_neg hm]
    have hb:(ws.map T.str).length < bnd:=by rw [List.length_map]; exact Nat.lt_of_le_of_lt (show ws.length<=4 by omega) (by decide)
    show (if (ws.map T.str).length < bnd then RS.nx _ else .bad)=_
    rw [if_pos hb,List.map_append]
    rfl
  rw [e,eb]
  by_cases hm:w∈ws
  ·rw [if_pos hm]
   obtain ⟨ws',y4,y5,r1,r2,r3,r4,r5⟩:=jA ns k h0 js ws (.vl (.int (0+(j:Int)))) (.vl (.str w)) (by omega) hd hw
   exact ⟨ws',y4,y5,r1,r2,r3,r4,fun _=>r5 (by have:=List.length_pos_of_mem hm; omega)⟩
  ·rw [if_neg hm]
   obtain ⟨ws',y4,y5,r1,r2,r3,r4,r5⟩:=jA ns k h0 js (ws++[w]) (.vl (.int (0+(j:Int)))) (.vl (.str w)) (by simp only [List.length_append,List.length_cons,List.length_nil]; omega) (hd.add hm) (fun x hx=>by
    rcases List.mem_append.mp hx with z | z
    ·exact hw x z
    ·rw [List.mem_singleton.mp z]; exact hw')
   exact ⟨ws',y4,y5,r1,r2,r3,r4,fun _=>r5 (by simp only [List.length_append,List.length_cons,List.length_nil]; omega)⟩
abbrev Q7:En->R T:=ZJ (z4 (vE 1) (z4 (zc zl (cE (.int 1)) (za 3 f_5 (z4 (vE 2) (z4 (zc zl (zc zl (vE 3) (cE (.int 30))) (vE 0)) (z4 (cE (.int 20)) (ze)))))) (ze)))
theorem wT (ns:List Int) (k:Int) (h0:0<=k):∀ (ws:List Str) (i:Nat) (x0 x1:Sl),(∀ w∈ws,zI (.str w)=true)->∃ cs:List T,zx (Z1 0 1) Zf Q7 (((ws.map T.str).zipIdx i).map fun p=>T.tup [.int (p.2:Nat),p.1]) [x0,x1, .vl (scr ns), .vl (.int k)]= .ok cs/\cs.all zq=true/\cs.map zM=ws
 | [],i,x0,x1,_=>⟨[],rfl,rfl,rfl⟩
 | w :: ws,i,x0,x1,hw=>by
  obtain ⟨p,e,p0,p1⟩:=zT ns (k+30+i) 20 (by omega) (by omega)
  obtain ⟨cs,r1,r2,r3⟩:=wT ns k h0 ws (i+1) (.vl (.int (i:Int))) (.vl (.str w)) fun x hx=>hw x (List.mem_cons_of_mem _ hx)
  have ec:Q7 [.vl (.int (i:Int)), .vl (.str w), .vl (scr ns), .vl (.int k)]= .ok (.tup [.str w, .int (1+p)]):=by
   have ea:za 3 f_5 (z4 (vE 2) (z4 (zc zl (zc zl (vE 3) (cE (.int 30))) (vE 0)) (z4 (cE (.int 20)) (ze)))) [.vl (.int (i:Int)), .vl (.str w), .vl (scr ns), .vl (.int k)]= .ok (.int p):=by
    simp only [Zx,v2,v3,v0,zA,ZX,bOk,Zj,e]
   have eb:zc zl (cE (.int 1)) (za 3 f_5 (z4 (vE 2) (z4 (zc zl (zc zl (vE 3) (cE (.int 30))) (vE 0)) (z4 (cE (.int 20)) (ze))))) [.vl (.int (i:Int)), .vl (.str w), .vl (scr ns), .vl (.int k)]= .ok (.int (1+p)):=by
    rw [zA,ea]; rfl
   exact uC v1 eb
  refine ⟨.tup [.str w, .int (1+p)] :: cs, ?_, ?_, ?_⟩
  ·show ((Q7 [.vl (.int (i:Int)), .vl (.str w), .vl (scr ns), .vl (.int k)]).bind fun v=>(zx (Z1 0 1) Zf Q7 (((ws.map T.str).zipIdx (i+1)).map fun p=>T.tup [.int (p.2:Nat),p.1]) [.vl (.int (i:Int)), .vl (.str w), .vl (scr ns), .vl (.int k)]).bind fun vs=>R.ok (v :: vs))=_
   rw [ec,r1]; rfl
  ·rw [List.all_cons,r2,Bool.and_true]
   show (zI (.str w) && decide (1<=1+p) && decide (1+p<=20))=true
   rw [hw w List.mem_cons_self,decide_eq_true (by omega),decide_eq_true (by omega)]; rfl
  ·rw [List.map_cons,r3]; rfl
theorem yf (i j:Int):u0 (.int i) (.int j)= .ok (.int (if j < i then j else i)):=rfl
theorem Ys (ns:List Int) (k:Int) (h0:0<=k):∃ t,f_k [scr ns, .int k]= .ok t/\∀ d,isK (d+1) t=true:=by
 have e:f_k [scr ns, .int k]=zk (b_k f_5 f_n [.vl (scr ns), .vl (.int k), .un, .un, .un, .un]):=rfl
 obtain ⟨p,e0,p0,p1⟩:=zT ns k 3 h0 (by omega)
 rw [e,b_k,ZK]
 simp only [Jd,ZN,Zx,v0,v1,ZX,bOk,e0,gtI,ZQ]
 cases hp:decide (p > 0) with
 | true=>
  obtain ⟨q,e1,q0,q1⟩:=zT ns (k+1) 7 (by omega) (by omega)
  obtain ⟨q3,e3,_,_⟩:=zT ns (k+3) 8 (by omega) (by omega)
  obtain ⟨q4,e4,a4,b4⟩:=zT ns (k+4) 3 (by omega) (by omega)
  obtain ⟨q2,e2,a2,b2⟩:=zT ns (k+2) 4 (by omega) (by omega)
  have hset:∀ t x,([.vl (scr ns), .vl (.int k),x, .un, .un, .un]:En).set 2 (.vl t)=[.vl (scr ns), .vl (.int k), .vl t, .un, .un, .un]:=fun _ _=>rfl
  have fin:∀ low:Int, -20<=low->low<=20->∃ t,zk (zO (ZJ (z4 (cE (.str "whole")) (z4 (vE 2) (z4 (zc u0 (cE (.int 20)) (zc zl (vE 2) (za 3 f_5 (z4 (vE 0) (z4 (zc zl (vE 1) (cE (.int 2))) (z4 (cE (.int 4)) (ze))))))) (ze))))) [.vl (scr ns), .vl (.int k), .vl (.int low), .un, .un, .un])= .ok t/\∀ d,isK (d+1) t=true:=by
   intro low hl1 hl2
   refine ⟨.tup [.str "whole", .int low, .int (if low+q2 < 20 then low+q2 else 20)], ?_,fun d=> ?_⟩
   ·rw [Zi,je]
    refine VE rfl rfl ?_
    simp only [j6,UL,j7,zA,v2,v0,v1,Zx,ZX,bOk,Zj,e2,yf]
   ·show (decide (-20<=low) && decide (low<=_) && decide (_<=(20:Int)))=true
    rw [decide_eq_true hl1,decide_eq_true (by split <;> omega),decide_eq_true (by split <;> omega)]; rfl
  simp only [if_true,ZK,jR,Jd,zA,Zx,v0,v1,ZX,bOk,Zj,e1,jz,ZQ,hset,ZN,e3,eqI]
  cases hq:(q3 == 0) with
  | true=>
   have h3:q4=0\/q4=1\/q4=2:=by omega
   rcases h3 with rfl | rfl | rfl
   ·obtain ⟨t,r,s⟩:=fin (-20) (by omega) (by omega)
    refine ⟨t, ?_,s⟩
    rw [← r]
    simp only [if_true,e4,bOk]
    have hv:∀ ρ,(Wt (z4 (Jq (cE (.int 20))) (z4 (cE (.int 17)) (z4 (cE (.int 20)) (ze)))) ρ)= .ok (.lst [.int (-20), .int 17, .int 20]):=fun _=>rfl
    simp only [hv,bOk]
    have hx:ixT (.lst [.int (-20), .int 17, .int 20]) (.int 0)= .ok (.int (-20)):=rfl
    simp only [hx,ZQ,hset,Zi]
    generalize ZJ _ _=z
    cases z <;> rfl
   ·obtain ⟨t,r,s⟩:=fin (17) (by omega) (by omega)
    refine ⟨t, ?_,s⟩
    rw [← r]
    simp only [if_true,e4,bOk]
    have hv:∀ ρ,(Wt (z4 (Jq (cE (.int 20))) (z4 (cE (.int 17)) (z4 (cE (.int 20)) (ze)))) ρ)= .ok (.lst [.int (-20), .int 17, .int 20]):=fun _=>rfl
    simp only [hv,bOk]
    have hx:ixT (.lst [.int (-20), .int 17, .int 20]) (.int 1)= .ok (.int (17)):=rfl
    simp only [hx,ZQ,hset,Zi]
    generalize ZJ _ _=z
    cases z <;> rfl
   ·obtain ⟨t,r,s⟩:=fin (20) (by omega) (by omega)
    refine ⟨t, ?_,s⟩
    rw [← r]
    simp only [if_true,e4,bOk]
    have hv:∀ ρ,(Wt (z4 (Jq (cE (.int 20))) (z4 (cE (.int 17)) (z4 (cE (.int 20)) (ze)))) ρ)= .ok (.lst [.int (-20), .int 17, .int 20]):=fun _=>rfl
    simp only [hv,bOk]
    have hx:ixT (.lst [.int (-20), .int 17, .int 20]) (.int 2)= .ok (.int (20)):=rfl
    simp only [hx,ZQ,hset,Zi]
    generalize ZJ _ _=z
    cases z <;> rfl
  | false=>
   obtain ⟨t,r,s⟩:=fin (q - 3) (by omega) (by omega)
   refine ⟨t, ?_,s⟩
   rw [← r]
   simp only [Bool.false_eq_true,if_false,nxS,Zi]
   generalize ZJ _ _=z
   cases z <;> rfl
 | false=>
  obtain ⟨q,e1,q0,q1⟩:=zT ns (k+1) 4 (by omega) (by omega)
  simp only [Bool.false_eq_true,if_false,nxS,ZK]
  have ei:j5 (zc zl (cE (.int 1)) (za 3 f_5 (z4 (vE 0) (z4 (zc zl (vE 1) (cE (.int 1))) (z4 (cE (.int 4)) (ze)))))) [.vl (scr ns), .vl (.int k), .un, .ow [], .un, .un]= .ok (rng 0 (1+q).toNat):=by
   unfold j5
   simp only [zA,Zx,v0,v1,ZX,bOk,Zj,e1]
   rw [if_pos ⟨by omega,by omega⟩]
  have el:qC 3 ze [.vl (scr ns), .vl (.int k), .un, .un, .un, .un]= .nx [.vl (scr ns), .vl (.int k), .un, .ow [], .un, .un]:=rfl
  rw [el]
  have hn:(List.range (1+q).toNat).length=(1+q).toNat:=List.length_range
  obtain ⟨ws,y4,y5,r1,r2,r3,r4,r5⟩:=jA ns k h0 (List.range (1+q).toNat) [] .un .un (by rw [hn,List.length_nil]; omega) (fun k w h=>by cases h) (fun w h=>by cases h)
  have hpos:0 < ws.length:=r5 (by rw [hn,List.length_nil]; omega)
  have ef:U4 (j5 (zc zl (cE (.int 1)) (za 3 f_5 (z4 (vE 0) (z4 (zc zl (vE 1) (cE (.int 1))) (z4 (cE (.int 4)) (ze))))))) (Za 4) JY [.vl (scr ns), .vl (.int k), .un, .ow [], .un, .un]= .nx [.vl (scr ns), .vl (.int k), .un, .ow (ws.map T.str),y4,y5]:=by
   unfold U4
   rw [ei,ZQ]
   exact r1
  obtain ⟨cs,s1,s2,s3⟩:=wT ns k h0 ws 0 .un .un r4
  have hcl:cs.length=ws.length:=by rw [← s3,List.length_map]
  refine ⟨.tup [.str "pick", .tup cs], ?_,fun d=> ?_⟩
  ·dsimp only
   rw [ef]
   dsimp only
   rw [Zi,je]
   refine uC rfl ?_
   rw [jM,ZD]
   have ee:Yg (vE 3) (frz [.vl (scr ns), .vl (.int k), .un, .ow (ws.map T.str),y4,y5])= .ok (ZC (ws.map T.str)):=rfl
   rw [ee,bOk]
   unfold Zs
   rw [if_pos (by unfold ZC; rw [List.length_map,List.length_zipIdx,List.length_map]; exact Nat.le_trans r2 (by decide))]
   have ec:zx (Z1 0 1) Zf Q7 (ZC (ws.map T.str)) (wO 2 [0,1] (frz [.vl (scr ns), .vl (.int k), .un, .ow (ws.map T.str),y4,y5]))= .ok cs:=s1
   rw [ec]
   rfl
  ·show (decide (1<=cs.length) && decide (cs.length<=4) && cs.all zq && decide ((dd [] (cs.map zM)).length=cs.length))=true
   have hd:(dd [] (cs.map zM)).length=cs.length:=by
    rw [s3,hcl]
    have:=(Je ws []).mpr (fun k w h=>by simpa using r3 k w h)
    simpa using this
   rw [decide_eq_true (by omega),decide_eq_true (by omega),s2,decide_eq_true hd]; rfl
theorem UN (c:Int) (j:Int) (hc:Jp c j):Zn (.int c) (.int j)= .ok (.int (c*j)):=by
 show (if Jp c j then R.ok (T.int (c*j)) else .bad)=_
 rw [if_pos hc]
theorem Q8 (j:Int):Zn (.int 3) (.int j)= .ok (.int (3*j)):=UN _ _ (.inl ⟨by decide,by decide⟩)
theorem Q9 (j:Int):Zn (.int 50) (.int j)= .ok (.int (50*j)):=UN _ _ (.inl ⟨by decide,by decide⟩)
abbrev QF (c:List T->R T):En->R T:=za 3 c (z4 (vE 1) (z4 (zc zl (zc zl (zc Zn (cE (.int 3)) (vE 2)) (cE (.int 40))) (zc Zn (cE (.int 50)) (vE 0))) (z4 (zc jr (vE 3) (cE (.int 1))) (ze))))
theorem wt (ns:List Int):∀ (d n:Nat),d<=n->1<=d->∀ k:Int,0<=k->∃ t,S_1 n 0 [scr ns, .int k, .int (d:Int)]= .ok t/\isK d t=true
 | d+1,n+1,hn,_,k,h0=>by
  have e:S_1 (n+1) 0 [scr ns, .int k, .int ((d+1:Nat):Int)]=zk (b_1 f_5 f_k (S_1 n 0) [.vl (scr ns), .vl (.int k), .vl (.int ((d+1:Nat):Int)), .un, .un, .un]):=rfl
  obtain ⟨p,e0,p0,p1⟩:=zT ns k 5 h0 (by omega)
  obtain ⟨l,el,hl⟩:=Ys ns (k+1) (by omega)
  have hset:([.vl (scr ns), .vl (.int k), .vl (.int ((d+1:Nat):Int)), .un, .un, .un]:En).set 3 (.vl (.int p))=[.vl (scr ns), .vl (.int k), .vl (.int ((d+1:Nat):Int)), .vl (.int p), .un, .un]:=rfl
  rw [e,b_1]
  simp only [ZK,jR,Jd,Wl,ZN,Zx,ji,v0,v1,v2,ZX,bOk,e0,ZQ,hset,w2,w3,eqI,ltI,Zj,Zi,j6,UL,j7,zA,el]
  have hd1:((((d+1:Nat):Int) == 1))=decide (d=0):=by
   by_cases h:d=0
   ·subst h; rfl
   ·rw [decide_eq_false h,beq_eq_false_iff_ne]; omega
  rw [hd1]
  by_cases hleaf:d=0\/p < 2
  ·refine ⟨l, ?_,hl d⟩
   rcases hleaf with h | h
   ·rw [decide_eq_true h]; rfl
   ·rw [decide_eq_true h]
    cases decide (d=0) <;> rfl
  ·have hd0:¬ d=0:=fun z=>hleaf (.inl z)
   have hp2:¬ p < 2:=fun z=>hleaf (.inr z)
   have hsub:((d+1:Nat):Int) - 1=(d:Int):=by omega
   rw [decide_eq_false hd0,decide_eq_false hp2]
   simp only [Bool.false_eq_true,if_false,ZQ,nxS,w3,v0,v1,v2,bOk,ltI,ZX]
   cases hp:decide (p < 4) with
   | true=>
    obtain ⟨q,e1,q0,q1⟩:=zT ns (k+1) 3 (by omega) (by omega)
    have hj:∀ j:Nat,∃ t,QF (S_1 n 0) [.vl (.int (0+(j:Int))), .vl (scr ns), .vl (.int k), .vl (.int ((d+1:Nat):Int))]= .ok t/\isK d t=true:=fun j=>by
     obtain ⟨t,r,s⟩:=wt ns d n (by omega) (by omega) (3*k+40+50*(0+(j:Int))) (by omega)
     refine ⟨t, ?_,s⟩
     simp only [QF,Zx,v0,v1,v2,v3,zA,ZX,bOk,Q8,Q9,Zj,jz,hsub,r]
    obtain ⟨g,hg⟩:=Classical.skolem.mp hj
    have ei:j5 (zc zl (cE (.int 1)) (za 3 f_5 (z4 (vE 0) (z4 (zc zl (vE 1) (cE (.int 1))) (z4 (cE (.int 3)) (ze)))))) [.vl (scr ns), .vl (.int k), .vl (.int ((d+1:Nat):Int)), .vl (.int p), .un, .un]= .ok (rng 0 (1+q).toNat):=by
     unfold j5
     simp only [zA,Zx,v0,v1,ZX,bOk,Zj,e1]
     rw [if_pos ⟨by omega,by omega⟩]
    have ec:Zs (Za 0) Zf (QF (S_1 n 0)) 1 [0,1,2] [.vl (scr ns), .vl (.int k), .vl (.int ((d+1:Nat):Int)), .vl (.int p), .un, .un] (rng 0 (1+q).toNat)= .ok ((rng 0 (1+q).toNat).map fun t=>match t with | .int j=>g j.toNat | t=>t):=
     Zh (rng 0 (1+q).toNat) (by unfold rng; rw [List.length_map,List.length_range]; exact Nat.le_trans (show (1+q).toNat<=3 by omega) (by decide)) fun t ht=>by
      unfold rng at ht
      obtain ⟨j,_,rfl⟩:=List.mem_map.mp ht
      show QF (S_1 n 0) [.vl (.int (0+(j:Int))), .vl (scr ns), .vl (.int k), .vl (.int ((d+1:Nat):Int))]= .ok (g (0+(j:Int)).toNat)
      rw [(hg j).1,Int.zero_add,Int.toNat_natCast]
    generalize hcs:((rng 0 (1+q).toNat).map fun t=>match t with | .int j=>g j.toNat | t=>t)=cs at ec
    have hlen:cs.length=(1+q).toNat:=by rw [← hcs]; unfold rng; rw [List.length_map,List.length_map,List.length_range]
    have hall:∀ t∈cs,isK d t=true:=fun t ht=>by
     rw [← hcs] at ht
     obtain ⟨u,hu,rfl⟩:=List.mem_map.mp ht
     unfold rng at hu
     obtain ⟨j,_,rfl⟩:=List.mem_map.mp hu
     exact (hg _).2
    refine ⟨.tup [.str "row", .tup cs], ?_, ?_⟩
    ·have hs4:([.vl (scr ns), .vl (.int k), .vl (.int ((d+1:Nat):Int)), .vl (.int p), .un, .un]:En).set 4 (.vl (.lst cs))=[.vl (scr ns), .vl (.int k), .vl (.int ((d+1:Nat):Int)), .vl (.int p), .vl (.lst cs), .un]:=rfl
     simp only [if_true,ZD,ei,bOk,ec,ZQ,hs4,j6,UL,j7]
     rfl
    ·show (decide (1<=cs.length) && decide (cs.length<=3) && cs.all (isK d))=true
     rw [decide_eq_true (by omega),decide_eq_true (by omega),List.all_eq_true.mpr hall]; rfl
   | false=>
    obtain ⟨q,e1,q0,q1⟩:=zT ns (k+1) 3 (by omega) (by omega)
    obtain ⟨q2,e2,_,_⟩:=zT ns (k+2) 3 (by omega) (by omega)
    obtain ⟨t,r,s⟩:=wt ns d n (by omega) (by omega) (3*k+40) (by omega)
    refine ⟨.tup [.str "many",t, .int q, .int (if q+q2 < 3 then q+q2 else 3)], ?_, ?_⟩
    ·have hs5:([.vl (scr ns), .vl (.int k), .vl (.int ((d+1:Nat):Int)), .vl (.int p), .un, .un]:En).set 5 (.vl (.int q))=[.vl (scr ns), .vl (.int k), .vl (.int ((d+1:Nat):Int)), .vl (.int p), .un, .vl (.int q)]:=rfl
     simp only [Bool.false_eq_true,if_false,v0,v1,zA,ZX,bOk,Zj,e1,ZQ,hs5,j6,UL,j7,je]
     refine VF rfl ?_ rfl ?_
     ·simp only [Zx,v0,v1,v2,zA,ZX,bOk,Q8,Zj,jz,hsub,r]
     ·have v5:∀ {t:T} {a b c d e:Sl} {ρ:En},vE 5 (a :: b :: c :: d :: e :: .vl t :: ρ)= .ok t:=rfl
      simp only [Zx,v0,v1,v5,zA,ZX,bOk,Zj,e2,yf]
    ·show (jd 0 3 (.int q) (.int _) && isK d t)=true
     rw [s,Bool.and_true]
     show (decide (0<=q) && decide (q<=_) && decide (_<=(3:Int)))=true
     rw [decide_eq_true (by omega),decide_eq_true (by split <;> omega),decide_eq_true (by split <;> omega)]; rfl
mutual
def dep:T->Nat
 | .tup xs=>U7 xs+1
 | .lst xs=>U7 xs+1
 | _=>1
def U7:List T->Nat
 | []=>0
 | t :: ts=>max (dep t) (U7 ts)
end
mutual
def siz:T->Nat
 | .tup xs=>U8 xs+1
 | .lst xs=>U8 xs+1
 | _=>1
def U8:List T->Nat
 | []=>0
 | t :: ts=>siz t+U8 ts
end
theorem jg {w:Str} {t:T} (h:isS w t=true):t= .str w:=by
 cases t with
 | str s=>
  have:(s == w)=true:=h
  rw [eq_of_beq this]
 | _=>cases h
theorem jm {lo hi:Int} {a b:T} (h:jd lo hi a b=true):∃ i j,a= .int i/\b= .int j:=by
 cases a with
 | int i=>
  cases b with
  | int j=>exact ⟨i,j,rfl,rfl⟩
  | _=>cases h
 | _=>cases h
structure Fit (D S:Nat) (t:T):Prop where
 so:sOk t
 dp:dep t<=D
 sz:siz t<=S
theorem Wq {c:T} (h:zq c=true):Fit 2 3 c:=by
 unfold zq at h
 split at h
 ·rename_i w i
  have hw:zI w=true:=by
   rw [Bool.and_eq_true,Bool.and_eq_true] at h
   exact h.1.1
  cases w with
  | str x=>
   have hx:(decide (1<=x.length) && decide (x.length<=3) && x.cps.toList.all zL)=true:=hw
   rw [Bool.and_eq_true,Bool.and_eq_true,decide_eq_true_eq,decide_eq_true_eq] at hx
   refine ⟨?_, ?_, ?_⟩
   ·simp only [sOk,wb,and_true]
    exact Nat.le_trans hx.1.2 (by decide)
   ·simp [dep,U7]
   ·simp [siz,U8]
  | _=>cases hw
 ·cases h
theorem vK {D S:Nat}:∀ {cs:List T},(∀ c∈cs,Fit D S c)->wb cs/\U7 cs<=D/\U8 cs<=S*cs.length
 | [],_=>⟨by simp only [wb],Nat.zero_le _,Nat.zero_le _⟩
 | c :: cs,h=>by
  obtain ⟨a,b,d⟩:=vK (cs:=cs) fun x hx=>h x (List.mem_cons_of_mem _ hx)
  obtain ⟨x,y,z⟩:=h c List.mem_cons_self
  refine ⟨?_, ?_, ?_⟩
  ·simp only [wb]; exact ⟨x,a⟩
  ·simp only [U7]; omega
  ·simp only [U8,List.length_cons,Nat.mul_add,Nat.mul_one]; omega
theorem Jf:∀ (d:Nat) (t:T),isK d t=true->Fit (2*d+2) (15*4 ^ d) t
 | 0,_,h=>by cases h
 | d+1,t,h=>by
  have hpow:4 ^ (d+1)=4*4 ^ d:=by rw [Nat.pow_succ,Nat.mul_comm]
  have hone:1<=4 ^ d:=Nat.pow_pos (by omega)
  have h:Wn (isK d) t=true:=h
  unfold Wn at h
  split at h
  ·rename_i hd r
   split at h
   ·rename_i e
    rw [jg e]
    unfold JW at h
    split at h
    ·obtain ⟨i,j,rfl,rfl⟩:=jm h
     refine ⟨by simp only [sOk,wb,and_true]; decide,by simp only [dep,U7]; omega,by simp only [siz,U8]; omega⟩
    ·cases h
   ·split at h
    ·rename_i e
     rw [jg e]
     unfold uz at h
     split at h
     ·rename_i c
      unfold wR at h
      split at h
      ·rename_i cs
       rw [Bool.and_eq_true,Bool.and_eq_true,Bool.and_eq_true,decide_eq_true_eq,decide_eq_true_eq] at h
       obtain ⟨a,b,z⟩:=vK (D:=2) (S:=3) (cs:=cs) fun c hc=>Wq (List.all_eq_true.mp h.1.2 c hc)
       refine ⟨by simp only [sOk,wb,and_true]; exact ⟨by decide,a⟩,by simp only [dep,U7]; omega,by simp only [siz,U8]; omega⟩
      ·cases h
     ·cases h
    ·split at h
     ·rename_i e
      rw [jg e]
      unfold Q2 at h
      split at h
      ·rename_i c
       unfold jy at h
       split at h
       ·rename_i cs
        rw [Bool.and_eq_true,Bool.and_eq_true,decide_eq_true_eq,decide_eq_true_eq] at h
        obtain ⟨a,b,z⟩:=vK (D:=2*d+2) (S:=15*4 ^ d) (cs:=cs) fun c hc=>Jf d c (List.all_eq_true.mp h.2 c hc)
        have:15*4 ^ d*cs.length<=15*4 ^ d*3:=Nat.mul_le_mul_left _ h.1.2
        refine ⟨by simp only [sOk,wb,and_true]; exact ⟨by decide,a⟩,by simp only [dep,U7]; omega,by simp only [siz,U8]; omega⟩
       ·cases h
      ·cases h
     ·split at h
      ·rename_i e
       rw [jg e]
       unfold uA at h
       split at h
       ·rename_i c a b
        rw [Bool.and_eq_true] at h
        obtain ⟨i,j,rfl,rfl⟩:=jm h.1
        obtain ⟨x,y,z⟩:=Jf d c h.2
        refine ⟨by simp only [sOk,wb,and_true]; exact ⟨by decide,x⟩,by simp only [dep,U7]; omega,by simp only [siz,U8]; omega⟩
       ·cases h
      ·cases h
  ·cases h
theorem VG {f:En->R T} {ρ:En} {x:T} (hf:f ρ= .ok x):ZJ (z4 f ze) ρ= .ok (.tup [x]):=by
 unfold ZJ z4 ze
 rw [hf]; rfl
inductive Kd where
 | whole (lo hi:Int)
 | pick (cs:List (Str×Int))
 | row (ks:List Kd)
 | many (k:Kd) (lo hi:Nat)
def jB (c:Str×Int):T:= .tup [.str c.1, .int c.2]
mutual
def Kd.t:Kd->T
 | .whole lo hi=> .tup [.str "whole", .int lo, .int hi]
 | .pick cs=> .tup [.str "pick", .tup (cs.map jB)]
 | .row ks=> .tup [.str "row", .tup (Kd.ts ks)]
 | .many k lo hi=> .tup [.str "many",k.t, .int (lo:Int), .int (hi:Int)]
def Kd.ts:List Kd->List T
 | []=>[]
 | k :: ks=>k.t :: Kd.ts ks
end
theorem Kd.ts_map:∀ ks:List Kd,Kd.ts ks=ks.map Kd.t
 | []=>by simp only [Kd.ts,List.map_nil]
 | k :: ks=>by simp only [Kd.ts,List.map_cons,Kd.ts_map ks]
def Kd.Ok:Nat->Kd->Prop
 | 0,_=>False
 | _+1, .whole lo hi=> -20<=lo/\lo<=hi/\hi<=20
 | _+1, .pick cs=>1<=cs.length/\cs.length<=4/\(∀ c∈cs,zI (.str c.1)=true/\1<=c.2/\c.2<=20)/\Dst (cs.map (·.1))
 | d+1, .row ks=>1<=ks.length/\ks.length<=3/\∀ k∈ks,Kd.Ok d k
 | d+1, .many k lo hi=>lo<=hi/\hi<=3/\Kd.Ok d k
theorem uD {c:T} (h:zq c=true):∃ p:Str×Int,c=jB p/\zI (.str p.1)=true/\1<=p.2/\p.2<=20:=by
 unfold zq at h
 split at h
 ·rename_i w i
  rw [Bool.and_eq_true,Bool.and_eq_true,decide_eq_true_eq,decide_eq_true_eq] at h
  cases w with
  | str x=>exact ⟨(x,i),rfl,h.1.1,h.1.2,h.2⟩
  | _=>cases h.1.1
 ·cases h
theorem wu {α:Type} {P:T->Prop} {Q:α->Prop} {f:α->T} (H:∀ t,P t->∃ a,t=f a/\Q a):∀ (ts:List T),(∀ t∈ts,P t)->∃ as:List α,ts=as.map f/\∀ a∈as,Q a
 | [],_=>⟨[],rfl,fun _ h=>nomatch h⟩
 | t :: ts,h=>by
  obtain ⟨a,rfl,ha⟩:=H t (h t List.mem_cons_self)
  obtain ⟨as,rfl,has⟩:=wu H ts fun u hu=>h u (List.mem_cons_of_mem _ hu)
  exact ⟨a :: as,rfl,fun b hb=>by
   rcases List.mem_cons.mp hb with rfl | hb
   ·exact ha
   ·exact has b hb⟩
theorem wv:∀ (d:Nat) (t:T),isK d t=true->∃ k:Kd,t=k.t/\k.Ok d
 | 0,_,h=>by cases h
 | d+1,t,h=>by
  have h:Wn (isK d) t=true:=h
  unfold Wn at h
  split at h
  ·rename_i hd r
   split at h
   ·rename_i e
    rw [jg e]
    unfold JW at h
    split at h
    ·obtain ⟨i,j,rfl,rfl⟩:=jm h
     have h:(decide (-20<=i) && decide (i<=j) && decide (j<=20))=true:=h
     rw [Bool.and_eq_true,Bool.and_eq_true,decide_eq_true_eq,decide_eq_true_eq,decide_eq_true_eq] at h
     exact ⟨.whole i j,by simp only [Kd.t],h.1.1,h.1.2,h.2⟩
    ·cases h
   ·split at h
    ·rename_i e
     rw [jg e]
     unfold uz at h
     split at h
     ·rename_i c
      unfold wR at h
      split at h
      ·rename_i cs
       rw [Bool.and_eq_true,Bool.and_eq_true,Bool.and_eq_true,decide_eq_true_eq,decide_eq_true_eq,decide_eq_true_eq] at h
       obtain ⟨⟨⟨h1,h2⟩,h3⟩,h4⟩:=h
       obtain ⟨as,rfl,has⟩:=wu (fun t ht=>uD ht) cs fun c hc=>List.all_eq_true.mp h3 c hc
       rw [List.length_map] at h1 h2
       refine ⟨.pick as,by simp only [Kd.t],h1,h2,has, ?_⟩
       have e1:(as.map jB).map zM=as.map (·.1):=by rw [List.map_map]; rfl
       rw [e1] at h4
       have:=(Je (as.map (·.1)) []).mp (by rw [h4,List.length_map,List.length_map]; simp)
       exact fun k w hw hm=>this k w hw (by simpa using hm)
      ·cases h
     ·cases h
    ·split at h
     ·rename_i e
      rw [jg e]
      unfold Q2 at h
      split at h
      ·rename_i c
       unfold jy at h
       split at h
       ·rename_i cs
        rw [Bool.and_eq_true,Bool.and_eq_true,decide_eq_true_eq,decide_eq_true_eq] at h
        obtain ⟨ks,rfl,hks⟩:=wu (fun t ht=>wv d t ht) cs fun c hc=>List.all_eq_true.mp h.2 c hc
        rw [List.length_map] at h
        exact ⟨.row ks,by simp only [Kd.t,Kd.ts_map],h.1.1,h.1.2,hks⟩
       ·cases h
      ·cases h
     ·split at h
      ·rename_i e
       rw [jg e]
       unfold uA at h
       split at h
       ·rename_i c a b
        rw [Bool.and_eq_true] at h
        obtain ⟨h1,h2⟩:=h
        obtain ⟨i,j,rfl,rfl⟩:=jm h1
        obtain ⟨k,rfl,hk⟩:=wv d c h2
        have h1:(decide (0<=i) && decide (i<=j) && decide (j<=3))=true:=h1
        rw [Bool.and_eq_true,Bool.and_eq_true,decide_eq_true_eq,decide_eq_true_eq,decide_eq_true_eq] at h1
        obtain ⟨⟨a1,a2⟩,a3⟩:=h1
        obtain ⟨m,rfl⟩:=Int.eq_ofNat_of_zero_le a1
        obtain ⟨n,rfl⟩:=Int.eq_ofNat_of_zero_le (Int.le_trans a1 a2)
        exact ⟨.many k m n,by simp only [Kd.t],by omega,by omega,hk⟩
       ·cases h
      ·cases h
  ·cases h
def uE (made:List (List T)):List (List T)->List (List T)
 | []=>made
 | ls :: r=>uE (made.flatMap fun a=>ls.map fun x=>a++[x]) r
abbrev QG (ls:List (List T)):List T:=(uE [[]] ls).map T.tup
mutual
def Kd.all:Kd->List T
 | .whole lo hi=>(List.range (hi+1 - lo).toNat).map fun (i:Nat)=>T.int (lo+(i:Int))
 | .pick cs=>cs.map fun c=>T.str c.1
 | .row ks=>QG (Kd.alls ks)
 | .many k lo hi=>(List.range (hi+1 - lo)).flatMap fun i=>QG (List.replicate (lo+i) k.all)
def Kd.alls:List Kd->List (List T)
 | []=>[]
 | k :: ks=>k.all :: Kd.alls ks
end
theorem Kd.alls_map:∀ ks:List Kd,Kd.alls ks=ks.map Kd.all
 | []=>by simp only [Kd.alls,List.map_nil]
 | k :: ks=>by simp only [Kd.alls,List.map_cons,Kd.alls_map ks]
def prd:List Nat->Nat
 | []=>1
 | n :: r=>n*prd r
theorem ww:∀ {ns:List Nat},(∀ n∈ns,1<=n)->1<=prd ns
 | [],_=>Nat.le_refl _
 | n :: ns,h=>Nat.mul_pos (h n List.mem_cons_self) (ww fun m hm=>h m (List.mem_cons_of_mem _ hm))
theorem wU {α β:Type} (f:α->List β) (n:Nat):∀ as:List α,(∀ a∈as,(f a).length=n)->(as.flatMap f).length=as.length*n
 | [],_=>by simp
 | a :: as,h=>by
  rw [List.flatMap_cons,List.length_append,h a List.mem_cons_self,wU f n as fun b hb=>h b (List.mem_cons_of_mem _ hb),List.length_cons,Nat.add_mul,Nat.one_mul,Nat.add_comm]
theorem JZ:∀ (ls:List (List T)) (made:List (List T)),(uE made ls).length=made.length*prd (ls.map (·.length))
 | [],made=>by simp [uE,prd]
 | l :: ls,made=>by
  rw [uE,JZ ls,wU _ l.length made fun a _=>List.length_map ..,List.map_cons,prd,Nat.mul_assoc]
theorem wx (n:Nat):∀ m:Nat,prd (List.replicate m n)=n ^ m
 | 0=>rfl
 | m+1=>by rw [List.replicate_succ,prd,wx n m,Nat.pow_succ,Nat.mul_comm]
theorem wV (ls:List (List T)):(QG ls).length=prd (ls.map (·.length)):=by
 unfold QG
 rw [List.length_map,JZ,List.length_singleton,Nat.one_mul]
def pw (n lo hi:Nat):Nat:=((List.range (hi+1 - lo)).map fun i=>n ^ (lo+i)).sum
theorem Jg (k:Kd) (lo hi:Nat):(Kd.many k lo hi).all.length=pw k.all.length lo hi:=by
 rw [Kd.all,List.length_flatMap,pw]
 congr 1
 refine List.map_congr_left fun i _=> ?_
 rw [wV,List.map_replicate,wx]
theorem Jh (ks:List Kd):(Kd.row ks).all.length=prd (ks.map fun k=>k.all.length):=by
 rw [Kd.all,wV,Kd.alls_map,List.map_map]; rfl
theorem jC (lo hi:Int):(Kd.whole lo hi).all.length=(hi+1 - lo).toNat:=by
 rw [Kd.all,List.length_map,List.length_range]
theorem Ji (cs:List (Str×Int)):(Kd.pick cs).all.length=cs.length:=by
 rw [Kd.all,List.length_map]
theorem Yt {lo hi:Nat} (h:lo<=hi) (h3:hi<=3):(lo=0/\hi=0)\/(lo=0/\hi=1)\/(lo=0/\hi=2)\/(lo=0/\hi=3)\/(lo=1/\hi=1)\/(lo=1/\hi=2)\/(lo=1/\hi=3)\/(lo=2/\hi=2)\/(lo=2/\hi=3)\/(lo=3/\hi=3):=by omega
def iv (b:Bool):Nat:=if b then 1 else 0
theorem Qa (n:Nat) {lo hi:Nat} (h:lo<=hi) (h3:hi<=3):pw n lo hi=iv (lo == 0)+n*iv (decide (lo<=1) && decide (1<=hi))+n*n*iv (decide (lo<=2) && decide (2<=hi))+n*n*n*iv (hi == 3):=by
 rcases Yt h h3 with ⟨rfl,rfl⟩ | ⟨rfl,rfl⟩ | ⟨rfl,rfl⟩ | ⟨rfl,rfl⟩ | ⟨rfl,rfl⟩ | ⟨rfl,rfl⟩ | ⟨rfl,rfl⟩ | ⟨rfl,rfl⟩ | ⟨rfl,rfl⟩ | ⟨rfl,rfl⟩ <;>
  simp [pw,List.range_succ,iv,Nat.pow_succ]
 all_goals omega
theorem Qb {n:Nat} (hn:1<=n) {lo hi:Nat} (h:lo<=hi) (h3:hi<=3):1<=pw n lo hi:=by
 have h2:1<=n*n:=Nat.mul_pos hn hn
 have h1:1<=n*n*n:=Nat.mul_pos h2 hn
 rw [Qa n h h3]
 rcases Yt h h3 with ⟨rfl,rfl⟩ | ⟨rfl,rfl⟩ | ⟨rfl,rfl⟩ | ⟨rfl,rfl⟩ | ⟨rfl,rfl⟩ | ⟨rfl,rfl⟩ | ⟨rfl,rfl⟩ | ⟨rfl,rfl⟩ | ⟨rfl,rfl⟩ | ⟨rfl,rfl⟩ <;>
  simp [iv] <;> omega
theorem vL {n N:Nat} (hn:n<=N) {lo hi:Nat} (h:lo<=hi) (h3:hi<=3):pw n lo hi<=1+N+N*N+N*N*N:=by
 have h2:n*n<=N*N:=Nat.mul_le_mul hn hn
 have h1:n*n*n<=N*N*N:=Nat.mul_le_mul h2 hn
 rw [Qa n h h3]
 rcases Yt h h3 with ⟨rfl,rfl⟩ | ⟨rfl,rfl⟩ | ⟨rfl,rfl⟩ | ⟨rfl,rfl⟩ | ⟨rfl,rfl⟩ | ⟨rfl,rfl⟩ | ⟨rfl,rfl⟩ | ⟨rfl,rfl⟩ | ⟨rfl,rfl⟩ | ⟨rfl,rfl⟩ <;>
  simp [iv] <;> omega
theorem yg {N:Nat} (hN:1<=N):∀ (ns:List Nat),(∀ n∈ns,n<=N)->prd ns<=N ^ ns.length
 | [],_=>Nat.le_refl _
 | n :: ns,h=>by
  rw [prd,List.length_cons,Nat.pow_succ,Nat.mul_comm]
  exact Nat.mul_le_mul (yg hN ns fun m hm=>h m (List.mem_cons_of_mem _ hm)) (h n List.mem_cons_self)
theorem Jj:∀ (d:Nat) (k:Kd),k.Ok d->1<=k.all.length
 | 0,_,h=>h.elim
 | d+1, .whole lo hi,h=>by
  obtain ⟨_,h2,_⟩:=h
  rw [jC]; omega
 | d+1, .pick cs,h=>by
  rw [Ji]; exact h.1
 | d+1, .row ks,h=>by
  rw [Jh]
  refine ww fun n hn=> ?_
  obtain ⟨k,hk,rfl⟩:=List.mem_map.mp hn
  exact Jj d k (h.2.2 k hk)
 | d+1, .many k lo hi,h=>by
  rw [Jg]
  exact Qb (Jj d k h.2.2) h.1 h.2.1
def mx:Nat->Nat
 | 0=>0
 | 1=>41
 | d+1=>1+mx d+mx d*mx d+mx d*mx d*mx d
theorem yh (d:Nat):41<=mx (d+1):=by
 induction d with
 | zero=>exact Nat.le_refl _
 | succ d ih=>
  show 41<=1+mx (d+1)+mx (d+1)*mx (d+1)+mx (d+1)*mx (d+1)*mx (d+1)
  omega
theorem uF (d:Nat) (n:Nat) (h:n<=41):n<=mx (d+1):=Nat.le_trans h (yh d)
theorem Yu {N m:Nat} (hN:1<=N) (h:m<=3):N ^ m<=1+N+N*N+N*N*N:=by
 have:m=0\/m=1\/m=2\/m=3:=by omega
 rcases this with rfl | rfl | rfl | rfl <;> simp [Nat.pow_succ] <;> omega
theorem wW:∀ (d:Nat) (k:Kd),k.Ok d->k.all.length<=mx d
 | 0,_,h=>h.elim
 | d+1, .whole lo hi,h=>by
  obtain ⟨h1,h2,h3⟩:=h
  rw [jC]; exact uF d _ (by omega)
 | d+1, .pick cs,h=>by
  rw [Ji]; exact uF d _ (Nat.le_trans h.2.1 (by omega))
 | 1, .row ks,h=>by
  obtain ⟨h1,h2,h3⟩:=h
  match ks,h1,h3 with
  | k :: _,_,h3=>exact (h3 k List.mem_cons_self).elim
 | d+2, .row ks,h=>by
  obtain ⟨h1,h2,h3⟩:=h
  rw [Jh]
  have hp:=Nat.le_trans (by omega:1<=41) (yh d)
  have:=yg hp (ks.map fun k=>k.all.length) fun n hn=>by
   obtain ⟨k,hk,rfl⟩:=List.mem_map.mp hn
   exact wW (d+1) k (h3 k hk)
  rw [List.length_map] at this
  exact Nat.le_trans this (Yu hp h2)
 | 1, .many k lo hi,h=>h.2.2.elim
 | d+2, .many k lo hi,h=>by
  rw [Jg]
  exact vL (wW (d+1) k h.2.2) h.1 h.2.1
theorem zg {f g:En->RS} {ρ ρ' :En} (h:f ρ= .nx ρ'):zF f g ρ=g ρ' :=by rw [ZK,h]
theorem cs0 {x w:Str} {r:List T} {ρ:En}:zY eqC (zc ixT (vE 0) (cE (.int 0))) (cE (.str w)) (.vl (.tup (.str x :: r)) :: ρ)= .ok (x == w):=by
 rw [ZN,zA,v0,bOk,ZX,bOk,at0,bOk,ZX,bOk,eqS]; rfl
theorem yi {a b:T} {r:List T} {ρ:En}:zc ixT (vE 0) (cE (.int 1)) (.vl (.tup (a :: b :: r)) :: ρ)= .ok b:=by
 rw [zA,v0,bOk,ZX,bOk,at1]
theorem V7 {a b c:T} {r:List T} {ρ:En}:zc ixT (vE 0) (cE (.int 2)) (.vl (.tup (a :: b :: c :: r)) :: ρ)= .ok c:=by
 rw [zA,v0,bOk,ZX,bOk,at2]
theorem V8 {a b c d:T} {r:List T} {ρ:En}:zc ixT (vE 0) (cE (.int 3)) (.vl (.tup (a :: b :: c :: d :: r)) :: ρ)= .ok d:=by
 rw [zA,v0,bOk,ZX,bOk,at3]
theorem vM {f:En->R T} {ρ:En} {i:Int} (h:f ρ= .ok (.int i)):zc zl f (cE (.int 1)) ρ= .ok (.int (i+1)):=by
 rw [zA,h,bOk,ZX,bOk,Zj]
theorem Yv {f g:En->R T} {ρ:En} {i j:Int} (hf:f ρ= .ok (.int i)) (hg:g ρ= .ok (.int j)) (h: -1000000 < i/\i < 1000000/\ -1000000 < j/\j < 1000000):u8 f g ρ= .ok (rng i (j - i).toNat):=by
 unfold u8
 rw [hf,bOk,hg,bOk]
 exact if_pos h
theorem Qc {x:T} {m:Nat} (h:m<=3):Zn (.lst [x]) (.int (m:Int))= .ok (.lst (List.replicate m [x]).flatten):=by
 unfold Zn
 dsimp only
 have c:0<=(m:Int)/\(m:Int) < 1000000/\[x].length*(m:Int).toNat<=bnd:=by
  have hb:3<=bnd:=by decide
  refine ⟨by omega,by omega, ?_⟩
  rw [List.length_singleton,Int.toNat_natCast,Nat.one_mul]
  exact Nat.le_trans h hb
 rw [if_pos c,Int.toNat_natCast]
theorem wX {α:Type} (x:α):∀ m:Nat,(List.replicate m [x]).flatten=List.replicate m x
 | 0=>rfl
 | m+1=>by rw [List.replicate_succ,List.replicate_succ,List.flatten_cons,wX x m]; rfl
theorem VH {f:En->R T} {ρ:En} {x:T} (hf:f ρ= .ok x):Wt (z4 f ze) ρ= .ok (.lst [x]):=by
 unfold Wt z4 ze
 rw [hf]; rfl
theorem wY {g:En->R Bool} {f1 f2:En->RS} {ρ:En} (h:g ρ= .ok true):ifS g f1 f2 ρ=f1 ρ:=by rw [Jd,h,ZQ,if_pos rfl]
theorem VI {g:En->R Bool} {f1 f2:En->RS} {ρ:En} (h:g ρ= .ok false):ifS g f1 f2 ρ=f2 ρ:=by rw [Jd,h,ZQ,if_neg Bool.false_ne_true]
theorem zK {g:En->R Bool} {f1:En->RS} {ρ:En} (h:g ρ= .ok false):ifS g f1 nxS ρ= .nx ρ:=by rw [VI h]; rfl
theorem ZE {i:Nat} {f:En->R T} {ρ:En} {t:T} (h:f ρ= .ok t):Z5 i f ρ= .nx (ρ.set i (.vl t)):=by rw [jR,h,ZQ]
theorem zD {f:En->R T} {ρ:En} {t:T} (h:f (frz ρ)= .ok t):zO f ρ= .rt t:=by rw [Zi,h,ZQ]
theorem wZ {g:T->En->R En} {fb:En->RS} {t:T} {ts:List T} {ρ ρ1 ρ2:En} (hg:g t ρ= .ok ρ1) (hb:fb ρ1= .nx ρ2):jk g fb (t :: ts) ρ=jk g fb ts ρ2:=by
 rw [jk,hg]
 dsimp only
 rw [hb]
theorem ZF {f g:En->RS} {ρ:En} {t:T} (h:f ρ= .rt t):zF f g ρ= .rt t:=by rw [ZK,h]
theorem Qd {i j:Nat} (h:i < 2 ^ 60):Zn (.int (i:Int)) (.int (j:Int))= .ok (.int ((i*j:Nat):Int)):=by
 rw [UN _ _ (.inl ⟨by omega,by omega⟩),Int.natCast_mul]
theorem vN {d n:Nat} (h:n<=mx d) (hd:d<=3):n < 2 ^ 60:=by
 have:d=0\/d=1\/d=2\/d=3:=by omega
 have h3:mx 3 < 2 ^ 60:=by decide
 have h2:mx 2 < 2 ^ 60:=by decide
 have h1:mx 1 < 2 ^ 60:=by decide
 have h0:mx 0 < 2 ^ 60:=by decide
 rcases this with rfl | rfl | rfl | rfl <;> omega
abbrev mt (t:T) (lo hi:Nat):T:= .tup [.str "many",t, .int (lo:Int), .int (hi:Int)]
theorem vO (ns:List Int) (d:Nat) (h1:1<=d) (h8:d<=8) (k:Int) (h0:0<=k):∃ q:Kd,f_1 8 [scr ns, .int k, .int (d:Int)]= .ok q.t/\q.Ok d:=by
 obtain ⟨t,ht,hi⟩:=wt ns d 8 h8 h1 k h0
 obtain ⟨q,rfl,hq⟩:=wv d t hi
 exact ⟨q,ht,hq⟩
theorem uG:∀ (d:Nat) (k:Kd),k.Ok d->isK d k.t=true
 | 0,_,h=>h.elim
 | d+1, .whole lo hi,h=>by
  have e:isK (d+1) (Kd.whole lo hi).t=(decide (-20<=lo) && decide (lo<=hi) && decide (hi<=20)):=by rw [Kd.t]; rfl
  obtain ⟨h1,h2,h3⟩:=h
  rw [e]; simp; omega
 | d+1, .pick cs,h=>by
  have e:isK (d+1) (Kd.pick cs).t=(decide (1<=(cs.map jB).length) && decide ((cs.map jB).length<=4) && (cs.map jB).all zq && decide ((dd [] ((cs.map jB).map zM)).length=(cs.map jB).length)):=by rw [Kd.t]; rfl
  obtain ⟨h1,h2,h3,h4⟩:=h
  have e1:(cs.map jB).map zM=cs.map (·.1):=by rw [List.map_map]; rfl
  have e2:=(Je (cs.map (·.1)) []).mpr fun k w hw=>by simpa using h4 k w hw
  rw [e,e1,e2,List.length_map,List.length_map]
  simp only [Bool.and_eq_true,decide_eq_true_eq,List.all_eq_true]
  refine ⟨⟨⟨h1,h2⟩,fun c hc=> ?_⟩,by simp⟩
  obtain ⟨p,hp,rfl⟩:=List.mem_map.mp hc
  obtain ⟨a,b,c⟩:=h3 p hp
  show (zI (.str p.1) && decide (1<=p.2) && decide (p.2<=20))=true
  rw [a]; simp; omega
 | d+1, .row ks,h=>by
  have e:isK (d+1) (Kd.row ks).t=(decide (1<=(ks.map Kd.t).length) && decide ((ks.map Kd.t).length<=3) && (ks.map Kd.t).all (isK d)):=by rw [Kd.t,Kd.ts_map]; rfl
  obtain ⟨h1,h2,h3⟩:=h
  rw [e,List.length_map]
  simp only [Bool.and_eq_true,decide_eq_true_eq,List.all_eq_true]
  refine ⟨⟨h1,h2⟩,fun c hc=> ?_⟩
  obtain ⟨k,hk,rfl⟩:=List.mem_map.mp hc
  exact uG d k (h3 k hk)
 | d+1, .many k lo hi,h=>by
  have e:isK (d+1) (Kd.many k lo hi).t=((decide ((0:Int)<=(lo:Int)) && decide ((lo:Int)<=(hi:Int)) && decide ((hi:Int)<=3)) && isK d k.t):=by rw [Kd.t]; rfl
  obtain ⟨h1,h2,h3⟩:=h
  rw [e,uG d k h3]; simp; omega
def shr (c lo q:Nat):Nat:=((List.range q).map fun i=>c ^ (lo+i)).sum
theorem Qe (c lo hi:Nat):pw c lo hi=shr c lo (hi+1 - lo):=rfl
abbrev cpB (c:List T->R T):En->RS:=Z5 1 (zc Zn (vE 1) (za 1 c (z4 (vE 2) (ze))))
theorem uH {c:List T->R T} {S:Sl}:∀ (ks:List Kd) (m:Nat) (x:Sl),(∀ k∈ks,c [k.t]= .ok (.int (k.all.length:Int))/\1<=k.all.length)->m*prd (ks.map fun k=>k.all.length) < 2 ^ 60->
  ∃ y,jk (Za 2) (cpB c) (ks.map Kd.t) [S, .vl (.int (m:Int)),x]= .nx [S, .vl (.int ((m*prd (ks.map fun k=>k.all.length):Nat):Int)),y]
 | [],m,x,_,_=>⟨x,by simp [jk,prd]⟩
 | k :: ks,m,x,H,hb=>by
  obtain ⟨hc,h1⟩:=H k List.mem_cons_self
  have hp:1<=prd (ks.map fun k=>k.all.length):=ww fun n hn=>by
   obtain ⟨k',hk',rfl⟩:=List.mem_map.mp hn
   exact (H k' (List.mem_cons_of_mem _ hk')).2
  rw [List.map_cons,prd,← Nat.mul_assoc] at hb
  have hm:m < 2 ^ 60:=by
   have h2:m<=m*k.all.length:=Nat.le_mul_of_pos_right _ h1
   have h3:m*k.all.length<=m*k.all.length*prd (ks.map fun k=>k.all.length):=Nat.le_mul_of_pos_right _ hp
   omega
  have eb:cpB c [S, .vl (.int (m:Int)), .vl k.t]= .nx [S, .vl (.int ((m*k.all.length:Nat):Int)), .vl k.t]:=by
   rw [cpB,ZE (t:= .int ((m*k.all.length:Nat):Int))]
   ·rfl
   ·rw [zA,v1,bOk,Z2,v2,bOk,hc,bOk,Qd hm]
  obtain ⟨y,ih⟩:=uH (c:=c) (S:=S) ks (m*k.all.length) (.vl k.t) (fun k' hk' =>H k' (List.mem_cons_of_mem _ hk')) hb
  refine ⟨y, ?_⟩
  rw [List.map_cons,wZ (ρ1:=[S, .vl (.int (m:Int)), .vl k.t]) rfl eb,ih,List.map_cons,prd,Nat.mul_assoc]
theorem w4 {c:List T->R T} {s:T} (ks:List Kd) (hs:ZV s= .ok (ks.map Kd.t)) (H:∀ k∈ks,c [k.t]= .ok (.int (k.all.length:Int))/\1<=k.all.length) (hb:prd (ks.map fun k=>k.all.length) < 2 ^ 60):
  zk (b_e c (en0 3 [s]))= .ok (.int ((prd (ks.map fun k=>k.all.length):Nat):Int)):=by
 obtain ⟨y,e⟩:=uH (c:=c) (S:= .vl s) ks 1 .un H (by rw [Nat.one_mul]; exact hb)
 rw [Nat.one_mul] at e
 have e0:Z5 1 (cE (.int 1)) [.vl s, .un, .un]= .nx [.vl s, .vl (.int 1), .un]:=rfl
 have e1:U4 (jH (vE 0)) (Za 2) (cpB c) [.vl s, .vl (.int 1), .un]= .nx [.vl s, .vl (.int ((prd (ks.map fun k=>k.all.length):Nat):Int)),y]:=by
  show ((ZV s).s fun ts=>jk (Za 2) (cpB c) ts [.vl s, .vl (.int 1), .un])=_
  rw [hs,ZQ]
  exact e
 show zk (b_e c [.vl s, .un, .un])=_
 rw [b_e,zg e0,zg e1]
 rfl
theorem uI {α:Type} (g:α->Nat):∀ l:List α,jb (l.map fun a=>T.int ((g a:Nat):Int))=some (l.map fun a=>((g a:Nat):Int))
 | []=>rfl
 | a :: l=>by
  show (match jb (l.map fun a=>T.int ((g a:Nat):Int)) with | some l=>some (_ :: l) | none=>none)=_
  rw [uI g l]; rfl
theorem W0 {α:Type} (g:α->Nat):∀ l:List α,(l.map fun a=>((g a:Nat):Int)).sum=(((l.map g).sum:Nat):Int)
 | []=>rfl
 | a :: l=>by rw [List.map_cons,List.sum_cons,List.map_cons,List.sum_cons,W0 g l]; omega
theorem Qf {α:Type} (g:α->Nat) (l:List α):Qz (.lst (l.map fun a=>T.int ((g a:Nat):Int)))= .ok (.int (((l.map g).sum:Nat):Int)):=by
 unfold Qz
 dsimp only
 rw [uI,← W0]
theorem jp (k:Kd) (m:Nat):((List.replicate m k).map fun k=>k.all.length)=List.replicate m k.all.length:=by rw [List.map_replicate]
theorem Yw {c:List T->R T} {t:T} {n lo hi q:Nat} (h4:lo+q<=4) (H:∀ m,m<=3->c [.lst (List.replicate m t)]= .ok (.int ((n ^ m:Nat):Int))):
  zk (b_r c (en0 2 [mt t lo hi, .int ((lo+q:Nat):Int)]))= .ok (.int ((shr n lo q:Nat):Int)):=by
 show zk (b_r c [.vl (mt t lo hi), .vl (.int ((lo+q:Nat):Int))])=_
 have er:u8 (zc ixT (vE 0) (cE (.int 2))) (vE 1) [.vl (mt t lo hi), .vl (.int ((lo+q:Nat):Int))]= .ok (rng (lo:Int) q):=by
  rw [Yv (i:=(lo:Int)) (j:=((lo+q:Nat):Int)) rfl rfl ⟨by omega,by omega,by omega,by omega⟩]
  congr 2; omega
 have ec:Zs (Za 0) Zf (za 1 c (z4 (zc Zn (Wt (z4 (zc ixT (vE 1) (cE (.int 1))) (ze))) (vE 0)) (ze))) 1 [0] [.vl (mt t lo hi), .vl (.int ((lo+q:Nat):Int))] (rng (lo:Int) q)= .ok ((rng (lo:Int) q).map fun x=>match x with | .int i=>T.int ((n ^ i.toNat:Nat):Int) | y=>y):=
  Zh _ (by unfold rng; rw [List.length_map,List.length_range]; have:bnd=16777216:=rfl; omega) fun x hx=>by
   unfold rng at hx
   obtain ⟨i,hi',rfl⟩:=List.mem_map.mp hx
   have hi2:=List.mem_range.mp hi'
   show za 1 c _ [.vl (.int ((lo:Int)+(i:Int))), .vl (mt t lo hi)]=_
   have e1:zc Zn (Wt (z4 (zc ixT (vE 1) (cE (.int 1))) (ze))) (vE 0) [.vl (.int ((lo:Int)+(i:Int))), .vl (mt t lo hi)]= .ok (.lst (List.replicate (lo+i) t)):=by
    have e0:zc ixT (vE 1) (cE (.int 1)) [.vl (.int ((lo:Int)+(i:Int))), .vl (mt t lo hi)]= .ok t:=rfl
    rw [zA,VH e0,bOk,v0,bOk,show (lo:Int)+(i:Int)=((lo+i:Nat):Int) by omega,Qc (by omega),wX]
   rw [Z2,e1,bOk,H (lo+i) (by omega)]
   show _=R.ok (T.int ((n ^ ((lo:Int)+(i:Int)).toNat:Nat):Int))
   rw [show ((lo:Int)+(i:Int)).toNat=lo+i by omega]
 rw [b_r,zD (t:= .int ((shr n lo q:Nat):Int))]
 ·rfl
 ·show ap1 _ _ [.vl (mt t lo hi), .vl (.int ((lo+q:Nat):Int))]=_
  rw [jM,ZD,er,bOk,ec,bOk,bOk]
  have e2:((rng (lo:Int) q).map fun x=>match x with | .int i=>T.int ((n ^ i.toNat:Nat):Int) | y=>y)=(List.range q).map fun i=>T.int ((n ^ (lo+i):Nat):Int):=by
   unfold rng
   rw [List.map_map]
   refine List.map_congr_left fun i _=> ?_
   show T.int ((n ^ ((lo:Int)+(i:Int)).toNat:Nat):Int)=_
   rw [show ((lo:Int)+(i:Int)).toNat=lo+i by omega]
  rw [e2,Qf (fun i=>n ^ (lo+i))]
  rfl
theorem Qg {d n m:Nat} (h:n<=mx d) (hd:d<=2) (hm:m<=3):n ^ m < 2 ^ 60:=by
 have h2:mx d<=70644:=by
  have:d=0\/d=1\/d=2:=by omega
  rcases this with rfl | rfl | rfl <;> decide
 have h3:n ^ m<=70644 ^ 3:=Nat.le_trans (Nat.pow_le_pow_left (Nat.le_trans h h2) m) (Nat.pow_le_pow_right (by omega) hm)
 have:70644 ^ 3 < 2 ^ 60:=by decide
 omega
theorem uJ:∀ (d n:Nat),3*d<=n->d<=3->∀ k:Kd,k.Ok d->S_4 n 0 [k.t]= .ok (.int (k.all.length:Int))
 | 0,_,_,_,_,h=>h.elim
 | d+1,n+3,hn,hd,k,h=>by
  have ih:=uJ d n (by omega) (by omega)
  have ih1:=uJ d (n+1) (by omega) (by omega)
  have e:S_4 (n+3) 0 [k.t]=zk (b_4 (S_4 (n+2) 1) (S_4 (n+2) 2) [.vl k.t]):=rfl
  have e1:∀ s,S_4 (n+2) 1 [s]=zk (b_e (S_4 (n+1) 0) (en0 3 [s])):=fun s=>rfl
  have e1' :∀ s,S_4 (n+1) 1 [s]=zk (b_e (S_4 n 0) (en0 3 [s])):=fun s=>rfl
  have e2:∀ s u,S_4 (n+2) 2 [s,u]=zk (b_r (S_4 (n+1) 1) (en0 2 [s,u])):=fun s u=>rfl
  rw [e,b_4]
  cases k with
  | whole lo hi=>
   obtain ⟨h1,h2,h3⟩:=h
   rw [jC]
   simp only [Kd.t]
   rw [ZF (t:= .int ((hi+1 - lo).toNat:Int))]
   ·rfl
   ·rw [wY (by rw [cs0,beq_self_eq_true]),zD]
    show R.ok (T.int (hi - lo+1))=_
    congr 2; omega
  | pick cs=>
   rw [Ji]
   simp only [Kd.t]
   rw [zg (zK (by rw [cs0]; rfl)),ZF (t:= .int (cs.length:Int))]
   ·rfl
   ·rw [wY (by rw [cs0,beq_self_eq_true]),zD]
    show R.ok (T.int ((cs.map jB).length:Int))=_
    rw [List.length_map]
  | row ks=>
   obtain ⟨h1,h2,h3⟩:=h
   rw [Jh]
   simp only [Kd.t]
   rw [Kd.ts_map,zg (zK (by rw [cs0]; rfl)),zg (zK (by rw [cs0]; rfl)),ZF (t:= .int ((prd (ks.map fun k=>k.all.length):Nat):Int))]
   ·rfl
   ·rw [wY (by rw [cs0,beq_self_eq_true]),zD]
    show za 1 _ _ [.vl (.tup [.str "row", .tup (ks.map Kd.t)])]=_
    rw [Z2,yi,bOk,e1]
    have hl:=wW (d+1) (.row ks) ⟨h1,h2,h3⟩
    rw [Jh] at hl
    exact w4 ks rfl (fun k hk=>⟨ih1 k (h3 k hk),Jj d k (h3 k hk)⟩) (vN hl hd)
  | many k lo hi=>
   obtain ⟨h1,h2,h3⟩:=h
   rw [Jg,Qe]
   simp only [Kd.t]
   rw [zg (zK (by rw [cs0]; rfl)),zg (zK (by rw [cs0]; rfl)),zg (zK (by rw [cs0]; rfl)),zD (t:= .int ((shr k.all.length lo (hi+1 - lo):Nat):Int))]
   ·rfl
   ·show za 2 _ _ [.vl (mt k.t lo hi)]=_
    rw [ji,v0,bOk,vM V8,bOk,e2,show (hi:Int)+1=((lo+(hi+1 - lo):Nat):Int) by omega]
    refine Yw (by omega) fun m hm=> ?_
    have hp:prd ((List.replicate m k).map fun k=>k.all.length)=k.all.length ^ m:=by rw [jp,wx]
    rw [e1',← hp]
    have hd1:1<=d:=by
     cases d with
     | zero=>exact h3.elim
     | succ d=>omega
    refine w4 (List.replicate m k) (by rw [List.map_replicate]; rfl) (fun k' hk' => ?_) (by rw [hp]; exact Qg (wW d k h3) (by omega) hm)
    rw [List.eq_of_mem_replicate hk']
    exact ⟨ih k h3,Jj d k h3⟩
theorem UO {d:Nat} (hd:d<=3) {k:Kd} (h:k.Ok d):f_4 20 [k.t]= .ok (.int (k.all.length:Int)):=uJ d 20 (by omega) hd k h
def Pl:Nat->T->Prop
 | 0,_=>False
 | n+1, .tup xs=>∀ x∈xs,Pl n x
 | n+1, .lst xs=>∀ x∈xs,Pl n x
 | _+1, .fz _=>False
 | _+1,_=>True
theorem Z3 {f:T->T->Option Bool}:∀ (xs:List T),(∀ x∈xs,f x x=some true)->eqL f xs xs=some true
 | [],_=>rfl
 | x :: xs,h=>by
  unfold eqL
  rw [h x List.mem_cons_self,Z3 xs fun z hz=>h z (List.mem_cons_of_mem _ hz)]
  rfl
theorem zJ:∀ (n:Nat) (y:T),Pl n y->eqF n y y=some true
 | 0,_,h=>h.elim
 | n+1,y,h=>by
  cases y with
  | tup xs=>rw [eqF]; exact Z3 xs fun z hz=>zJ n z ((show ∀ x∈xs,Pl n x from h) z hz)
  | lst xs=>rw [eqF]; exact Z3 xs fun z hz=>zJ n z ((show ∀ x∈xs,Pl n x from h) z hz)
  | fz xs=>exact h.elim
  | non=>rfl
  | bl b=>show some (b == b)=_; simp
  | int i=>show some (i == i)=_; simp
  | str i=>show some (i == i)=_; simp
theorem Pl.up:∀ (n:Nat) (y:T),Pl n y->Pl (n+1) y
 | 0,_,h=>h.elim
 | n+1,y,h=>by
  cases y with
  | tup xs=>exact fun z hz=>Pl.up n z ((show ∀ x∈xs,Pl n x from h) z hz)
  | lst xs=>exact fun z hz=>Pl.up n z ((show ∀ x∈xs,Pl n x from h) z hz)
  | fz xs=>exact h.elim
  | _=>exact trivial
theorem Pl.le {n m:Nat} {y:T} (hm:n<=m) (h:Pl n y):Pl m y:=by
 obtain ⟨j,rfl⟩:∃ j,m=n+j:=⟨m - n,by omega⟩
 clear hm
 induction j with
 | zero=>exact h
 | succ j ih=>exact Pl.up _ _ ih
theorem wy {t:T} (h:Pl 30 t):neC t t= .ok false:=by unfold neC; rw [zJ 30 t h]; rfl
theorem UP {t:T} (h:Pl 30 t):eqC t t= .ok true:=by unfold eqC; rw [zJ 30 t h]
theorem wz {f:En->R T} {ρ:En} {t:T} (h:f ρ= .ok t):Wi f ρ= .nx ρ:=by unfold Wi; rw [h,ZQ]
def S (l:List Nat):Str:=⟨l.toArray⟩
theorem Zb (l:List Nat):(S l).cps.toList=l:=by simp [S]
theorem zP (l:List Nat):(S l).length=l.length:=by simp [S,Str.length]
theorem jD (a b:List Nat):S a++S b=S (a++b):=Str.ext' (by simp [S,Str.cps_append])
theorem Yx (x:Str):S x.cps.toList=x:=Str.ext' (by simp [S])
theorem vP {a b:List Nat} (h:S a=S b):a=b:=by rw [← Zb a,h,Zb]
def jn:List (List Nat)->List Nat
 | []=>[]
 | [x]=>x
 | x :: y :: r=>x++32 :: jn (y :: r)
theorem uK:∀ ls:List (List Nat),Str.join (S [32]) (ls.map S)=S (jn ls)
 | []=>rfl
 | [x]=>rfl
 | x :: y :: r=>by
  have h:=uK (y :: r)
  show S x++S [32]++Str.join (S [32]) ((y :: r).map S)=_
  rw [h,jD,jD]
  simp [jn]
theorem uL {c:Nat}:∀ {a b r s:List Nat},c ∉ a->c ∉ b->a++c :: r=b++c :: s->a=b/\r=s
 | [],[],_,_,_,_,h=>⟨rfl,by simpa using h⟩
 | [],y :: b,_,_,_,hb,h=>by
  injection h with h1 h2
  exact absurd (h1 ▸ List.mem_cons_self) hb
 | x :: a,[],_,_,ha,_,h=>by
  injection h with h1 h2
  exact absurd (h1 ▸ List.mem_cons_self) ha
 | x :: a,y :: b,_,_,ha,hb,h=>by
  injection h with h1 h2
  obtain ⟨e1,e2⟩:=uL (fun z=>ha (List.mem_cons_of_mem _ z)) (fun z=>hb (List.mem_cons_of_mem _ z)) h2
  exact ⟨by rw [h1,e1],e2⟩
theorem yj:∀ (a b:List (List Nat)),a ≠ []->b ≠ []->(∀ x∈a,32 ∉ x)->(∀ x∈b,32 ∉ x)->jn a=jn b->a=b
 | [],_,h,_,_,_,_=>absurd rfl h
 | _ :: _,[],_,h,_,_,_=>absurd rfl h
 | [x],[y],_,_,_,_,h=>by rw [show x=y from h]
 | [x],y :: z :: r,_,_,ha,_,h=>by
  have h:x=y++32 :: jn (z :: r):=h
  exact absurd (by rw [h]; simp) (ha x List.mem_cons_self)
 | x :: w :: q,[y],_,_,_,hb,h=>by
  have h:x++32 :: jn (w :: q)=y:=h
  exact absurd (by rw [← h]; simp) (hb y List.mem_cons_self)
 | x :: w :: q,y :: z :: r,_,_,ha,hb,h=>by
  obtain ⟨e1,e2⟩:=uL (ha x List.mem_cons_self) (hb y List.mem_cons_self) (show x++32 :: jn (w :: q)=y++32 :: jn (z :: r) from h)
  have:=yj (w :: q) (z :: r) (List.cons_ne_nil _ _) (List.cons_ne_nil _ _) (fun x hx=>ha x (List.mem_cons_of_mem _ hx)) (fun x hx=>hb x (List.mem_cons_of_mem _ hx)) e2
  rw [e1,this]
theorem Yy {ls:List (List Nat)} (h:ls ≠ []) (hf:∀ x∈ls,32 ∉ x):Txt.split (S (jn ls)) (S [32])=ls.map S:=by
 have e1:=StrLaws.join_split (S (jn ls)) (S [32])
 have e2:∀ p∈Txt.split (S (jn ls)) (S [32]),32 ∉ p.cps.toList:=StrLaws.split_free (S (jn ls)) 32
 have e3:1<=(Txt.split (S (jn ls)) (S [32])).length:=PyProof.Rows.split_pos _ _
 generalize Txt.split (S (jn ls)) (S [32])=P at e1 e2 e3
 have e4:P=(P.map fun p=>p.cps.toList).map S:=by
  rw [List.map_map]
  exact (List.map_id'' (fun p=>Yx p) P).symm
 rw [e4,uK] at e1
 have e5:=yj (P.map fun p=>p.cps.toList) ls (fun z=>by rw [List.map_eq_nil_iff.mp z] at e3; exact absurd e3 (by decide)) h (fun x hx=>by
  obtain ⟨p,hp,rfl⟩:=List.mem_map.mp hx
  exact e2 p hp) hf (vP e1)
 rw [e4,e5]
theorem yk (l m:List Nat) (i:Nat):StrLaws.At (S l) (S m) (S l).length i↔i+m.length<=l.length/\(l.drop i).take m.length=m:=by
 unfold StrLaws.At
 rw [StrLaws.subAt_eq,zP,zP,Zb,Zb,beq_iff_eq]
theorem uM (a m b:List Nat):StrLaws.At (S (a++m++b)) (S m) (S (a++m++b)).length a.length:=by
 rw [yk]
 refine ⟨by simp, ?_⟩
 rw [List.append_assoc,List.drop_left,List.take_left]
theorem uN {l m:List Nat} {c i:Nat} (h:StrLaws.At (S l) (S (c :: m)) (S l).length i):l[i]? =some c:=by
 rw [yk] at h
 have h2:(l.drop i)[0]? =some c:=by
  have:((l.drop i).take (c :: m).length)[0]? =some c:=by rw [h.2]; rfl
  rw [List.getElem?_take] at this
  simpa using this
 simpa using h2
theorem UQ (l:List Nat) (i j:Nat):Builtin.Str.strSub (S l) i j=S ((l.drop i).take (j - i)):=by
 rw [← Yx (Builtin.Str.strSub (S l) i j),StrLaws.strSub_toList,Zb]
theorem Qh {c:Nat} {m a b:List Nat} (h:c ∉ a):Txt.partition (S (a++(c :: m)++b)) (S (c :: m))=(S a,S (c :: m),S b):=by
 have hh:=uM a (c :: m) b
 unfold Txt.partition
 rcases StrLaws.occ_head (S (a++(c :: m)++b)) (S (c :: m)) 1 (Nat.le_refl _) with ⟨_,h0⟩ | ⟨i,r,e,hi,hn⟩
 ·exact absurd hh (h0 _)
 ·rw [e]
  have ei:i=a.length:=by
   rcases Nat.lt_trichotomy i a.length with z | z | z
   ·have:=uN hi
    rw [List.append_assoc,List.getElem?_append_left z] at this
    exact absurd (List.mem_of_getElem? this) h
   ·exact z
   ·exact absurd hh (hn _ z)
  subst ei
  show (Builtin.Str.strSub _ 0 a.length,S (c :: m),Builtin.Str.strSub _ (a.length+(S (c :: m)).length) _)=_
  rw [UQ,UQ,zP,zP]
  have e1:(List.drop 0 (a++c :: m++b)).take (a.length - 0)=a:=by
   rw [List.drop_zero,Nat.sub_zero,List.append_assoc,List.take_left]
  have e2:(List.drop (a.length+(c :: m).length) (a++c :: m++b)).take ((a++c :: m++b).length - (a.length+(c :: m).length))=b:=by
   rw [show a.length+(c :: m).length=(a++c :: m).length by simp,List.drop_left]
   exact List.take_of_length_le (by simp; omega)
  rw [e1,e2]
theorem Yz {c:Nat} {a b:List Nat} (h:c ∉ b):Txt.rpartition (S (a++c :: b)) (S [c])=(S a,S [c],S b):=by
 have hh:=uM a [c] b
 rw [show a++[c]++b=a++c :: b by simp] at hh
 unfold Txt.rpartition
 rcases StrLaws.last_spec (S (a++c :: b)) (S [c]) with ⟨_,h0⟩ | ⟨i,e,hi,hn⟩
 ·exact absurd hh (h0 _)
 ·rw [e]
  have ei:i=a.length:=by
   rcases Nat.lt_trichotomy i a.length with z | z | z
   ·exact absurd hh (hn _ z)
   ·exact z
   ·have:=uN hi
    rw [List.getElem?_append_right (by omega),show i - a.length=(i - a.length - 1)+1 by omega,List.getElem?_cons_succ] at this
    exact absurd (List.mem_of_getElem? this) h
  subst ei
  show (Builtin.Str.strSub _ 0 a.length,S [c],Builtin.Str.strSub _ (a.length+(S [c]).length) _)=_
  rw [UQ,UQ,zP,zP]
  have e1:(List.drop 0 (a++c :: b)).take (a.length - 0)=a:=by
   rw [List.drop_zero,Nat.sub_zero,List.take_left]
  have e2:(List.drop (a.length+[c].length) (a++c :: b)).take ((a++c :: b).length - (a.length+[c].length))=b:=by
   rw [show a++c :: b=(a++[c])++b by simp,show a.length+[c].length=(a++[c]).length by simp,List.drop_left]
   exact List.take_of_length_le (by simp; omega)
  rw [e1,e2]
theorem Qi (c d:Nat) (l:List Nat):Txt.startswith (S (c :: l)) (S [d])=(c == d):=by
 unfold Txt.startswith
 rw [StrLaws.subAt_eq,zP,zP,Zb,Zb]
 simp
theorem vQ (c:Nat) (l:List Nat):Txt.endswith (S (l++[c])) (S [c])=true:=by
 unfold Txt.endswith
 rw [StrLaws.subAt_eq,zP,zP,Zb,Zb]
 simp
theorem YA {l:List Nat} {a b:Nat} (h1:a<=b) (h2:b<=l.length):Txt.slice (S l) (some (a:Int)) (some (b:Int))=S ((l.drop a).take (b - a)):=by
 have:=StrLaws.sliceText_nat (S l) h1 (by rw [zP]; exact h2)
 rw [Zb] at this
 exact this
theorem uO {l:List Nat} {a:Nat} (h:a<=l.length):Txt.slice (S l) (some (a:Int)) none=S (l.drop a):=by
 have:=StrLaws.sliceText_from (x:=S l) (i:=(a:Int)) ⟨by omega,by rw [Zb]; omega⟩
 rw [Zb] at this
 refine Eq.trans this ?_
 show S _=S _
 congr 1
 rw [show ((a:Int)).toNat=a by omega]
 exact List.take_of_length_le (by simp)
theorem Qj (c d:Nat) (l:List Nat):Txt.slice (S (c :: (l++[d]))) (some 1) (some (-1))=S l:=by
 have e:Txt.slice (S (c :: (l++[d]))) (some 1) (some (-1))=Txt.slice (S (c :: (l++[d]))) (some 1) (some (-1+(S (c :: (l++[d]))).length)):=StrLaws.sliceText_neg_hi _ _ (by decide) (by rw [zP]; simp; omega)
 rw [e,zP,show (-1+((c :: (l++[d])).length:Nat):Int)=((l.length+1:Nat):Int) by simp; omega,show (1:Int)=((1:Nat):Int) from rfl,YA (by omega) (by simp)]
 simp
theorem vR {l:List Nat} {c i:Nat} (h:i < l.length):Txt.startswith3 (S l) (S [c]) (i:Int)=(l[i]? == some c):=by
 unfold Txt.startswith3
 have e:fromIndex (S l).length (i:Int)=i:=by
  unfold fromIndex
  rw [if_neg (by omega)]
  omega
 rw [e,StrLaws.subAt_eq,zP,zP,Zb,Zb]
 have e2:decide (i+[c].length<=l.length)=true:=decide_eq_true (by simp; omega)
 rw [e2,Bool.true_and]
 have:((l.drop i).take [c].length == [c])=(l[i]? == some c):=by
  rw [List.getElem?_eq_getElem h,List.drop_eq_getElem_cons h]
  show ([l[i]] == [c])=_
  simp
 exact this
def nl (i:Int):List Nat:=(U6 i).cps.toList
theorem V9 (i:Int):U6 i=S (nl i):=(Yx _).symm
def nOk (i:Int):Bool:=decide ((nl i).length<=3) && !(nl i).isEmpty && (nl i).all (fun c=>c == 45 || (decide (48<=c) && decide (c<=57))) && decide (rdI (U6 i)=some i)
theorem vS:∀ k < 41,nOk ((k:Nat) - 20:Int)=true:=by decide+kernel
theorem YB {i:Int} (h1: -20<=i) (h2:i<=20):(nl i).length<=3/\nl i ≠ []/\(∀ c∈nl i,c=45\/(48<=c/\c<=57))/\rdI (U6 i)=some i:=by
 have:=vS (i+20).toNat (by omega)
 rw [show (((i+20).toNat:Nat) - 20:Int)=i by omega] at this
 unfold nOk at this
 simp at this
 exact ⟨this.1.1.1,this.1.1.2,this.1.2,this.2⟩
theorem vT {i:Int} (h1: -20<=i) (h2:i<=20) {c:Nat} (hc:c ≠ 45) (hd:c < 48\/57 < c):c ∉ nl i:=fun z=>by
 have:=(YB h1 h2).2.2.1 c z
 omega
def chx (c:Str×Int):List Nat:=c.1.cps.toList++[58]++nl c.2
def spx (lo hi:Int):List Nat:=nl lo++[46,46]++nl hi
mutual
def Kd.x:Kd->List Nat
 | .whole lo hi=>spx lo hi
 | .pick cs=>123 :: (jn (cs.map chx)++[125])
 | .row ks=>40 :: (jn (Kd.xs ks)++[41])
 | .many k lo hi=>91 :: (k.x++93 :: spx lo hi)
def Kd.xs:List Kd->List (List Nat)
 | []=>[]
 | k :: ks=>k.x :: Kd.xs ks
end
theorem Kd.xs_map:∀ ks:List Kd,Kd.xs ks=ks.map Kd.x
 | []=>by simp only [Kd.xs,List.map_nil]
 | k :: ks=>by simp only [Kd.xs,List.map_cons,Kd.xs_map ks]
theorem w8 (B:Nat):∀ ls:List (List Nat),(∀ x∈ls,x.length<=B)->(jn ls).length<=ls.length*(B+1)
 | [],_=>by simp [jn]
 | [x],h=>by have:=h x List.mem_cons_self; simp only [jn,List.length_cons,List.length_nil]; omega
 | x :: y :: r,h=>by
  have h1:=h x List.mem_cons_self
  have h2:=w8 B (y :: r) fun z hz=>h z (List.mem_cons_of_mem _ hz)
  rw [List.length_cons (a:=x),Nat.add_mul]
  simp only [jn,List.length_append,List.length_cons] at h2 ⊢
  omega
theorem wA (B:Nat):∀ ls:List (List Nat),(∀ x∈ls,x.length<=B)->(ls.map (·.length)).sum<=ls.length*B
 | [],_=>by simp
 | x :: r,h=>by
  have h1:=h x List.mem_cons_self
  have h2:=wA B r fun z hz=>h z (List.mem_cons_of_mem _ hz)
  rw [List.map_cons,List.sum_cons,List.length_cons,Nat.add_mul]
  omega
theorem Jk {x:Str} (h:zI (.str x)=true):x.cps.toList.length<=3:=by
 have h:(decide (1<=x.length) && decide (x.length<=3) && x.cps.toList.all zL)=true:=h
 rw [Bool.and_eq_true,Bool.and_eq_true] at h
 have:=of_decide_eq_true h.1.2
 simpa [Str.length] using this
theorem jE {c:Str×Int} (h:zI (.str c.1)=true) (h1:1<=c.2) (h2:c.2<=20):(chx c).length<=7:=by
 have:=Jk h
 have:=(YB (i:=c.2) (by omega) h2).1
 simp only [chx,List.length_append,List.length_cons,List.length_nil]
 omega
theorem ZO {lo hi:Int} (h1: -20<=lo) (h2:lo<=hi) (h3:hi<=20):(spx lo hi).length<=8:=by
 have:=(YB (i:=lo) h1 (by omega)).1
 have:=(YB (i:=hi) (by omega) h3).1
 simp only [spx,List.length_append,List.length_cons,List.length_nil]
 omega
def lb:Nat->Nat
 | 0=>0
 | d+1=>3*lb d+40
theorem Wr:∀ (d:Nat) (k:Kd),k.Ok d->k.x.length<=lb d
 | 0,_,h=>h.elim
 | d+1, .whole lo hi,h=>by
  have:=ZO h.1 h.2.1 h.2.2
  simp only [Kd.x,lb]; omega
 | d+1, .pick cs,⟨h1,h2,h3,_⟩=>by
  have:=w8 7 (cs.map chx) fun x hx=>by
   obtain ⟨c,hc,rfl⟩:=List.mem_map.mp hx
   obtain ⟨a1,a2,a3⟩:=h3 c hc
   exact jE a1 a2 a3
  rw [List.length_map] at this
  simp only [Kd.x,lb,List.length_cons,List.length_append,List.length_nil]; omega
 | d+1, .row ks,⟨h1,h2,h3⟩=>by
  have:=w8 (lb d) (ks.map Kd.x) fun x hx=>by
   obtain ⟨k,hk,rfl⟩:=List.mem_map.mp hx
   exact Wr d k (h3 k hk)
  rw [List.length_map] at this
  have:ks.length*(lb d+1)<=3*(lb d+1):=Nat.mul_le_mul_right _ h2
  simp only [Kd.x,Kd.xs_map,lb,List.length_cons,List.length_append,List.length_nil]; omega
 | d+1, .many k lo hi,⟨h1,h2,h3⟩=>by
  have:=Wr d k h3
  have:=ZO (lo:=lo) (hi:=hi) (by omega) (by omega) (by omega)
  simp only [Kd.x,lb,List.length_cons,List.length_append]; omega
theorem W1 {i:Int} (h:i.natAbs < 1000000):txO (.int i)=some (S (nl i)):=by rw [← V9]; exact if_pos h
theorem Qk {z:Str} {fa fb:En->R T} {ρ:En} {t u:T} {x y:Str} (ha:fa ρ= .ok t) (hb:fb ρ= .ok u) (hx:txO t=some x) (hy:txO u=some y) (hl:(x++z++y).length<=bnd):f3E z fa fb ρ= .ok (.str (x++z++y)):=by
 unfold f3E f3T
 have e:(x++z).length<=bnd:=Nat.le_trans (by rw [Str.length_append (x++z)]; omega) hl
 rw [ha,bOk,hx]
 dsimp only
 rw [if_pos e,hb,bOk,hy]
 exact if_pos hl
theorem Zy {f g:En->R T} {ρ:En} {a b:List Nat} (hf:f ρ= .ok (.str (S a))) (hg:g ρ= .ok (.str (S b))) (hl:a.length+b.length<=10000):zc zl f g ρ= .ok (.str (S (a++b))):=by
 rw [zA,hf,bOk,hg,bOk,← jD]
 exact if_pos (by rw [zP,zP]; have:bnd=16777216:=rfl; omega)
theorem yl:∀ ls:List (List Nat),wm (ls.map fun l=>T.str (S l))=some (ls.map S)
 | []=>rfl
 | l :: r=>by
  rw [List.map_cons]
  unfold wm
  rw [yl r]
  rfl
theorem Jl {f:En->R T} {ρ:En} {ls:List (List Nat)} (hf:f ρ= .ok (.lst (ls.map fun l=>T.str (S l)))) (hb:(ls.map (·.length)).sum+ls.length<=10000):ap1 (wn " ") f ρ= .ok (.str (S (jn ls))):=by
 rw [jM,hf,bOk]
 show (match wm (ls.map fun l=>T.str (S l)) with | some ys=>if (ys.map fun (y:Str)=>y.length).sum+ys.length*((" ":Str)).length<=16777216 then R.ok (T.str (Txt.join " " ys)) else .bad | none=> .bad)=_
 rw [yl]
 dsimp only
 have e:((ls.map S).map (·.length))=ls.map (·.length):=by
  rw [List.map_map]
  exact List.map_congr_left fun l _=>zP l
 rw [e,List.length_map,if_pos (show (ls.map (·.length)).sum+ls.length*((" ":Str)).length<=16777216 by rw [show ((" ":Str)).length=1 from rfl]; omega)]
 show R.ok (T.str (Builtin.Str.glued (S [32]) (ls.map S)))=_
 rw [StrLaws.glued_eq_join,uK]
theorem ym {lo hi:Int} (h1: -20<=lo) (h2:lo<=hi) (h3:hi<=20):f_l [.int lo, .int hi]= .ok (.str (S (spx lo hi))):=by
 have hl:=ZO h1 h2 h3
 have e:f3E ".." (vE 0) (vE 1) [.vl (.int lo), .vl (.int hi)]= .ok (.str (S (spx lo hi))):=by
  have:=Qk (z:="..") (fa:=vE 0) (fb:=vE 1) (ρ:=[.vl (.int lo), .vl (.int hi)]) rfl rfl (W1 (i:=lo) (by omega)) (W1 (i:=hi) (by omega)) (by
   rw [show (("..":Str))=S [46,46] from rfl,jD,jD,zP]
   have:bnd=16777216:=rfl
   unfold spx at hl
   omega)
  rw [this,show (("..":Str))=S [46,46] from rfl,jD,jD]; rfl
 show zk (zO (f3E ".." (vE 0) (vE 1)) [.vl (.int lo), .vl (.int hi)])=_
 rw [zD e]; rfl
theorem w9:∀ (cs:List (Str×Int)) (x y:Sl),(∀ c∈cs,zI (.str c.1)=true/\1<=c.2/\c.2<=20)->zx (Z1 0 1) Zf (f3E ":" (vE 0) (vE 1)) (cs.map jB) [x,y]= .ok (cs.map fun c=>T.str (S (chx c)))
 | [],_,_,_=>rfl
 | c :: cs,x,y,h=>by
  obtain ⟨a1,a2,a3⟩:=h c List.mem_cons_self
  have hl:=jE a1 a2 a3
  have hw:=Jk a1
  have e0:txO (.str c.1)=some (S c.1.cps.toList):=by rw [Yx]; exact if_pos (by simp [Str.length] at hw ⊢; omega)
  have e1:f3E ":" (vE 0) (vE 1) [.vl (.str c.1), .vl (.int c.2)]= .ok (.str (S (chx c))):=by
   have:=Qk (z:=":") (fa:=vE 0) (fb:=vE 1) (ρ:=[.vl (.str c.1), .vl (.int c.2)]) rfl rfl e0 (W1 (i:=c.2) (by omega)) (by
    rw [show ((":":Str))=S [58] from rfl,jD,jD,zP]
    have:bnd=16777216:=rfl
    unfold chx at hl
    omega)
   rw [this,show ((":":Str))=S [58] from rfl,jD,jD]; rfl
  have e:zx (Z1 0 1) Zf (f3E ":" (vE 0) (vE 1)) ((c :: cs).map jB) [x,y]=(f3E ":" (vE 0) (vE 1) [.vl (.str c.1), .vl (.int c.2)]).bind fun v=>(zx (Z1 0 1) Zf (f3E ":" (vE 0) (vE 1)) (cs.map jB) [.vl (.str c.1), .vl (.int c.2)]).bind fun vs=> .ok (v :: vs):=rfl
  rw [e,e1,bOk,w9 cs _ _ fun c hc=>h c (List.mem_cons_of_mem _ hc)]; rfl
theorem W2 {d:Nat} (h:d<=2):lb d<=160:=by
 have:d=0\/d=1\/d=2:=by omega
 rcases this with rfl | rfl | rfl <;> decide
theorem Jm {cs:List (Str×Int)} (h2:cs.length<=4) (h3:∀ c∈cs,zI (.str c.1)=true/\1<=c.2/\c.2<=20):((cs.map chx).map (·.length)).sum+(cs.map chx).length<=10000/\(jn (cs.map chx)).length<=32:=by
 have h:∀ x∈cs.map chx,x.length<=7:=fun x hx=>by
  obtain ⟨c,hc,rfl⟩:=List.mem_map.mp hx
  obtain ⟨a1,a2,a3⟩:=h3 c hc
  exact jE a1 a2 a3
 have e1:=wA 7 _ h
 have e2:=w8 7 _ h
 rw [List.length_map] at e1 e2 ⊢
 omega
theorem Jn {d:Nat} {ks:List Kd} (hd:d<=2) (h2:ks.length<=3) (h3:∀ k∈ks,k.Ok d):((ks.map Kd.x).map (·.length)).sum+(ks.map Kd.x).length<=10000/\(jn (ks.map Kd.x)).length<=600:=by
 have hB:=W2 hd
 have h:∀ x∈ks.map Kd.x,x.length<=160:=fun x hx=>by
  obtain ⟨k,hk,rfl⟩:=List.mem_map.mp hx
  exact Nat.le_trans (Wr d k (h3 k hk)) hB
 have e1:=wA 160 _ h
 have e2:=w8 160 _ h
 rw [List.length_map] at e1 e2 ⊢
 omega
theorem itA {f:En->R T} {ρ:En} {ts:List T} (h:f ρ= .ok (.tup ts)):jH f ρ= .ok ts:=by
 show (f ρ).bind ZV=_
 rw [h]; rfl
theorem jT {fi:En->R (List T)} {g:T->En->R En} {fe:En->R T} {k:Nat} {js:List Nat} {ρ:En} {ts vs:List T} (hi:fi ρ= .ok ts) (hl:ts.length<=100) (h:zx g Zf fe ts (wO k js ρ)= .ok vs):Zd fi g Zf fe k js ρ= .ok (.lst vs):=by
 rw [ZD,hi,bOk]
 unfold Zs
 rw [if_pos (show ts.length<=bnd by have:bnd=16777216:=rfl; omega),h]
 rfl
theorem ZZ {c:List T->R T} {α:Type} (f:α->T) (g:α->T):∀ (as:List α) (x:Sl),(∀ a∈as,c [f a]= .ok (g a))->zx (Za 0) Zf (za 1 c (z4 (vE 0) ze)) (as.map f) [x]= .ok (as.map g)
 | [],_,_=>rfl
 | a :: as,x,h=>by
  have e:zx (Za 0) Zf (za 1 c (z4 (vE 0) ze)) ((a :: as).map f) [x]=(za 1 c (z4 (vE 0) ze) [.vl (f a)]).bind fun v=>(zx (Za 0) Zf (za 1 c (z4 (vE 0) ze)) (as.map f) [.vl (f a)]).bind fun vs=> .ok (v :: vs):=rfl
  rw [e,Z2,v0,bOk,h a List.mem_cons_self,bOk,ZZ f g as _ fun b hb=>h b (List.mem_cons_of_mem _ hb)]; rfl
abbrev en1 (t:T):En:=[.vl t]
theorem vU:∀ (d n:Nat),d<=n->d<=3->∀ k:Kd,k.Ok d->S_9 (n+1) 0 [k.t]= .ok (.str (S k.x))
 | 0,_,_,_,_,h=>h.elim
 | d+1,n,hn,hd, .whole lo hi,⟨h1,h2,h3⟩=>by
  have e1:za 2 f_l (z4 (zc ixT (vE 0) (cE (.int 1))) (z4 (zc ixT (vE 0) (cE (.int 2))) ze)) (en1 (Kd.whole lo hi).t)= .ok (.str (S (spx lo hi))):=by
   rw [ji,Kd.t,yi,bOk,V7,bOk]; exact ym h1 h2 h3
  show zk (b_9 (S_9 n 0) f_l (en1 (Kd.whole lo hi).t))=_
  unfold b_9
  rw [ZF (t:= .str (S (spx lo hi))) (by rw [wY (by rw [Kd.t]; exact cs0)]; exact zD e1)]
  rw [Kd.x]; rfl
 | d+1,n,hn,hd, .pick cs,⟨h1,h2,h3,_⟩=>by
  obtain ⟨s1,s2⟩:=Jm h2 h3
  have e0:Zd (jH (zc ixT (vE 0) (cE (.int 1)))) (Z1 0 1) Zf (f3E ":" (vE 0) (vE 1)) 2 [] (en1 (Kd.pick cs).t)= .ok (.lst ((cs.map chx).map fun l=>T.str (S l))):=by
   rw [jT (ts:=cs.map jB) (itA (by rw [Kd.t]; exact yi)) (by rw [List.length_map]; omega) (w9 cs .un .un h3),List.map_map]; rfl
  have e1:=Jl e0 s1
  have e2:=Zy (f:=cE (.str "{")) (a:=[123]) (ρ:=en1 (Kd.pick cs).t) rfl e1 (by simp only [List.length_cons,List.length_nil]; omega)
  have e3:=Zy (g:=cE (.str "}")) (b:=[125]) e2 rfl (by simp only [List.length_append,List.length_cons,List.length_nil]; omega)
  show zk (b_9 (S_9 n 0) f_l (en1 (Kd.pick cs).t))=_
  unfold b_9
  rw [zg (zK (by rw [Kd.t]; exact cs0)),ZF (t:= .str (S ([123]++jn (cs.map chx)++[125]))) (by rw [wY (by rw [Kd.t]; exact cs0)]; exact zD e3)]
  rw [Kd.x]; rfl
 | d+1,n+1,hn,hd, .row ks,⟨h1,h2,h3⟩=>by
  obtain ⟨s1,s2⟩:=Jn (by omega) h2 h3
  have e0:Zd (jH (zc ixT (vE 0) (cE (.int 1)))) (Za 0) Zf (za 1 (S_9 (n+1) 0) (z4 (vE 0) ze)) 1 [] (en1 (Kd.row ks).t)= .ok (.lst ((ks.map Kd.x).map fun l=>T.str (S l))):=by
   rw [jT (ts:=ks.map Kd.t) (itA (by rw [Kd.t,Kd.ts_map]; exact yi)) (by rw [List.length_map]; omega) (ZZ Kd.t (fun k=>T.str (S k.x)) ks .un fun k hk=>vU d n (by omega) (by omega) k (h3 k hk)),List.map_map]; rfl
  have e1:=Jl e0 s1
  have e2:=Zy (f:=cE (.str "(")) (a:=[40]) (ρ:=en1 (Kd.row ks).t) rfl e1 (by simp only [List.length_cons,List.length_nil]; omega)
  have e3:=Zy (g:=cE (.str ")")) (b:=[41]) e2 rfl (by simp only [List.length_append,List.length_cons,List.length_nil]; omega)
  show zk (b_9 (S_9 (n+1) 0) f_l (en1 (Kd.row ks).t))=_
  unfold b_9
  rw [zg (zK (by rw [Kd.t]; exact cs0)),zg (zK (by rw [Kd.t]; exact cs0)),ZF (t:= .str (S ([40]++jn (ks.map Kd.x)++[41]))) (by rw [wY (by rw [Kd.t]; exact cs0)]; exact zD e3)]
  rw [Kd.x,Kd.xs_map]; rfl
 | d+1,n+1,hn,hd, .many k lo hi,⟨h1,h2,h3⟩=>by
  have hx:=Wr d k h3
  have hb:=W2 (d:=d) (by omega)
  have hs:=ZO (lo:=lo) (hi:=hi) (by omega) (by omega) (by omega)
  have e0:za 1 (S_9 (n+1) 0) (z4 (zc ixT (vE 0) (cE (.int 1))) ze) (en1 (Kd.many k lo hi).t)= .ok (.str (S k.x)):=by
   rw [Z2,Kd.t,yi,bOk]; exact vU d n (by omega) (by omega) k h3
  have e1:=Zy (f:=cE (.str "[")) (a:=[91]) (ρ:=en1 (Kd.many k lo hi).t) rfl e0 (by simp only [List.length_cons,List.length_nil]; omega)
  have e2:=Zy (g:=cE (.str "]")) (b:=[93]) e1 rfl (by simp only [List.length_append,List.length_cons,List.length_nil]; omega)
  have e4:za 2 f_l (z4 (zc ixT (vE 0) (cE (.int 2))) (z4 (zc ixT (vE 0) (cE (.int 3))) ze)) (en1 (Kd.many k lo hi).t)= .ok (.str (S (spx lo hi))):=by
   rw [ji,Kd.t,V7,bOk,V8,bOk]; exact ym (by omega) (by omega) (by omega)
  have e3:=Zy e2 e4 (by simp only [List.length_append,List.length_cons,List.length_nil]; omega)
  show zk (b_9 (S_9 (n+1) 0) f_l (en1 (Kd.many k lo hi).t))=_
  unfold b_9
  rw [zg (zK (by rw [Kd.t]; exact cs0)),zg (zK (by rw [Kd.t]; exact cs0)),zg (zK (by rw [Kd.t]; exact cs0)),zD e3]
  rw [Kd.x]
  show R.ok (T.str (S _))=_
  simp
theorem QH {f:En->R T} {ρ:En} {i:Int} (h:f ρ= .ok (.int i)) (hi:i.natAbs < 1000000):ap1 Js f ρ= .ok (.str (S (nl i))):=by
 rw [jM,h,bOk]
 unfold Js
 rw [W1 hi]
theorem jU:∀ (cs:List (Str×Int)) (x y:Sl),(∀ c∈cs,zI (.str c.1)=true/\1<=c.2/\c.2<=20)->zx (Z1 0 1) Zf (zc zl (zc zl (vE 0) (cE (.str ":"))) (ap1 Js (vE 1))) (cs.map jB) [x,y]= .ok (cs.map fun c=>T.str (S (chx c)))
 | [],_,_,_=>rfl
 | c :: cs,x,y,h=>by
  obtain ⟨a1,a2,a3⟩:=h c List.mem_cons_self
  have hl:=jE a1 a2 a3
  have hw:=Jk a1
  unfold chx at hl
  simp only [List.length_append,List.length_cons,List.length_nil] at hl
  have e0:vE 0 [.vl (.str c.1), .vl (.int c.2)]= .ok (.str (S c.1.cps.toList)):=by rw [Yx]; rfl
  have e1:=Zy (g:=cE (.str ":")) (b:=[58]) e0 rfl (by simp only [List.length_cons,List.length_nil]; omega)
  have e2:=Zy e1 (QH (f:=vE 1) (ρ:=[.vl (.str c.1), .vl (.int c.2)]) (i:=c.2) rfl (by omega)) (by simp only [List.length_append,List.length_cons,List.length_nil]; omega)
  have e:zx (Z1 0 1) Zf (zc zl (zc zl (vE 0) (cE (.str ":"))) (ap1 Js (vE 1))) ((c :: cs).map jB) [x,y]=(zc zl (zc zl (vE 0) (cE (.str ":"))) (ap1 Js (vE 1)) [.vl (.str c.1), .vl (.int c.2)]).bind fun v=>(zx (Z1 0 1) Zf (zc zl (zc zl (vE 0) (cE (.str ":"))) (ap1 Js (vE 1))) (cs.map jB) [.vl (.str c.1), .vl (.int c.2)]).bind fun vs=> .ok (v :: vs):=rfl
  rw [e,e2,bOk,jU cs _ _ fun c hc=>h c (List.mem_cons_of_mem _ hc)]; rfl
theorem Ql {t:T} {h:List Nat} {lo hi:Int} (h1: -20<=lo) (h2:lo<=hi) (h3:hi<=20) (hh:h.length<=1000) (e1:zc ixT (vE 0) (Jq (cE (.int 2))) [.vl t, .vl (.str (S h))]= .ok (.int lo)) (e2:zc ixT (vE 0) (Jq (cE (.int 1))) [.vl t, .vl (.str (S h))]= .ok (.int hi)):
  zO (zc zl (zc zl (zc zl (vE 1) (ap1 Js (zc ixT (vE 0) (Jq (cE (.int 2)))))) (cE (.str ".."))) (ap1 Js (zc ixT (vE 0) (Jq (cE (.int 1)))))) [.vl t, .vl (.str (S h))]= .rt (.str (S (h++spx lo hi))):=by
 have hs:=ZO h1 h2 h3
 unfold spx at hs ⊢
 simp only [List.length_append,List.length_cons,List.length_nil] at hs
 have a1:=Zy (f:=vE 1) (a:=h) rfl (QH e1 (by omega)) (by omega)
 have a2:=Zy (g:=cE (.str "..")) (b:=[46,46]) a1 rfl (by simp only [List.length_append,List.length_cons,List.length_nil]; omega)
 have a3:=Zy a2 (QH e2 (by omega)) (by simp only [List.length_append,List.length_cons,List.length_nil]; omega)
 rw [zD a3]
 simp
theorem YC:∀ (d n:Nat),d<=n->d<=3->∀ k:Kd,k.Ok d->S_7 (n+1) 0 [k.t]= .ok (.str (S k.x))
 | 0,_,_,_,_,h=>h.elim
 | d+1,n,hn,hd, .whole lo hi,⟨h1,h2,h3⟩=>by
  have e1:Z5 1 (ifE (zY eqC (zc ixT (vE 0) (cE (.int 0))) (cE (.str "many"))) (zc zl (zc zl (cE (.str "[")) (za 1 (S_7 n 0) (z4 (zc ixT (vE 0) (cE (.int 1))) ze))) (cE (.str "]"))) (cE (.str ""))) [.vl (Kd.whole lo hi).t, .un]= .nx [.vl (Kd.whole lo hi).t, .vl (.str (S []))]:=by
   refine ZE ?_
   unfold ifE
   rw [Kd.t,cs0,bOk]; rfl
  show zk (b_7 (S_7 n 0) [.vl (Kd.whole lo hi).t, .un])=_
  unfold b_7
  rw [zg (zK (by rw [Kd.t]; exact cs0)),zg (zK (by rw [Kd.t]; exact cs0)),zg e1,Ql h1 h2 h3 (by simp) (by rw [Kd.t]; rfl) (by rw [Kd.t]; rfl)]
  rw [Kd.x]; rfl
 | d+1,n,hn,hd, .pick cs,⟨h1,h2,h3,_⟩=>by
  obtain ⟨s1,s2⟩:=Jm h2 h3
  have e0:Zd (jH (zc ixT (vE 0) (cE (.int 1)))) (Z1 0 1) Zf (zc zl (zc zl (vE 0) (cE (.str ":"))) (ap1 Js (vE 1))) 2 [] [.vl (Kd.pick cs).t, .un]= .ok (.lst ((cs.map chx).map fun l=>T.str (S l))):=by
   rw [jT (ts:=cs.map jB) (itA (by rw [Kd.t]; exact yi)) (by rw [List.length_map]; omega) (jU cs .un .un h3),List.map_map]; rfl
  have e1:=Jl e0 s1
  have e2:=Zy (f:=cE (.str "{")) (a:=[123]) (ρ:=[.vl (Kd.pick cs).t, .un]) rfl e1 (by simp only [List.length_cons,List.length_nil]; omega)
  have e3:=Zy (g:=cE (.str "}")) (b:=[125]) e2 rfl (by simp only [List.length_append,List.length_cons,List.length_nil]; omega)
  show zk (b_7 (S_7 n 0) [.vl (Kd.pick cs).t, .un])=_
  unfold b_7
  rw [ZF (t:= .str (S ([123]++jn (cs.map chx)++[125]))) (by rw [wY (by rw [Kd.t]; exact cs0)]; exact zD e3)]
  rw [Kd.x]; rfl
 | d+1,n+1,hn,hd, .row ks,⟨h1,h2,h3⟩=>by
  obtain ⟨s1,s2⟩:=Jn (by omega) h2 h3
  have e0:Zd (jH (zc ixT (vE 0) (cE (.int 1)))) (Za 0) Zf (za 1 (S_7 (n+1) 0) (z4 (vE 0) ze)) 1 [] [.vl (Kd.row ks).t, .un]= .ok (.lst ((ks.map Kd.x).map fun l=>T.str (S l))):=by
   rw [jT (ts:=ks.map Kd.t) (itA (by rw [Kd.t,Kd.ts_map]; exact yi)) (by rw [List.length_map]; omega) (ZZ Kd.t (fun k=>T.str (S k.x)) ks .un fun k hk=>YC d n (by omega) (by omega) k (h3 k hk)),List.map_map]; rfl
  have e1:=Jl e0 s1
  have e2:=Zy (f:=cE (.str "(")) (a:=[40]) (ρ:=[.vl (Kd.row ks).t, .un]) rfl e1 (by simp only [List.length_cons,List.length_nil]; omega)
  have e3:=Zy (g:=cE (.str ")")) (b:=[41]) e2 rfl (by simp only [List.length_append,List.length_cons,List.length_nil]; omega)
  show zk (b_7 (S_7 (n+1) 0) [.vl (Kd.row ks).t, .un])=_
  unfold b_7
  rw [zg (zK (by rw [Kd.t]; exact cs0)),ZF (t:= .str (S ([40]++jn (ks.map Kd.x)++[41]))) (by rw [wY (by rw [Kd.t]; exact cs0)]; exact zD e3)]
  rw [Kd.x,Kd.xs_map]; rfl
 | d+1,n+1,hn,hd, .many k lo hi,⟨h1,h2,h3⟩=>by
  have hx:=Wr d k h3
  have hb:=W2 (d:=d) (by omega)
  have e0:za 1 (S_7 (n+1) 0) (z4 (zc ixT (vE 0) (cE (.int 1))) ze) [.vl (Kd.many k lo hi).t, .un]= .ok (.str (S k.x)):=by
   rw [Z2,Kd.t,yi,bOk]; exact YC d n (by omega) (by omega) k h3
  have e1:=Zy (f:=cE (.str "[")) (a:=[91]) (ρ:=[.vl (Kd.many k lo hi).t, .un]) rfl e0 (by simp only [List.length_cons,List.length_nil]; omega)
  have e2:=Zy (g:=cE (.str "]")) (b:=[93]) e1 rfl (by simp only [List.length_append,List.length_cons,List.length_nil]; omega)
  have e3:Z5 1 (ifE (zY eqC (zc ixT (vE 0) (cE (.int 0))) (cE (.str "many"))) (zc zl (zc zl (cE (.str "[")) (za 1 (S_7 (n+1) 0) (z4 (zc ixT (vE 0) (cE (.int 1))) ze))) (cE (.str "]"))) (cE (.str ""))) [.vl (Kd.many k lo hi).t, .un]= .nx [.vl (Kd.many k lo hi).t, .vl (.str (S ([91]++k.x++[93])))]:=by
   refine ZE ?_
   unfold ifE
   rw [show zY eqC (zc ixT (vE 0) (cE (.int 0))) (cE (.str "many")) [.vl (Kd.many k lo hi).t, .un]= .ok true by rw [Kd.t]; exact cs0,bOk,if_pos rfl]
   exact e2
  show zk (b_7 (S_7 (n+1) 0) [.vl (Kd.many k lo hi).t, .un])=_
  unfold b_7
  rw [zg (zK (by rw [Kd.t]; exact cs0)),zg (zK (by rw [Kd.t]; exact cs0)),zg e3,Ql (lo:=lo) (hi:=hi) (by omega) (by omega) (by omega) (by simp only [List.length_append,List.length_cons,List.length_nil]; omega) (by rw [Kd.t]; rfl) (by rw [Kd.t]; rfl)]
  rw [Kd.x]
  show R.ok (T.str (S _))=_
  simp
theorem uP {i:Int} (h1: -20<=i) (h2:i<=20):f_b [.str (S (nl i))]= .ok (.int i):=by
 obtain ⟨a1,a2,a3,a4⟩:=YB h1 h2
 have e1:zY gtC (ap1 ZP (vB 0)) (cE (.int 3)) [.vl (.str (S (nl i))), .un]= .ok false:=by
  have e:ZP (.str (S (nl i)))= .ok (.int ((nl i).length:Nat)):=by
   show (if (S (nl i)).length<=bnd then R.ok (T.int (S (nl i)).length) else .bad)=_
   rw [zP,if_pos (show (nl i).length<=bnd by have:bnd=16777216:=rfl; omega)]
  show (R.bind (ZP (.str (S (nl i)))) fun x=>R.bind (.ok (.int 3)) fun y=>gtC x y)=_
  rw [e,bOk,bOk]
  show R.ok (decide ((3:Int) < ((nl i).length:Nat)))=_
  rw [decide_eq_false (by omega)]
 have e2:qZ (Z5 1 (ap1 QC (vE 0))) [.vl (.str (S (nl i))), .un]= .nx [.vl (.str (S (nl i))), .vl (.int i)]:=by
  have:ap1 QC (vE 0) [.vl (.str (S (nl i))), .un]= .ok (.int i):=by
   show (match rdI (S (nl i)) with | some n=>R.ok (T.int n) | none=> .bad)=_
   rw [← V9,a4]
  unfold qZ
  rw [ZE this]; rfl
 have e3:zY neC (ap1 Js (vE 1)) (vB 0) [.vl (.str (S (nl i))), .vl (.int i)]= .ok false:=by
  have:ap1 Js (vE 1) [.vl (.str (S (nl i))), .vl (.int i)]= .ok (.str (S (nl i))):=QH rfl (by omega)
  show (R.bind (ap1 Js (vE 1) _) fun x=>R.bind (.ok (.str (S (nl i)))) fun y=>neC x y)=_
  rw [this,bOk,bOk]
  show R.ok (!(S (nl i) == S (nl i)))=_
  simp
 show zk (b_b [.vl (.str (S (nl i))), .un])=_
 unfold b_b
 rw [zg (zK e1),zg e2,zg (zK e3),zD (t:= .int i) rfl]; rfl
theorem yn {f g:En->R T} {ρ:En} {c:Nat} {m a b:List Nat} {y:Str} (hf:f ρ= .ok (.str (S (a++(c :: m)++b)))) (hy:y=S (c :: m)) (hg:g ρ= .ok (.str y)) (h:c ∉ a) (hl:(a++(c :: m)++b).length<=10000):smE YJ f g ρ= .ok (.tup [.str (S a), .str y, .str (S b)]):=by
 subst hy
 unfold smE
 rw [hf,bOk]
 dsimp only
 rw [hg,bOk]
 show (if _ then _ else _)=_
 rw [if_pos ⟨by rw [zP]; have:bnd=16777216:=rfl; omega,by rw [zP]; simp⟩,Qh h]
theorem uQ {lo hi:Int} (h1: -20<=lo) (h2:lo<=hi) (h3:hi<=20):f_i [.str (S (spx lo hi))]= .ok (.tup [.int lo, .int hi]):=by
 have hl:=ZO h1 h2 h3
 have e1:Z5 1 (smE YJ (vE 0) (cE (.str ".."))) [.vl (.str (S (spx lo hi))), .un]= .nx [.vl (.str (S (spx lo hi))), .vl (.tup [.str (S (nl lo)), .str "..", .str (S (nl hi))])]:=
  ZE (yn (c:=46) (m:=[46]) (a:=nl lo) (b:=nl hi) rfl rfl rfl (vT h1 (by omega) (by decide) (by decide)) (by unfold spx at hl; omega))
 show zk (b_i f_b [.vl (.str (S (spx lo hi))), .un])=_
 unfold b_i
 rw [zg e1,zD (t:= .tup [.int lo, .int hi]) (uC (by rw [Z2]; exact uP h1 (by omega)) (by rw [Z2]; exact uP (by omega) h3))]; rfl
theorem W3 {x:Str} (h:zI (.str x)=true):∀ c∈x.cps.toList,97<=c/\c<=122:=by
 have h:(decide (1<=x.length) && decide (x.length<=3) && x.cps.toList.all zL)=true:=h
 rw [Bool.and_eq_true] at h
 intro c hc
 have:=List.all_eq_true.mp h.2 c hc
 unfold zL at this
 simp at this
 exact this
theorem uR {c:Str×Int} (h:zI (.str c.1)=true) (h1:1<=c.2) (h2:c.2<=20):f_o [.str (S (chx c))]= .ok (jB c):=by
 have hl:=jE h h1 h2
 have e1:Z5 1 (smE YJ (vE 0) (cE (.str ":"))) [.vl (.str (S (chx c))), .un]= .nx [.vl (.str (S (chx c))), .vl (.tup [.str (S c.1.cps.toList), .str ":", .str (S (nl c.2))])]:=
  ZE (yn (c:=58) (m:=[]) (a:=c.1.cps.toList) (b:=nl c.2) rfl rfl rfl (fun z=>by have:=W3 h 58 z; omega) (by unfold chx at hl; omega))
 show zk (b_o f_b [.vl (.str (S (chx c))), .un])=_
 unfold b_o
 rw [zg e1,zD (t:=jB c) (uC (by show R.ok (T.str (S c.1.cps.toList))=_; rw [Yx]) (by rw [Z2]; exact uP (by omega) h2))]; rfl
theorem wa {c d:Nat} {l:List Nat} {o p:Str} (ho:o=S [c]) (hp:p=S [d]) (hl:l.length<=9000):f_g [.str (S (c :: (l++[d]))), .str o, .str p]= .ok (.str (S l)):=by
 subst ho hp
 have e1:smE yb (vE 0) (vE 1) [.vl (.str (S (c :: (l++[d])))), .vl (.str (S [c])), .vl (.str (S [d]))]= .ok (.bl true):=by
  show R.ok (T.bl (Txt.startswith (S (c :: (l++[d]))) (S [c])))=_
  rw [Qi]; simp
 have e2:smE QA (vE 0) (vE 2) [.vl (.str (S (c :: (l++[d])))), .vl (.str (S [c])), .vl (.str (S [d]))]= .ok (.bl true):=by
  show R.ok (T.bl (Txt.endswith (S ((c :: l)++[d])) (S [d])))=_
  rw [vQ]
 have e3:orT (wk (jL (smE yb (vE 0) (vE 1)))) (wk (jL (smE QA (vE 0) (vE 2)))) [.vl (.str (S (c :: (l++[d])))), .vl (.str (S [c])), .vl (.str (S [d]))]= .ok false:=by
  rw [Wl,jQ,jf,e1,bOk,jx,bOk,bOk,jQ,jf,e2,bOk,jx]; rfl
 have e4:Jr (vE 0) (zZ (ap1 ZP (vB 1))) (zZ (Jq (ap1 ZP (vB 2)))) [.vl (.str (S (c :: (l++[d])))), .vl (.str (S [c])), .vl (.str (S [d]))]= .ok (.str (S l)):=by
  show (if (S (c :: (l++[d]))).length<=bnd then R.ok (T.str (Txt.slice (S (c :: (l++[d]))) (some 1) (some (-1)))) else .bad)=_
  rw [Qj,if_pos]
  rw [zP]
  have:bnd=16777216:=rfl
  simp only [List.length_cons,List.length_append,List.length_nil]; omega
 show zk (b_g [.vl (.str (S (c :: (l++[d])))), .vl (.str (S [c])), .vl (.str (S [d]))])=_
 unfold b_g
 rw [zg (zK e3),zD e4]; rfl
def opn (c:Nat):Bool:=decide (c∈[40,91,123])
def cls (c:Nat):Bool:=decide (c∈[41,93,125])
def sc:Nat->List Nat->Option Nat
 | d,[]=>some d
 | d,c :: r=>if opn c then sc (d+1) r else if cls c then (match d with | 0=>none | e+1=>if e=0/\c=32 then none else sc e r) else if d=0/\c=32 then none else sc d r
abbrev pE (L:List Nat) (acc:List T) (b d:Int) (x y:Sl):En:=[.vl (.str (S L)), .vl (.str " "), .ow acc, .vl (.int b), .vl (.int d),x,y]
abbrev jF:En->RS:=(zF (ifS (zY wP (vB 6) (cE (.str "([{"))) (Z5 4 (zc zl (vE 4) (cE (.int 1)))) (nxS))
  (zF (ifS (zY wP (vB 6) (cE (.str ")]}"))) (Z5 4 (zc jr (vE 4) (cE (.int 1)))) (nxS))
  (ifS (qz (zY eqC (vB 4) (cE (.int 0))) (jL (UF (vE 0) (vE 1) (vE 5)))) (zF (Ux 2 (Jr (vE 0) (zZ (vE 3)) (zZ (vE 5))))
  (Z5 3 (zc zl (vE 5) (ap1 ZP (vB 1))))) (nxS))))
def itm (L:List Nat):List T:=ZC (Ze (S L))
theorem W4 {L:List Nat} {i c:Nat} {r:List Nat} (h:L.drop i=c :: r):(itm L).drop i=T.tup [.int (i:Nat), .str (S [c])] :: (itm L).drop (i+1):=by
 have hg:L[i]? =some c:=by
  have:(L.drop i)[0]? =some c:=by rw [h]; rfl
  simpa using this
 have e:(itm L)[i]? =some (T.tup [.int (i:Nat), .str (S [c])]):=by
  unfold itm ZC Ze
  rw [Zb,List.getElem?_map,List.getElem?_zipIdx,List.getElem?_map,hg]
  simp [S]
 obtain ⟨hi,e⟩:=List.getElem?_eq_some_iff.mp e
 rw [List.drop_eq_getElem_cons hi,e]
theorem Qm {ρ:En} {c:Nat} (h:vB 6 ρ= .ok (.str (S [c]))):zY wP (vB 6) (cE (.str "([{")) ρ= .ok (opn c):=by
 show (R.bind (vB 6 ρ) fun x=>R.bind (.ok (.str "([{")) fun y=>wP x y)=_
 rw [h,bOk,bOk]
 show R.ok (!(Builtin.Str.occurrences "([{" ⟨#[c]⟩ 0 ((("([{":Str))).length 1).isEmpty)=_
 rw [StrLaws.found_one]; rfl
theorem YD {ρ:En} {c:Nat} (h:vB 6 ρ= .ok (.str (S [c]))):zY wP (vB 6) (cE (.str ")]}")) ρ= .ok (cls c):=by
 show (R.bind (vB 6 ρ) fun x=>R.bind (.ok (.str ")]}")) fun y=>wP x y)=_
 rw [h,bOk,bOk]
 show R.ok (!(Builtin.Str.occurrences ")]}" ⟨#[c]⟩ 0 (((")]}":Str))).length 1).isEmpty)=_
 rw [StrLaws.found_one]; rfl
theorem Qn {c:Nat} (h:opn c=true):cls c=false:=by
 unfold opn at h
 unfold cls
 simp at h ⊢
 omega
theorem Qo {acc:List T} {L:List Nat} {b d:Int} {i c:Nat}:zF (ifS (zY wP (vB 6) (cE (.str "([{"))) (Z5 4 (zc zl (vE 4) (cE (.int 1)))) nxS) (zF (ifS (zY wP (vB 6) (cE (.str ")]}"))) (Z5 4 (zc jr (vE 4) (cE (.int 1)))) nxS) f) (pE L acc b d (.vl (.int (i:Nat))) (.vl (.str (S [c]))))=f (pE L acc b (d+(if opn c then 1 else 0) - (if cls c then 1 else 0)) (.vl (.int (i:Nat))) (.vl (.str (S [c])))):=by
 cases ho:opn c with
 | true=>
  have hc:=Qn ho
  have e1:Z5 4 (zc zl (vE 4) (cE (.int 1))) (pE L acc b d (.vl (.int (i:Nat))) (.vl (.str (S [c]))))= .nx (pE L acc b (d+1) (.vl (.int (i:Nat))) (.vl (.str (S [c])))):=rfl
  rw [zg ((wY (by rw [Qm rfl,ho])).trans e1),zg (zK (by rw [YD rfl,hc])),hc]
  simp
 | false=>
  rw [zg (zK (by rw [Qm rfl,ho]))]
  cases hc:cls c with
  | true=>
   have e1:Z5 4 (zc jr (vE 4) (cE (.int 1))) (pE L acc b d (.vl (.int (i:Nat))) (.vl (.str (S [c]))))= .nx (pE L acc b (d - 1) (.vl (.int (i:Nat))) (.vl (.str (S [c])))):=rfl
   rw [zg ((wY (by rw [YD rfl,hc])).trans e1)]
   simp
  | false=>
   rw [zg (zK (by rw [YD rfl,hc]))]
   simp
theorem Qp {L:List Nat} {acc:List T} {b d:Int} {i c:Nat} {r:List Nat} (h:L.drop i=c :: r):qz (zY eqC (vB 4) (cE (.int 0))) (jL (UF (vE 0) (vE 1) (vE 5))) (pE L acc b d (.vl (.int (i:Nat))) (.vl (.str (S [c]))))= .ok ((d == 0) && (c == 32)):=by
 rw [Yr]
 show (R.bind (.ok (d == 0)) _)=_
 rw [bOk]
 cases hd:(d == 0) with
 | false=>rfl
 | true=>
  rw [if_pos rfl,jf]
  have hg:L[i]? =some c:=by
   have:(L.drop i)[0]? =some c:=by rw [h]; rfl
   simpa using this
  have hi:i < L.length:=(List.getElem?_eq_some_iff.mp hg).1
  show R.ok (Txt.startswith3 (S L) (S [32]) (i:Int))=_
  rw [vR hi,hg]
  simp
theorem uS {L:List Nat} {acc:List T} {b d:Int} {i c:Nat} {r:List Nat} {x y:Sl} (h:L.drop i=c :: r) (hn:((d+(if opn c then 1 else 0) - (if cls c then 1 else 0) == 0) && (c == 32))=false):
  jk (Z1 5 6) jF ((itm L).drop i) (pE L acc b d x y)=jk (Z1 5 6) jF ((itm L).drop (i+1)) (pE L acc b (d+(if opn c then 1 else 0) - (if cls c then 1 else 0)) (.vl (.int (i:Nat))) (.vl (.str (S [c])))):=by
 rw [W4 h]
 refine wZ (ρ1:=pE L acc b d (.vl (.int (i:Nat))) (.vl (.str (S [c])))) rfl ?_
 unfold jF
 rw [Qo]
 exact zK (by rw [Qp h,hn])
theorem uT {L:List Nat} {acc:List T} {b:Int}:∀ (w:List Nat) (d e i:Nat) (rest:List Nat) (x y:Sl),L.drop i=w++rest->sc d w=some e->∃ x' y',jk (Z1 5 6) jF ((itm L).drop i) (pE L acc b (d:Nat) x y)=jk (Z1 5 6) jF ((itm L).drop (i+w.length)) (pE L acc b (e:Nat) x' y')
 | [],d,e,i,rest,x,y,_,h=>by
  cases h
  exact ⟨x,y,rfl⟩
 | c :: w,d,e,i,rest,x,y,hL,h=>by
  have hL' :L.drop (i+1)=w++rest:=by
   have:(L.drop i).drop 1=w++rest:=by rw [hL]; rfl
   rw [List.drop_drop] at this; exact this
  unfold sc at h
  cases ho:opn c with
  | true=>
   rw [ho,if_pos rfl] at h
   have hc:=Qn ho
   have h32:c ≠ 32:=fun z=>by subst z; cases ho
   obtain ⟨x',y',q⟩:=uT w (d+1) e (i+1) rest (.vl (.int (i:Nat))) (.vl (.str (S [c]))) hL' h
   refine ⟨x',y', ?_⟩
   rw [uS hL (by rw [beq_eq_false_iff_ne.mpr h32,Bool.and_false]),ho,hc]
   rw [List.length_cons,show i+(w.length+1)=i+1+w.length by omega,← q]
   simp
  | false=>
   rw [ho,if_neg Bool.false_ne_true] at h
   cases hc:cls c with
   | true=>
    rw [hc,if_pos rfl] at h
    cases d with
    | zero=>cases h
    | succ d=>
     have h32:c ≠ 32:=fun z=>by subst z; cases hc
     have h:(if d=0/\c=32 then none else sc d w)=some e:=h
     rw [if_neg (fun z=>h32 z.2)] at h
     obtain ⟨x',y',q⟩:=uT w d e (i+1) rest (.vl (.int (i:Nat))) (.vl (.str (S [c]))) hL' h
     refine ⟨x',y', ?_⟩
     rw [uS hL (by rw [beq_eq_false_iff_ne.mpr h32,Bool.and_false]),ho,hc]
     rw [List.length_cons,show i+(w.length+1)=i+1+w.length by omega,← q]
     simp
   | false=>
    rw [hc,if_neg Bool.false_ne_true] at h
    split at h
    ·cases h
    ·rename_i hz
     obtain ⟨x',y',q⟩:=uT w d e (i+1) rest (.vl (.int (i:Nat))) (.vl (.str (S [c]))) hL' h
     refine ⟨x',y', ?_⟩
     rw [uS hL (by
      rw [ho,hc]
      by_cases h32:c=32
      ·have:d ≠ 0:=fun z=>hz ⟨z,h32⟩
       simp; omega
      ·rw [beq_eq_false_iff_ne.mpr h32,Bool.and_false]),ho,hc]
     rw [List.length_cons,show i+(w.length+1)=i+1+w.length by omega,← q]
     simp
theorem vV {L:List Nat} {acc:List T} {b i:Nat} {r:List Nat} {x y:Sl} (h:L.drop i=32 :: r) (hb:b<=i) (hl:L.length<=9000) (ha:acc.length < 1000):
  ∃ x' y',jk (Z1 5 6) jF ((itm L).drop i) (pE L acc (b:Nat) 0 x y)=jk (Z1 5 6) jF ((itm L).drop (i+1)) (pE L (acc++[.str (S ((L.drop b).take (i - b)))]) ((i+1:Nat):Int) 0 x' y'):=by
 refine ⟨.vl (.int (i:Nat)), .vl (.str (S [32])), ?_⟩
 have hi:i<=L.length:=by
  have:=congrArg List.length h
  simp at this; omega
 rw [W4 h]
 refine wZ (ρ1:=pE L acc (b:Nat) 0 (.vl (.int (i:Nat))) (.vl (.str (S [32])))) rfl ?_
 unfold jF
 rw [Qo]
 have e0:(0:Int)+(if opn 32 then 1 else 0) - (if cls 32 then 1 else 0)=0:=by decide
 rw [e0,wY (by rw [Qp h]; rfl)]
 have e1:Jr (vE 0) (zZ (vE 3)) (zZ (vE 5)) (pE L acc (b:Nat) 0 (.vl (.int (i:Nat))) (.vl (.str (S [32]))))= .ok (.str (S ((L.drop b).take (i - b)))):=by
  show (if (S L).length<=bnd then R.ok (T.str (Txt.slice (S L) (some (b:Int)) (some (i:Int)))) else .bad)=_
  rw [YA hb hi,if_pos]
  rw [zP]
  have:bnd=16777216:=rfl
  omega
 have e2:Ux 2 (Jr (vE 0) (zZ (vE 3)) (zZ (vE 5))) (pE L acc (b:Nat) 0 (.vl (.int (i:Nat))) (.vl (.str (S [32]))))= .nx (pE L (acc++[.str (S ((L.drop b).take (i - b)))]) (b:Nat) 0 (.vl (.int (i:Nat))) (.vl (.str (S [32])))):=by
  show (R.s (Jr (vE 0) (zZ (vE 3)) (zZ (vE 5)) _) fun t=>if acc.length < bnd then RS.nx _ else .bad)=_
  rw [e1,ZQ,if_pos (by have:bnd=16777216:=rfl; omega)]; rfl
 rw [zg e2]
 rfl
theorem Qq {L:List Nat} (hL:L.length<=9000):∀ (ls:List (List Nat)) (acc:List T) (i:Nat) (x y:Sl),ls ≠ []->ls.length+acc.length<=900->(∀ w∈ls,sc 0 w=some 0)->L.drop i=jn ls->i<=L.length->
  ∃ (acc' :List T) (j:Nat) (x' y' :Sl),jk (Z1 5 6) jF ((itm L).drop i) (pE L acc (i:Nat) 0 x y)= .nx (pE L acc' (j:Nat) 0 x' y')/\j<=L.length/\acc'.length<=900/\acc' ++[.str (S (L.drop j))]=acc++ls.map fun l=>T.str (S l)
 | [],_,_,_,_,h,_,_,_,_=>absurd rfl h
 | [w],acc,i,x,y,_,hc,hs,hj,hi=>by
  have hj:L.drop i=w++[]:=by rw [List.append_nil]; exact hj
  obtain ⟨x',y',q⟩:=uT (L:=L) (acc:=acc) (b:=(i:Nat)) w 0 0 i [] x y hj (hs w List.mem_cons_self)
  refine ⟨acc,i,x',y', ?_,hi,by simp at hc; omega,by rw [hj,List.append_nil]; rfl⟩
  refine Eq.trans q ?_
  have:(itm L).drop (i+w.length)=[]:=by
   refine List.drop_eq_nil_of_le ?_
   have e:=congrArg List.length hj
   unfold itm ZC Ze
   rw [Zb]
   simp at e ⊢; omega
  rw [this]; rfl
 | w :: v :: r,acc,i,x,y,_,hc,hs,hj,hi=>by
  have hj:L.drop i=w++32 :: jn (v :: r):=hj
  obtain ⟨x1,y1,q1⟩:=uT (L:=L) (acc:=acc) (b:=(i:Nat)) w 0 0 i _ x y hj (hs w List.mem_cons_self)
  have hj2:L.drop (i+w.length)=32 :: jn (v :: r):=by
   rw [← List.drop_drop,hj,List.drop_left]
  have hj3:L.drop (i+w.length+1)=jn (v :: r):=by
   rw [← List.drop_drop,hj2]; rfl
  obtain ⟨x2,y2,q2⟩:=vV (L:=L) (acc:=acc) (b:=i) (i:=i+w.length) (x:=x1) (y:=y1) hj2 (by omega) hL (by simp at hc; omega)
  have ht:(L.drop i).take (i+w.length - i)=w:=by
   rw [hj,show i+w.length - i=w.length by omega,List.take_left]
  rw [ht] at q2
  have hle:i+w.length+1<=L.length:=by
   have:=congrArg List.length hj2
   simp at this; omega
  obtain ⟨acc',j,x3,y3,q3,a1,a2,a3⟩:=Qq hL (v :: r) (acc++[.str (S w)]) (i+w.length+1) x2 y2 (List.cons_ne_nil _ _) (by simp at hc ⊢; omega) (fun z hz=>hs z (List.mem_cons_of_mem _ hz)) hj3 hle
  exact ⟨acc',j,x3,y3,q1.trans (q2.trans q3),a1,a2,by rw [a3]; simp⟩
theorem uU {ls:List (List Nat)} (h0:ls ≠ []) (hc:ls.length<=100) (hs:∀ w∈ls,sc 0 w=some 0) (hL:(jn ls).length<=9000):f_f [.str (S (jn ls)), .str " "]= .ok (.lst (ls.map fun l=>T.str (S l))):=by
 obtain ⟨acc',j,x',y',q,a1,a2,a3⟩:=Qq hL ls [] 0 .un .un h0 (by simp; omega) hs rfl (Nat.zero_le _)
 have e1:U4 (uq (vE 0)) (Z1 5 6) jF (pE (jn ls) [] 0 0 .un .un)= .nx (pE (jn ls) acc' (j:Nat) 0 x' y'):=q
 have e2:Jr (vE 0) (zZ (vE 3)) noO (pE (jn ls) acc' (j:Nat) 0 x' y')= .ok (.str (S ((jn ls).drop j))):=by
  show (if (S (jn ls)).length<=bnd then R.ok (T.str (Txt.slice (S (jn ls)) (some (j:Int)) none)) else .bad)=_
  rw [uO a1,if_pos]
  rw [zP]
  have:bnd=16777216:=rfl
  omega
 have e3:Ux 2 (Jr (vE 0) (zZ (vE 3)) noO) (pE (jn ls) acc' (j:Nat) 0 x' y')= .nx (pE (jn ls) (ls.map fun l=>T.str (S l)) (j:Nat) 0 x' y'):=by
  show (R.s (Jr (vE 0) (zZ (vE 3)) noO _) fun t=>if acc'.length < bnd then RS.nx _ else .bad)=_
  rw [e2,ZQ,if_pos (by have:bnd=16777216:=rfl; omega)]
  show RS.nx (pE (jn ls) (acc' ++[.str (S ((jn ls).drop j))]) (j:Nat) 0 x' y')=_
  rw [a3]; rfl
 show zk (b_f [.vl (.str (S (jn ls))), .vl (.str " "), .un, .un, .un, .un, .un])=_
 unfold b_f
 have z1:qC 2 ze [.vl (.str (S (jn ls))), .vl (.str " "), .un, .un, .un, .un, .un]= .nx [.vl (.str (S (jn ls))), .vl (.str " "), .ow [], .un, .un, .un, .un]:=rfl
 have z2:Z5 3 (cE (.int 0)) [.vl (.str (S (jn ls))), .vl (.str " "), .ow [], .un, .un, .un, .un]= .nx [.vl (.str (S (jn ls))), .vl (.str " "), .ow [], .vl (.int 0), .un, .un, .un]:=rfl
 have z3:Z5 4 (cE (.int 0)) [.vl (.str (S (jn ls))), .vl (.str " "), .ow [], .vl (.int 0), .un, .un, .un]= .nx (pE (jn ls) [] 0 0 .un .un):=rfl
 unfold jF at e1
 rw [zg z1,zg z2,zg z3,zg e1,zg e3]
 rfl
def pln (c:Nat):Prop:=c ≠ 32/\c ≠ 40/\c ≠ 91/\c ≠ 123/\c ≠ 41/\c ≠ 93/\c ≠ 125
theorem Qr {c:Nat} (h:pln c):opn c=false/\cls c=false:=by
 unfold pln at h
 unfold opn cls
 simp; omega
theorem W5:∀ (l:List Nat) (d:Nat),(∀ c∈l,pln c)->sc d l=some d
 | [],_,_=>rfl
 | c :: r,d,h=>by
  have hc:=h c List.mem_cons_self
  obtain ⟨h1,h2⟩:=Qr hc
  unfold sc
  rw [h1,h2,if_neg Bool.false_ne_true,if_neg Bool.false_ne_true,if_neg (fun z=>hc.1 z.2)]
  exact W5 r d fun x hx=>h x (List.mem_cons_of_mem _ hx)
theorem uV (d c:Nat) (r:List Nat):sc d (c :: r)=if opn c then sc (d+1) r else if cls c then (match d with | 0=>none | e+1=>if e=0/\c=32 then none else sc e r) else if d=0/\c=32 then none else sc d r:=by
 conv=>lhs; unfold sc
 all_goals (cases d <;> rfl)
theorem jG:∀ (a b:List Nat) (d e:Nat),sc d a=some e->sc d (a++b)=sc e b
 | [],b,d,e,h=>by cases h; rfl
 | c :: r,b,d,e,h=>by
  rw [List.cons_append,uV]
  rw [uV] at h
  split at h
  ·rename_i ho
   rw [if_pos ho]; exact jG r b _ _ h
  ·rename_i ho
   rw [if_neg ho]
   split at h
   ·rename_i hc
    rw [if_pos hc]
    cases d with
    | zero=>cases h
    | succ d=>
     dsimp only at h ⊢
     split at h
     ·cases h
     ·rename_i hz
      rw [if_neg hz]; exact jG r b _ _ h
   ·rename_i hc
    rw [if_neg hc]
    split at h
    ·cases h
    ·rename_i hz
     rw [if_neg hz]; exact jG r b _ _ h
theorem Ws:∀ (a:List Nat) (d e:Nat),sc d a=some e->sc (d+1) a=some (e+1)
 | [],d,e,h=>by cases h; rfl
 | c :: r,d,e,h=>by
  unfold sc at h ⊢
  split at h
  ·rename_i ho
   rw [if_pos ho]; exact Ws r _ _ h
  ·rename_i ho
   rw [if_neg ho]
   split at h
   ·rename_i hc
    rw [if_pos hc]
    cases d with
    | zero=>cases h
    | succ d=>
     dsimp only at h ⊢
     split at h
     ·cases h
     ·rw [if_neg (by omega)]; exact Ws r _ _ h
   ·rename_i hc
    rw [if_neg hc]
    split at h
    ·cases h
    ·rw [if_neg (by omega)]; exact Ws r _ _ h
theorem YE:∀ ls:List (List Nat),(∀ w∈ls,sc 0 w=some 0)->sc 1 (jn ls)=some 1
 | [],_=>rfl
 | [w],h=>Ws w 0 0 (h w List.mem_cons_self)
 | w :: v :: r,h=>by
  show sc 1 (w++32 :: jn (v :: r))=_
  rw [jG w _ 1 1 (Ws w 0 0 (h w List.mem_cons_self))]
  show sc 1 (jn (v :: r))=_
  exact YE (v :: r) fun z hz=>h z (List.mem_cons_of_mem _ hz)
theorem YF {i:Int} (h1: -20<=i) (h2:i<=20):∀ c∈nl i,pln c:=fun c hc=>by
 have:=(YB h1 h2).2.2.1 c hc
 unfold pln; omega
theorem uW {lo hi:Int} (h1: -20<=lo) (h2:lo<=hi) (h3:hi<=20):∀ c∈spx lo hi,pln c:=fun c hc=>by
 unfold spx at hc
 rcases List.mem_append.mp hc with hc | hc
 ·rcases List.mem_append.mp hc with hc | hc
  ·exact YF h1 (by omega) c hc
  ·have:c=46:=by simpa using hc
   subst this; unfold pln; decide
 ·exact YF (by omega) h3 c hc
theorem yo {c:Str×Int} (h:zI (.str c.1)=true) (h1:1<=c.2) (h2:c.2<=20):∀ x∈chx c,pln x:=fun x hx=>by
 unfold chx at hx
 rcases List.mem_append.mp hx with hx | hx
 ·rcases List.mem_append.mp hx with hx | hx
  ·have:=W3 h x hx
   unfold pln; omega
  ·have:x=58:=by simpa using hx
   subst this; unfold pln; decide
 ·exact YF (by omega) h2 x hx
theorem vW:∀ (d:Nat) (k:Kd),k.Ok d->sc 0 k.x=some 0
 | 0,_,h=>h.elim
 | d+1, .whole lo hi,⟨h1,h2,h3⟩=>by rw [Kd.x]; exact W5 _ 0 (uW h1 h2 h3)
 | d+1, .pick cs,⟨_,_,h3,_⟩=>by
  rw [Kd.x]
  show sc 1 (jn (cs.map chx)++[125])=_
  rw [jG _ _ 1 1 (YE _ fun w hw=>by
   obtain ⟨c,hc,rfl⟩:=List.mem_map.mp hw
   obtain ⟨a1,a2,a3⟩:=h3 c hc
   exact W5 _ 0 (yo a1 a2 a3))]
  rfl
 | d+1, .row ks,⟨_,_,h3⟩=>by
  rw [Kd.x,Kd.xs_map]
  show sc 1 (jn (ks.map Kd.x)++[41])=_
  rw [jG _ _ 1 1 (YE _ fun w hw=>by
   obtain ⟨k,hk,rfl⟩:=List.mem_map.mp hw
   exact vW d k (h3 k hk))]
  rfl
 | d+1, .many k lo hi,⟨h1,h2,h3⟩=>by
  rw [Kd.x]
  show sc 1 (k.x++93 :: spx lo hi)=_
  rw [jG _ _ 1 1 (Ws _ 0 0 (vW d k h3))]
  show sc 0 (spx lo hi)=_
  exact W5 _ 0 (uW (by omega) (by omega) (by omega))
theorem Jo {ρ:En} {c d:Nat} {l:List Nat} {s:Str} (hs:s=S [d]) (h:vE 0 ρ= .ok (.str (S (c :: l)))):jL (smE yb (vE 0) (cE (.str s))) ρ= .ok (c == d):=by
 subst hs
 rw [jf]
 unfold smE
 rw [h,bOk]
 show R.ok (Txt.startswith (S (c :: l)) (S [d]))=_
 rw [Qi]
theorem uX {f:En->R T} {ρ:En} {ts:List T} (h:f ρ= .ok (.lst ts)):ap1 Y5 f ρ= .ok (.tup ts):=by
 rw [jM,h,bOk]; rfl
theorem W6 {c:List T->R T} {α:Type} (f:α->T) (g:α->T) (j:Int):∀ (as:List α) (x:Sl),(∀ a∈as,c [f a, .int (j - 1)]= .ok (g a))->zx (Za 0) Zf (za 2 c (z4 (vE 0) (z4 (zc jr (vE 1) (cE (.int 1))) ze))) (as.map f) [x, .vl (.int j)]= .ok (as.map g)
 | [],_,_=>rfl
 | a :: as,x,h=>by
  have e:zx (Za 0) Zf (za 2 c (z4 (vE 0) (z4 (zc jr (vE 1) (cE (.int 1))) ze))) ((a :: as).map f) [x, .vl (.int j)]=(za 2 c (z4 (vE 0) (z4 (zc jr (vE 1) (cE (.int 1))) ze)) [.vl (f a), .vl (.int j)]).bind fun v=>(zx (Za 0) Zf (za 2 c (z4 (vE 0) (z4 (zc jr (vE 1) (cE (.int 1))) ze))) (as.map f) [.vl (f a), .vl (.int j)]).bind fun vs=> .ok (v :: vs):=rfl
  have e2:zc jr (vE 1) (cE (.int 1)) [.vl (f a), .vl (.int j)]= .ok (.int (j - 1)):=rfl
  rw [e,ji,v0,bOk,e2,bOk,h a List.mem_cons_self,bOk,W6 f g j as _ fun b hb=>h b (List.mem_cons_of_mem _ hb)]; rfl
abbrev kE (t:T) (d:Int) (x y:Sl):En:=[.vl t, .vl (.int d),x,y]
theorem lv0 {t:T} {d:Nat} {x y:Sl}:ifS (zY eqC (vB 1) (cE (.int 0))) U5 nxS (kE t ((d+1:Nat):Int) x y)= .nx (kE t ((d+1:Nat):Int) x y):=by
 refine zK ?_
 show R.ok (((d+1:Nat):Int) == 0)=_
 rw [beq_eq_false_iff_ne.mpr (by omega)]
theorem uY {f g:En->R T} {ρ:En} {xs ys:List T} (hf:f ρ= .ok (.tup xs)) (hg:g ρ= .ok (.tup ys)) (h:xs.length+ys.length<=100):zc zl f g ρ= .ok (.tup (xs++ys)):=by
 rw [zA,hf,bOk,hg,bOk]
 exact if_pos (by have:bnd=16777216:=rfl; omega)
theorem VJ {t:T} {d:Nat} {x y:Sl}:zc jr (vE 1) (cE (.int 1)) (kE t ((d+1:Nat):Int) x y)= .ok (.int (d:Nat)):=by
 show R.ok (T.int (((d+1:Nat):Int) - 1))=_
 rw [show ((d+1:Nat):Int) - 1=(d:Nat) by omega]
theorem uZ {g:List T->R T} {f f' f'' :En->R T} {ρ:En} {x y z:T} (h:f ρ= .ok x) (h' :f' ρ= .ok y) (h'' :f'' ρ= .ok z):za 3 g (z4 f (z4 f' (z4 f'' ze))) ρ=g [x,y,z]:=by
 rw [Zx,h,bOk,h',bOk,h'',bOk]
theorem vX:∀ (d n:Nat),d<=n->d<=3->∀ k:Kd,k.Ok d->S_8 (n+1) 0 [.str (S k.x), .int (d:Nat)]= .ok k.t
 | 0,_,_,_,_,h=>h.elim
 | d+1,n,hn,hd, .whole lo hi,⟨h1,h2,h3⟩=>by
  obtain ⟨_,hne,hch,_⟩:=YB (i:=lo) h1 (by omega)
  obtain ⟨c,r,e⟩:∃ c r,nl lo=c :: r:=by
   cases h:nl lo with
   | nil=>exact absurd h hne
   | cons c r=>exact ⟨c,r,rfl⟩
  have hc:=hch c (by rw [e]; exact List.mem_cons_self)
  have ex:(Kd.whole lo hi).x=c :: (r++[46,46]++nl hi):=by rw [Kd.x]; unfold spx; rw [e]; simp
  have hE:vE 0 (kE (.str (S (Kd.whole lo hi).x)) ((d+1:Nat):Int) .un .un)= .ok (.str (S (c :: (r++[46,46]++nl hi)))):=by rw [ex]; rfl
  have e1:zc zl (ZJ (z4 (cE (.str "whole")) ze)) (za 1 f_i (z4 (vE 0) ze)) (kE (.str (S (Kd.whole lo hi).x)) ((d+1:Nat):Int) .un .un)= .ok (.tup ([.str "whole"]++[.int lo, .int hi])):=
   uY (VG rfl) (by rw [Z2]; show f_i [.str (S (Kd.whole lo hi).x)]=_; rw [Kd.x]; exact uQ h1 h2 h3) (by simp)
  show zk (b_8 f_g f_f (S_8 n 0) f_o f_i (kE (.str (S (Kd.whole lo hi).x)) ((d+1:Nat):Int) .un .un))=_
  unfold b_8
  rw [zg lv0,zg (zK ((Jo (s:="{") (d:=123) rfl hE).trans (by rw [beq_eq_false_iff_ne.mpr (by omega)]))),zg (zK ((Jo (s:="(") (d:=40) rfl hE).trans (by rw [beq_eq_false_iff_ne.mpr (by omega)]))),zg (zK ((Jo (s:="[") (d:=91) rfl hE).trans (by rw [beq_eq_false_iff_ne.mpr (by omega)]))),zD e1,Kd.t]; rfl
 | d+1,n,hn,hd, .pick cs,⟨h1,h2,h3,_⟩=>by
  obtain ⟨s1,s2⟩:=Jm h2 h3
  have hE:vE 0 (kE (.str (S (Kd.pick cs).x)) ((d+1:Nat):Int) .un .un)= .ok (.str (S (123 :: (jn (cs.map chx)++[125])))):=by rw [Kd.x]; rfl
  have e0:za 3 f_g (z4 (vE 0) (z4 (cE (.str "{")) (z4 (cE (.str "}")) ze))) (kE (.str (S (Kd.pick cs).x)) ((d+1:Nat):Int) .un .un)= .ok (.str (S (jn (cs.map chx)))):=by
   rw [uZ hE rfl rfl]; exact wa rfl rfl (by omega)
  have hne:cs.map chx ≠ []:=fun z=>by rw [List.map_eq_nil_iff.mp z] at h1; exact absurd h1 (by decide)
  have e1:smE QB (za 3 f_g (z4 (vE 0) (z4 (cE (.str "{")) (z4 (cE (.str "}")) ze)))) (cE (.str " ")) (kE (.str (S (Kd.pick cs).x)) ((d+1:Nat):Int) .un .un)= .ok (.lst (cs.map fun c=>T.str (S (chx c)))):=by
   unfold smE
   rw [e0,bOk]
   show (if (S (jn (cs.map chx))).length<=1000/\((S [32]).length == 0)=false then R.ok (T.lst ((Txt.split (S (jn (cs.map chx))) (S [32])).map T.str)) else .bad)=_
   rw [if_pos ⟨by rw [zP]; omega,by rw [zP]; rfl⟩,Yy hne (fun x hx=>by
    obtain ⟨c,hc,rfl⟩:=List.mem_map.mp hx
    obtain ⟨a1,a2,a3⟩:=h3 c hc
    exact fun z=>(yo a1 a2 a3 32 z).1 rfl),List.map_map,List.map_map]; rfl
  have e2:jH (smE QB (za 3 f_g (z4 (vE 0) (z4 (cE (.str "{")) (z4 (cE (.str "}")) ze)))) (cE (.str " "))) (kE (.str (S (Kd.pick cs).x)) ((d+1:Nat):Int) .un .un)= .ok (cs.map fun c=>T.str (S (chx c))):=by
   show (R.bind _ ZV)=_
   rw [e1]; rfl
  have e3:=jT (k:=1) (js:=[]) e2 (by rw [List.length_map]; omega) (ZZ (c:=f_o) (fun c=>T.str (S (chx c))) jB cs .un fun c hc=>by
   obtain ⟨a1,a2,a3⟩:=h3 c hc
   exact uR a1 a2 a3)
  have e4:=uC (f:=cE (.str "pick")) (x:= .str "pick") rfl (uX e3)
  show zk (b_8 f_g f_f (S_8 n 0) f_o f_i (kE (.str (S (Kd.pick cs).x)) ((d+1:Nat):Int) .un .un))=_
  unfold b_8
  rw [zg lv0,ZF (t:= .tup [.str "pick", .tup (cs.map jB)]) ((wY (Jo (s:="{") (d:=123) rfl hE)).trans (zD e4)),Kd.t]; rfl
 | d+1,n+1,hn,hd, .row ks,⟨h1,h2,h3⟩=>by
  obtain ⟨s1,s2⟩:=Jn (by omega) h2 h3
  have hE:vE 0 (kE (.str (S (Kd.row ks).x)) ((d+1:Nat):Int) .un .un)= .ok (.str (S (40 :: (jn (ks.map Kd.x)++[41])))):=by rw [Kd.x,Kd.xs_map]; rfl
  have e0:za 3 f_g (z4 (vE 0) (z4 (cE (.str "(")) (z4 (cE (.str ")")) ze))) (kE (.str (S (Kd.row ks).x)) ((d+1:Nat):Int) .un .un)= .ok (.str (S (jn (ks.map Kd.x)))):=by
   rw [uZ hE rfl rfl]; exact wa rfl rfl (by omega)
  have hne:ks.map Kd.x ≠ []:=fun z=>by rw [List.map_eq_nil_iff.mp z] at h1; exact absurd h1 (by decide)
  have e1:Z5 2 (za 2 f_f (z4 (za 3 f_g (z4 (vE 0) (z4 (cE (.str "(")) (z4 (cE (.str ")")) ze)))) (z4 (cE (.str " ")) ze))) (kE (.str (S (Kd.row ks).x)) ((d+1:Nat):Int) .un .un)= .nx (kE (.str (S (Kd.row ks).x)) ((d+1:Nat):Int) (.vl (.lst (ks.map fun k=>T.str (S k.x)))) .un):=by
   refine ZE ?_
   rw [ji,e0,bOk]
   show f_f [.str (S (jn (ks.map Kd.x))), .str " "]=_
   rw [uU hne (by rw [List.length_map]; omega) (fun w hw=>by
    obtain ⟨k,hk,rfl⟩:=List.mem_map.mp hw
    exact vW d k (h3 k hk)) (by omega),List.map_map]; rfl
  have e3:=jT (k:=1) (js:=[1]) (fi:=jH (vE 2)) (ρ:=kE (.str (S (Kd.row ks).x)) ((d+1:Nat):Int) (.vl (.lst (ks.map fun k=>T.str (S k.x)))) .un) rfl (by rw [List.length_map]; omega) (W6 (c:=S_8 (n+1) 0) (fun k:Kd=>T.str (S k.x)) Kd.t ((d+1:Nat):Int) ks .un fun k hk=>by
   rw [show ((d+1:Nat):Int) - 1=(d:Nat) by omega]
   exact vX d n (by omega) (by omega) k (h3 k hk))
  have e4:=uC (f:=cE (.str "row")) (x:= .str "row") rfl (uX e3)
  show zk (b_8 f_g f_f (S_8 (n+1) 0) f_o f_i (kE (.str (S (Kd.row ks).x)) ((d+1:Nat):Int) .un .un))=_
  unfold b_8
  rw [zg lv0,zg (zK (Jo (s:="{") (d:=123) rfl hE)),ZF (t:= .tup [.str "row", .tup (ks.map Kd.t)]) ((wY (Jo (s:="(") (d:=40) rfl hE)).trans ((zg e1).trans (zD e4))),Kd.t,Kd.ts_map]; rfl
 | d+1,n+1,hn,hd, .many k lo hi,⟨h1,h2,h3⟩=>by
  have hx:=Wr d k h3
  have hb:=W2 (d:=d) (by omega)
  have hs:=ZO (lo:=lo) (hi:=hi) (by omega) (by omega) (by omega)
  have hE:vE 0 (kE (.str (S (Kd.many k lo hi).x)) ((d+1:Nat):Int) .un .un)= .ok (.str (S (91 :: (k.x++93 :: spx lo hi)))):=by rw [Kd.x]; rfl
  have e1:Z5 3 (smE vy (vE 0) (cE (.str "]"))) (kE (.str (S (Kd.many k lo hi).x)) ((d+1:Nat):Int) .un .un)= .nx (kE (.str (S (Kd.many k lo hi).x)) ((d+1:Nat):Int) .un (.vl (.tup [.str (S (91 :: k.x)), .str "]", .str (S (spx lo hi))]))):=by
   refine ZE ?_
   unfold smE
   rw [hE,bOk]
   show (if (S ((91 :: k.x)++93 :: spx lo hi)).length<=bnd/\((S [93]).length == 0)=false then R.ok (T.tup [.str (Txt.rpartition (S ((91 :: k.x)++93 :: spx lo hi)) (S [93])).1, .str (Txt.rpartition (S ((91 :: k.x)++93 :: spx lo hi)) (S [93])).2.1, .str (Txt.rpartition (S ((91 :: k.x)++93 :: spx lo hi)) (S [93])).2.2]) else .bad)=_
   rw [Yz (fun z=>(uW (lo:=lo) (hi:=hi) (by omega) (by omega) (by omega) 93 z).2.2.2.2.2.1 rfl),if_pos ⟨by
    rw [zP]
    have:bnd=16777216:=rfl
    simp only [List.length_append,List.length_cons]; omega,by rw [zP]; rfl⟩]
   rfl
  have e2:Jr (zc ixT (vE 3) (cE (.int 0))) (zZ (cE (.int 1))) noO (kE (.str (S (Kd.many k lo hi).x)) ((d+1:Nat):Int) .un (.vl (.tup [.str (S (91 :: k.x)), .str "]", .str (S (spx lo hi))])))= .ok (.str (S k.x)):=by
   show (if (S (91 :: k.x)).length<=bnd then R.ok (T.str (Txt.slice (S (91 :: k.x)) (some ((1:Nat):Int)) none)) else .bad)=_
   rw [uO (by simp),if_pos]
   ·rfl
   ·rw [zP]
    have:bnd=16777216:=rfl
    simp only [List.length_cons]; omega
  have e3:za 2 (S_8 (n+1) 0) (z4 (Jr (zc ixT (vE 3) (cE (.int 0))) (zZ (cE (.int 1))) noO) (z4 (zc jr (vE 1) (cE (.int 1))) ze)) (kE (.str (S (Kd.many k lo hi).x)) ((d+1:Nat):Int) .un (.vl (.tup [.str (S (91 :: k.x)), .str "]", .str (S (spx lo hi))])))= .ok k.t:=by
   rw [ji,e2,bOk,VJ,bOk]; exact vX d n (by omega) (by omega) k h3
  have e4:za 1 f_i (z4 (zc ixT (vE 3) (cE (.int 2))) ze) (kE (.str (S (Kd.many k lo hi).x)) ((d+1:Nat):Int) .un (.vl (.tup [.str (S (91 :: k.x)), .str "]", .str (S (spx lo hi))])))= .ok (.tup [.int lo, .int hi]):=by
   rw [Z2]
   exact uQ (by omega) (by omega) (by omega)
  have e5:=uY (uC (f:=cE (.str "many")) (x:= .str "many") rfl e3) e4 (by simp)
  show zk (b_8 f_g f_f (S_8 (n+1) 0) f_o f_i (kE (.str (S (Kd.many k lo hi).x)) ((d+1:Nat):Int) .un .un))=_
  unfold b_8
  rw [zg lv0,zg (zK (Jo (s:="{") (d:=123) rfl hE)),zg (zK (Jo (s:="(") (d:=40) rfl hE)),ZF (t:= .tup [.str "many",k.t, .int lo, .int hi]) ((wY (Jo (s:="[") (d:=91) rfl hE)).trans ((zg e1).trans (zD e5))),Kd.t]; rfl
theorem UR:∀ (d:Nat) (k:Kd),k.Ok d->Pl (2*d+2) k.t
 | 0,_,h=>h.elim
 | d+1, .whole lo hi,_=>by
  rw [Kd.t]
  intro x hx
  rcases List.mem_cons.mp hx with rfl | hx
  ·exact trivial
  ·rcases List.mem_cons.mp hx with rfl | hx
   ·exact trivial
   ·have:x= .int hi:=by simpa using hx
    subst this; exact trivial
 | d+1, .pick cs,_=>by
  rw [Kd.t]
  intro x hx
  rcases List.mem_cons.mp hx with rfl | hx
  ·exact trivial
  ·have:x= .tup (cs.map jB):=by simpa using hx
   subst this
   intro y hy
   obtain ⟨c,_,rfl⟩:=List.mem_map.mp hy
   intro z hz
   rcases List.mem_cons.mp hz with rfl | hz
   ·exact trivial
   ·have:z= .int c.2:=by simpa using hz
    subst this; exact trivial
 | d+1, .row ks,⟨_,_,h3⟩=>by
  rw [Kd.t,Kd.ts_map]
  intro x hx
  rcases List.mem_cons.mp hx with rfl | hx
  ·exact trivial
  ·have:x= .tup (ks.map Kd.t):=by simpa using hx
   subst this
   intro y hy
   obtain ⟨k,hk,rfl⟩:=List.mem_map.mp hy
   exact UR d k (h3 k hk)
 | d+1, .many k lo hi,⟨_,_,h3⟩=>by
  rw [Kd.t]
  intro x hx
  rcases List.mem_cons.mp hx with rfl | hx
  ·exact trivial
  ·rcases List.mem_cons.mp hx with rfl | hx
   ·exact Pl.up _ _ (UR d k h3)
   ·rcases List.mem_cons.mp hx with rfl | hx
    ·exact trivial
    ·have:x= .int hi:=by simpa using hx
     subst this; exact trivial
theorem yp {k:Kd} (hk:k.Ok 3):f_2 [k.t]= .ok (.bl true):=by
 have hi:=uG 3 k hk
 rw [Wo _ (Jf 3 _ hi).so,hi]
theorem U0 {k:Kd} (hk:k.Ok 3):f_h [k.t]= .ok .non:=by
 show zk (ifS (wk (jL (za 1 f_2 (z4 (vE 0) ze)))) U5 nxS [.vl k.t])=_
 rw [zK (by rw [jQ,jf,Z2,v0,bOk,yp hk,bOk,jx,bOk]; rfl)]; rfl
theorem yq {k:Kd} (hk:k.Ok 3):f_j [k.t]= .ok (.int (k.all.length:Int)):=by
 show zk (b_j f_h (f_4 20) [.vl k.t])=_
 rw [b_j,zg (wz (t:= .non) (by rw [Z2,v0,bOk,U0 hk])),zD (t:= .int (k.all.length:Int))]
 ·rfl
 ·show za 1 _ _ [.vl k.t]=_
  rw [Z2,v0,bOk,UO (by omega) hk]
theorem YG {k:Kd} (hk:k.Ok 3):f_3 [k.t]= .ok (.str (S k.x)):=by
 show zk (b_3 f_h (f_9 20) [.vl k.t])=_
 rw [b_3,zg (wz (t:= .non) (by rw [Z2,v0,bOk,U0 hk])),zD (t:= .str (S k.x))]
 ·rfl
 ·show za 1 _ _ [.vl k.t]=_
  rw [Z2,v0,bOk]; exact vU 3 19 (by decide) (by decide) k hk
theorem U1 {k:Kd} (hk:k.Ok 3):f_c [.str (S k.x)]= .ok k.t:=by
 have e1:Z5 1 (za 2 (f_8 20) (z4 (vE 0) (z4 (cE (.int 3)) ze))) [.vl (.str (S k.x)), .un]= .nx [.vl (.str (S k.x)), .vl k.t]:=by
  refine ZE ?_
  rw [ji]
  exact vX 3 19 (by decide) (by decide) k hk
 show zk (b_c f_2 f_v (f_8 20) [.vl (.str (S k.x)), .un])=_
 unfold b_c
 rw [zg (wz (t:= .non) (by rw [Z2]; rfl)),zg e1,zg (zK (by rw [jQ,jf,Z2,v1,bOk,yp hk,bOk,jx,bOk]; rfl)),zD (t:=k.t) rfl]; rfl
abbrev U2:En->RS:=(zF (Z5 2 (za 3 (f_1 8) (z4 (vE 0) (z4 (zc zl (cE (.int 10)) (zc Zn (cE (.int 1000)) (vE 1))) (z4 (cE (.int 3)) (ze))))))
  (zF (Z5 3 (za 1 (f_7 8) (z4 (vE 2) (ze))))
  (ifS (orT (zY neC (za 1 f_3 (z4 (vE 2) (ze))) (vB 3)) (orT (zY neC (za 1 f_c (z4 (vE 3) (ze))) (vB 2)) (zY neC (za 1 f_j (z4 (za 1 f_c (z4 (vE 3) (ze))) (ze))) (za 1 f_j (z4 (vE 2) (ze)))))) (zO (cE (.bl false))) (nxS))))
theorem Qs (ns:List Int) (j:Nat) (x y:Sl):∃ x' y',U2 [.vl (scr ns), .vl (.int (j:Int)),x,y]= .nx [.vl (scr ns), .vl (.int (j:Int)),x',y']:=by
 obtain ⟨k,ek,hk⟩:=vO ns 3 (by decide) (by decide) (10+1000*(j:Int)) (by omega)
 refine ⟨.vl k.t, .vl (.str (S k.x)), ?_⟩
 have hm:Zn (.int 1000) (.int (j:Int))= .ok (.int (1000*(j:Int))):=UN _ _ (.inl ⟨by decide,by decide⟩)
 have ea:zc zl (cE (.int 10)) (zc Zn (cE (.int 1000)) (vE 1)) [.vl (scr ns), .vl (.int (j:Int)),x,y]= .ok (.int (10+1000*(j:Int))):=by
  show (R.bind (.ok (.int 10)) fun a=>R.bind (Zn (.int 1000) (.int (j:Int))) fun b=>zl a b)=_
  rw [bOk,hm,bOk]; rfl
 have e1:Z5 2 (za 3 (f_1 8) (z4 (vE 0) (z4 (zc zl (cE (.int 10)) (zc Zn (cE (.int 1000)) (vE 1))) (z4 (cE (.int 3)) ze)))) [.vl (scr ns), .vl (.int (j:Int)),x,y]= .nx [.vl (scr ns), .vl (.int (j:Int)), .vl k.t,y]:=
  ZE (by rw [uZ rfl ea rfl]; exact ek)
 have e2:Z5 3 (za 1 (f_7 8) (z4 (vE 2) ze)) [.vl (scr ns), .vl (.int (j:Int)), .vl k.t,y]= .nx [.vl (scr ns), .vl (.int (j:Int)), .vl k.t, .vl (.str (S k.x))]:=
  ZE (by rw [Z2]; exact YC 3 7 (by decide) (by decide) k hk)
 generalize hρ:([.vl (scr ns), .vl (.int (j:Int)), .vl k.t, .vl (.str (S k.x))]:En)=ρ at e2 ⊢
 have g2:vE 2 ρ= .ok k.t:=by rw [← hρ]; rfl
 have g3:vE 3 ρ= .ok (.str (S k.x)):=by rw [← hρ]; rfl
 have b2:vB 2 ρ= .ok k.t:=by rw [← hρ]; rfl
 have b3:vB 3 ρ= .ok (.str (S k.x)):=by rw [← hρ]; rfl
 have r1:za 1 f_3 (z4 (vE 2) ze) ρ= .ok (.str (S k.x)):=by rw [Z2,g2,bOk,YG hk]
 have r2:za 1 f_c (z4 (vE 3) ze) ρ= .ok k.t:=by rw [Z2,g3,bOk,U1 hk]
 have r3:za 1 f_j (z4 (za 1 f_c (z4 (vE 3) ze)) ze) ρ= .ok (.int (k.all.length:Int)):=by rw [Z2,r2,bOk,yq hk]
 have r4:za 1 f_j (z4 (vE 2) ze) ρ= .ok (.int (k.all.length:Int)):=by rw [Z2,g2,bOk,yq hk]
 have c1:zY neC (za 1 f_3 (z4 (vE 2) ze)) (vB 3) ρ= .ok false:=by
  show (R.bind _ fun x=>R.bind _ fun y=>neC x y)=_
  rw [r1,bOk,b3,bOk]; exact wy trivial
 have c2:zY neC (za 1 f_c (z4 (vE 3) ze)) (vB 2) ρ= .ok false:=by
  show (R.bind _ fun x=>R.bind _ fun y=>neC x y)=_
  rw [r2,bOk,b2,bOk]; exact wy ((UR 3 k hk).le (by decide))
 have c3:zY neC (za 1 f_j (z4 (za 1 f_c (z4 (vE 3) ze)) ze)) (za 1 f_j (z4 (vE 2) ze)) ρ= .ok false:=by
  show (R.bind _ fun x=>R.bind _ fun y=>neC x y)=_
  rw [r3,bOk,r4,bOk]; exact wy trivial
 unfold U2
 rw [zg e1,zg e2,zK]
 rw [Wl,c1,bOk,if_neg Bool.false_ne_true,Wl,c2,bOk,if_neg Bool.false_ne_true,c3]
theorem yr (ns:List Int):∀ (js:List Nat) (a x y:Sl),∃ a' x' y',jk (Za 1) U2 (js.map fun (j:Nat)=>T.int (j:Int)) [.vl (scr ns),a,x,y]= .nx [.vl (scr ns),a',x',y']
 | [],a,x,y=>⟨a,x,y,rfl⟩
 | j :: js,a,x,y=>by
  obtain ⟨x1,y1,h1⟩:=Qs ns j x y
  obtain ⟨a2,x2,y2,h2⟩:=yr ns js (.vl (.int (j:Int))) x1 y1
  refine ⟨a2,x2,y2, ?_⟩
  rw [List.map_cons,wZ (ρ1:=[.vl (scr ns), .vl (.int (j:Int)),x,y]) rfl h1,h2]
def k0:Kd:= .many (.many (.whole 0 0) 0 0) 0 0
theorem Qt:k0.Ok 3:=⟨by decide,by decide,by decide,by decide,by decide,by decide,by decide⟩
theorem VL:Txt.slice "[[[0..0]0..0]0..0]0..0" (some 1) (some (-5))=S k0.x:=by
 have e:Txt.slice (S (("[[[0..0]0..0]0..0]0..0":Str)).cps.toList) (some ((1:Nat):Int)) (some (-5))=Txt.slice (S (("[[[0..0]0..0]0..0]0..0":Str)).cps.toList) (some ((1:Nat):Int)) (some (-5+(S (("[[[0..0]0..0]0..0]0..0":Str)).cps.toList).length)):=StrLaws.sliceText_neg_hi _ _ (by decide) (by rw [zP]; decide)
 rw [zP,show (-5+(((("[[[0..0]0..0]0..0]0..0":Str)).cps.toList).length:Nat):Int)=((17:Nat):Int) by decide,YA (by decide) (by decide),Yx] at e
 refine Eq.trans e ?_
 congr 1
theorem Va:∀ ns:List Int,ns.length<=63->f_0 [.fz (ns.map T.int)]= .ok (.bl true):=by
 intro ns _
 obtain ⟨a',x',y',h⟩:=yr ns (List.range 4) .un .un .un
 have e1:U4 (j5 (cE (.int 4))) (Za 1) U2 [.vl (scr ns), .un, .un, .un]= .nx [.vl (scr ns),a',x',y']:=h
 have e2:Uq eqC (za 1 f_c (z4 (Jr (cE (.str "[[[0..0]0..0]0..0]0..0")) (zZ (cE (.int 1))) (zZ (Jq (cE (.int 5))))) ze)) (ZJ (z4 (cE (.str "many")) (z4 (ZJ (z4 (cE (.str "many")) (z4 (ZJ (z4 (cE (.str "whole")) (z4 (cE (.int 0)) (z4 (cE (.int 0)) ze)))) (z4 (cE (.int 0)) (z4 (cE (.int 0)) ze))))) (z4 (cE (.int 0)) (z4 (cE (.int 0)) ze))))) (frz [.vl (scr ns),a',x',y'])= .ok (.bl true):=by
  have s1:Jr (cE (.str "[[[0..0]0..0]0..0]0..0")) (zZ (cE (.int 1))) (zZ (Jq (cE (.int 5)))) (frz [.vl (scr ns),a',x',y'])= .ok (.str (S k0.x)):=by
   show (if (("[[[0..0]0..0]0..0]0..0":Str)).length<=bnd then R.ok (T.str (Txt.slice "[[[0..0]0..0]0..0]0..0" (some 1) (some (-5)))) else .bad)=_
   rw [VL,if_pos (by decide+kernel)]
  rw [uw,Z2,s1,bOk,U1 Qt,bOk]
  have s2:(R.bind (R.ok k0.t) fun y=>(eqC k0.t y).bind fun b=>R.ok (T.bl b))= .ok (.bl true):=by
   rw [bOk,UP ((UR 3 k0 Qt).le (by decide))]; rfl
  refine Eq.trans ?_ s2
  unfold k0
  rw [Kd.t,Kd.t,Kd.t]; rfl
 show zk (b_0 f_j (f_1 8) f_3 f_c (f_7 8) [.vl (scr ns), .un, .un, .un])=_
 unfold b_0
 unfold U2 at e1
 rw [zg e1,zD e2]; rfl
end G
namespace G
open PySem PySem.Spec PyProof.Rows L2 PV
def top (i:Nat):Stmt:=PySem.Challenge.pw_worthkinds_k71_whole_kind_texts.main.body.getD i (.Pass ⟨0,0,0,0⟩)
abbrev s_u:Stmt:=top 36
abbrev N_u:List Str:=["_law_script","_law_k"]
theorem VM:zi N_u ["_law_script","_law_k"] (zb s_u):=by refine ⟨rfl,rfl,rfl, ?_,rfl, ?_, ?_⟩ <;> decide+kernel
abbrev s_5:Stmt:=top 37
abbrev N_5:List Str:=["_law_script","_law_k","_law_many","_law_drawn"]
theorem Vb:zi N_5 ["_law_script","_law_k","_law_many"] (zb s_5):=by refine ⟨rfl,rfl,rfl, ?_,rfl, ?_, ?_⟩ <;> decide+kernel
abbrev s_n:Stmt:=top 38
abbrev N_n:List Str:=["_law_script","_law_at","_law_letters"]
theorem Vc:zi N_n ["_law_script","_law_at"] (zb s_n):=by refine ⟨rfl,rfl,rfl, ?_,rfl, ?_, ?_⟩ <;> decide+kernel
abbrev s_k:Stmt:=top 39
abbrev N_k:List Str:=["_law_script","_law_at","_law_low","_law_words","_law_k","_law_word"]
theorem YK:zi N_k ["_law_script","_law_at"] (zb s_k):=by refine ⟨rfl,rfl,rfl, ?_,rfl, ?_, ?_⟩ <;> decide+kernel
abbrev s_1:Stmt:=top 40
abbrev N_1:List Str:=["_law_script","_law_at","_law_deep","_law_way","_law_some","_law_low"]
theorem QI:zi N_1 ["_law_script","_law_at","_law_deep"] (zb s_1):=by refine ⟨rfl,rfl,rfl, ?_,rfl, ?_, ?_⟩ <;> decide+kernel
abbrev s_7:Stmt:=top 41
abbrev N_7:List Str:=["_law_kind_here","_law_head"]
theorem Vd:zi N_7 ["_law_kind_here"] (zb s_7):=by refine ⟨rfl,rfl,rfl, ?_,rfl, ?_, ?_⟩ <;> decide+kernel
abbrev s_v:Stmt:=top 22
abbrev N_v:List Str:=["thing"]
theorem VN:zi N_v ["thing"] (zb s_v):=by refine ⟨rfl,rfl,rfl, ?_,rfl, ?_, ?_⟩ <;> decide+kernel
abbrev s_f:Stmt:=top 24
abbrev N_f:List Str:=["text","mark","pieces","begin","depth","place","sign"]
theorem yt:zi N_f ["text","mark"] (zb s_f):=by refine ⟨rfl,rfl,rfl, ?_,rfl, ?_, ?_⟩ <;> decide+kernel
abbrev s_b:Stmt:=top 34
abbrev N_b:List Str:=["text","number"]
theorem Ve:zi N_b ["text"] (zb s_b):=by refine ⟨rfl,rfl,rfl, ?_,rfl, ?_, ?_⟩ <;> decide+kernel
abbrev s_i:Stmt:=top 33
abbrev N_i:List Str:=["text","halves"]
theorem Vf:zi N_i ["text"] (zb s_i):=by refine ⟨rfl,rfl,rfl, ?_,rfl, ?_, ?_⟩ <;> decide+kernel
abbrev s_g:Stmt:=top 23
abbrev N_g:List Str:=["text","opening","closing"]
theorem VO:zi N_g ["text","opening","closing"] (zb s_g):=by refine ⟨rfl,rfl,rfl, ?_,rfl, ?_, ?_⟩ <;> decide+kernel
abbrev s_o:Stmt:=top 32
abbrev N_o:List Str:=["text","halves"]
theorem Vg:zi N_o ["text"] (zb s_o):=by refine ⟨rfl,rfl,rfl, ?_,rfl, ?_, ?_⟩ <;> decide+kernel
abbrev s_8:Stmt:=top 31
abbrev N_8:List Str:=["text","levels","pieces","halves"]
theorem vY:zi N_8 ["text","levels"] (zb s_8):=by refine ⟨rfl,rfl,rfl, ?_,rfl, ?_, ?_⟩ <;> decide+kernel
abbrev s_d:Stmt:=top 8
abbrev N_d:List Str:=["thing"]
theorem VP:zi N_d ["thing"] (zb s_d):=by refine ⟨rfl,rfl,rfl, ?_,rfl, ?_, ?_⟩ <;> decide+kernel
abbrev s_s:Stmt:=top 11
abbrev N_s:List Str:=["low","high","least","most"]
theorem VQ:zi N_s ["low","high","least","most"] (zb s_s):=by refine ⟨rfl,rfl,rfl, ?_,rfl, ?_, ?_⟩ <;> decide+kernel
abbrev s_a:Stmt:=top 9
abbrev N_a:List Str:=["thing","least","most"]
theorem VR:zi N_a ["thing","least","most"] (zb s_a):=by refine ⟨rfl,rfl,rfl, ?_,rfl, ?_, ?_⟩ <;> decide+kernel
abbrev s_q:Stmt:=top 10
abbrev N_q:List Str:=["thing"]
theorem VS:zi N_q ["thing"] (zb s_q):=by refine ⟨rfl,rfl,rfl, ?_,rfl, ?_, ?_⟩ <;> decide+kernel
abbrev s_p:Stmt:=top 14
abbrev N_p:List Str:=["thing"]
theorem VT:zi N_p ["thing"] (zb s_p):=by refine ⟨rfl,rfl,rfl, ?_,rfl, ?_, ?_⟩ <;> decide+kernel
abbrev s_m:Stmt:=top 13
abbrev N_m:List Str:=["thing","words"]
theorem Vh:zi N_m ["thing"] (zb s_m):=by refine ⟨rfl,rfl,rfl, ?_,rfl, ?_, ?_⟩ <;> decide+kernel
abbrev s_6:Stmt:=top 12
abbrev N_6:List Str:=["thing","levels"]
theorem VU:zi N_6 ["thing","levels"] (zb s_6):=by refine ⟨rfl,rfl,rfl, ?_,rfl, ?_, ?_⟩ <;> decide+kernel
abbrev s_t:Stmt:=top 15
abbrev N_t:List Str:=["thing","levels"]
theorem VV:zi N_t ["thing","levels"] (zb s_t):=by refine ⟨rfl,rfl,rfl, ?_,rfl, ?_, ?_⟩ <;> decide+kernel
abbrev s_2:Stmt:=top 6
abbrev N_2:List Str:=["thing"]
theorem VW:zi N_2 ["thing"] (zb s_2):=by refine ⟨rfl,rfl,rfl, ?_,rfl, ?_, ?_⟩ <;> decide+kernel
abbrev s_c:Stmt:=top 28
abbrev N_c:List Str:=["text","kind"]
theorem Vi:zi N_c ["text"] (zb s_c):=by refine ⟨rfl,rfl,rfl, ?_,rfl, ?_, ?_⟩ <;> decide+kernel
abbrev s_h:Stmt:=top 7
abbrev N_h:List Str:=["kind"]
theorem VX:zi N_h ["kind"] (zb s_h):=by refine ⟨rfl,rfl,rfl, ?_,rfl, ?_, ?_⟩ <;> decide+kernel
abbrev s_l:Stmt:=top 30
abbrev N_l:List Str:=["low","high"]
theorem VY:zi N_l ["low","high"] (zb s_l):=by refine ⟨rfl,rfl,rfl, ?_,rfl, ?_, ?_⟩ <;> decide+kernel
abbrev s_9:Stmt:=top 29
abbrev N_9:List Str:=["kind"]
theorem VZ:zi N_9 ["kind"] (zb s_9):=by refine ⟨rfl,rfl,rfl, ?_,rfl, ?_, ?_⟩ <;> decide+kernel
abbrev s_3:Stmt:=top 27
abbrev N_3:List Str:=["kind"]
theorem x6:zi N_3 ["kind"] (zb s_3):=by refine ⟨rfl,rfl,rfl, ?_,rfl, ?_, ?_⟩ <;> decide+kernel
abbrev s_4:Stmt:=top 18
abbrev N_4:List Str:=["kind"]
theorem x8:zi N_4 ["kind"] (zb s_4):=by refine ⟨rfl,rfl,rfl, ?_,rfl, ?_, ?_⟩ <;> decide+kernel
abbrev s_e:Stmt:=top 19
abbrev N_e:List Str:=["kinds","count","kind"]
theorem QJ:zi N_e ["kinds"] (zb s_e):=by refine ⟨rfl,rfl,rfl, ?_,rfl, ?_, ?_⟩ <;> decide+kernel
abbrev s_r:Stmt:=top 20
abbrev N_r:List Str:=["kind","length"]
theorem x9:zi N_r ["kind","length"] (zb s_r):=by refine ⟨rfl,rfl,rfl, ?_,rfl, ?_, ?_⟩ <;> decide+kernel
abbrev s_j:Stmt:=top 17
abbrev N_j:List Str:=["kind"]
theorem xa:zi N_j ["kind"] (zb s_j):=by refine ⟨rfl,rfl,rfl, ?_,rfl, ?_, ?_⟩ <;> decide+kernel
abbrev s_0:Stmt:=top 43
abbrev N_0:List Str:=["_law_script","_law_k","_law_kind_here","_law_text"]
theorem QK:zi N_0 ["_law_script"] (zb s_0):=by refine ⟨rfl,rfl,rfl, ?_,rfl, ?_, ?_⟩ <;> decide+kernel
structure Fn (K:PySem.W.Frag) (mg:Str->Option Value) (x:Str) (st:Stmt) (ps:List Str) (f:Addr) (fd:FuncData):Prop where
 F:Fun K x x st f fd
 b:L2.Binds K fd ps []
 m:mg x=some (.ref f)
set_option genInjectivity false in
set_option genSizeOf false in
structure Tx (K:PySem.W.Frag) (mg:Str->Option Value) where
 a_u:Addr
 d_u:FuncData
 C_u:Fn K mg "_law_cell" s_u ["_law_script","_law_k"] a_u d_u
 a_5:Addr
 d_5:FuncData
 C_5:Fn K mg "_law_pick" s_5 ["_law_script","_law_k","_law_many"] a_5 d_5
 a_n:Addr
 d_n:FuncData
 C_n:Fn K mg "_law_word_of" s_n ["_law_script","_law_at"] a_n d_n
 a_k:Addr
 d_k:FuncData
 C_k:Fn K mg "_law_leaf_kind" s_k ["_law_script","_law_at"] a_k d_k
 a_1:Addr
 d_1:FuncData
 C_1:Fn K mg "_law_kind" s_1 ["_law_script","_law_at","_law_deep"] a_1 d_1
 a_7:Addr
 d_7:FuncData
 C_7:Fn K mg "_law_kind_text" s_7 ["_law_kind_here"] a_7 d_7
 a_v:Addr
 d_v:FuncData
 C_v:Fn K mg "need_text" s_v ["thing"] a_v d_v
 a_f:Addr
 d_f:FuncData
 C_f:Fn K mg "pieces_between" s_f ["text","mark"] a_f d_f
 a_b:Addr
 d_b:FuncData
 C_b:Fn K mg "number_in" s_b ["text"] a_b d_b
 a_i:Addr
 d_i:FuncData
 C_i:Fn K mg "span_in" s_i ["text"] a_i d_i
 a_g:Addr
 d_g:FuncData
 C_g:Fn K mg "text_inside" s_g ["text","opening","closing"] a_g d_g
 a_o:Addr
 d_o:FuncData
 C_o:Fn K mg "choice_in" s_o ["text"] a_o d_o
 a_8:Addr
 d_8:FuncData
 C_8:Fn K mg "kind_in" s_8 ["text","levels"] a_8 d_8
 a_d:Addr
 d_d:FuncData
 C_d:Fn K mg "is_whole" s_d ["thing"] a_d d_d
 a_s:Addr
 d_s:FuncData
 C_s:Fn K mg "is_span" s_s ["low","high","least","most"] a_s d_s
 a_a:Addr
 d_a:FuncData
 C_a:Fn K mg "is_tuple_of" s_a ["thing","least","most"] a_a d_a
 a_q:Addr
 d_q:FuncData
 C_q:Fn K mg "is_word" s_q ["thing"] a_q d_q
 a_p:Addr
 d_p:FuncData
 C_p:Fn K mg "is_choice" s_p ["thing"] a_p d_p
 a_m:Addr
 d_m:FuncData
 C_m:Fn K mg "are_choices" s_m ["thing"] a_m d_m
 a_6:Addr
 d_6:FuncData
 C_6:Fn K mg "is_kind_within" s_6 ["thing","levels"] a_6 d_6
 a_t:Addr
 d_t:FuncData
 C_t:Fn K mg "are_kinds_within" s_t ["thing","levels"] a_t d_t
 a_2:Addr
 d_2:FuncData
 C_2:Fn K mg "is_kind" s_2 ["thing"] a_2 d_2
 a_c:Addr
 d_c:FuncData
 C_c:Fn K mg "read_kind" s_c ["text"] a_c d_c
 a_h:Addr
 d_h:FuncData
 C_h:Fn K mg "need_kind" s_h ["kind"] a_h d_h
 a_l:Addr
 d_l:FuncData
 C_l:Fn K mg "span_written" s_l ["low","high"] a_l d_l
 a_9:Addr
 d_9:FuncData
 C_9:Fn K mg "kind_written" s_9 ["kind"] a_9 d_9
 a_3:Addr
 d_3:FuncData
 C_3:Fn K mg "kind_text" s_3 ["kind"] a_3 d_3
 a_4:Addr
 d_4:FuncData
 C_4:Fn K mg "count_of" s_4 ["kind"] a_4 d_4
 a_e:Addr
 d_e:FuncData
 C_e:Fn K mg "count_of_parts" s_e ["kinds"] a_e d_e
 a_r:Addr
 d_r:FuncData
 C_r:Fn K mg "count_shorter" s_r ["kind","length"] a_r d_r
 a_j:Addr
 d_j:FuncData
 C_j:Fn K mg "how_many" s_j ["kind"] a_j d_j
 a_0:Addr
 d_0:FuncData
 C_0:Fn K mg "law" s_0 ["_law_script"] a_0 d_0
 z_all:mg "all"=none
 z_bool:mg "bool"=none
 z_enumerate:mg "enumerate"=none
 z_int:mg "int"=none
 z_isinstance:mg "isinstance"=none
 z_len:mg "len"=none
 z_min:mg "min"=none
 z_range:mg "range"=none
 z_set:mg "set"=none
 z_str:mg "str"=none
 z_sum:mg "sum"=none
 z_tuple:mg "tuple"=none
 c_DEEPEST:∃ u,mg "DEEPEST"=some u/\∃ t,u=Value.int 3 t
 c_LONGEST_NUMBER:∃ u,mg "LONGEST_NUMBER"=some u/\∃ t,u=Value.int 3 t
section
variable (P:Program) (w:World) {K:PySem.W.Frag} {mg:Str->Option Value} (base:Heap) (cl:Nat->Value) (tx:Tx K mg) (k:Nat) (c:List T->R T)
abbrev Q_u:Prop:=Zl P w K mg base CX0 k tx.a_u tx.d_u ["_law_script","_law_k"] (spP cl 2 c)
abbrev Q_5:Prop:=Zl P w K mg base CX0 k tx.a_5 tx.d_5 ["_law_script","_law_k","_law_many"] (spP cl 3 c)
abbrev Q_n:Prop:=Zl P w K mg base CX0 k tx.a_n tx.d_n ["_law_script","_law_at"] (spP cl 2 c)
abbrev Q_k:Prop:=Zl P w K mg base CX0 k tx.a_k tx.d_k ["_law_script","_law_at"] (spP cl 2 c)
abbrev Q_1:Prop:=Zl P w K mg base CX0 k tx.a_1 tx.d_1 ["_law_script","_law_at","_law_deep"] (spP cl 3 c)
abbrev Q_7:Prop:=Zl P w K mg base CX0 k tx.a_7 tx.d_7 ["_law_kind_here"] (spP cl 1 c)
abbrev Q_v:Prop:=Zl P w K mg base CX0 k tx.a_v tx.d_v ["thing"] (spP cl 1 c)
abbrev Q_f:Prop:=Zl P w K mg base CX0 k tx.a_f tx.d_f ["text","mark"] (spP cl 2 c)
abbrev Q_b:Prop:=Zl P w K mg base CX0 k tx.a_b tx.d_b ["text"] (spP cl 1 c)
abbrev Q_i:Prop:=Zl P w K mg base CX0 k tx.a_i tx.d_i ["text"] (spP cl 1 c)
abbrev Q_g:Prop:=Zl P w K mg base CX0 k tx.a_g tx.d_g ["text","opening","closing"] (spP cl 3 c)
abbrev Q_o:Prop:=Zl P w K mg base CX0 k tx.a_o tx.d_o ["text"] (spP cl 1 c)
abbrev Q_8:Prop:=Zl P w K mg base CX0 k tx.a_8 tx.d_8 ["text","levels"] (spP cl 2 c)
abbrev Q_d:Prop:=Zl P w K mg base CX0 k tx.a_d tx.d_d ["thing"] (spP cl 1 c)
abbrev Q_s:Prop:=Zl P w K mg base CX0 k tx.a_s tx.d_s ["low","high","least","most"] (spP cl 4 c)
abbrev Q_a:Prop:=Zl P w K mg base CX0 k tx.a_a tx.d_a ["thing","least","most"] (spP cl 3 c)
abbrev Q_q:Prop:=Zl P w K mg base CX0 k tx.a_q tx.d_q ["thing"] (spP cl 1 c)
abbrev Q_p:Prop:=Zl P w K mg base CX0 k tx.a_p tx.d_p ["thing"] (spP cl 1 c)
abbrev Q_m:Prop:=Zl P w K mg base CX0 k tx.a_m tx.d_m ["thing"] (spP cl 1 c)
abbrev Q_6:Prop:=Zl P w K mg base CX0 k tx.a_6 tx.d_6 ["thing","levels"] (spP cl 2 c)
abbrev Q_t:Prop:=Zl P w K mg base CX0 k tx.a_t tx.d_t ["thing","levels"] (spP cl 2 c)
abbrev Q_2:Prop:=Zl P w K mg base CX0 k tx.a_2 tx.d_2 ["thing"] (spP cl 1 c)
abbrev Q_c:Prop:=Zl P w K mg base CX0 k tx.a_c tx.d_c ["text"] (spP cl 1 c)
abbrev Q_h:Prop:=Zl P w K mg base CX0 k tx.a_h tx.d_h ["kind"] (spP cl 1 c)
abbrev Q_l:Prop:=Zl P w K mg base CX0 k tx.a_l tx.d_l ["low","high"] (spP cl 2 c)
abbrev Q_9:Prop:=Zl P w K mg base CX0 k tx.a_9 tx.d_9 ["kind"] (spP cl 1 c)
abbrev Q_3:Prop:=Zl P w K mg base CX0 k tx.a_3 tx.d_3 ["kind"] (spP cl 1 c)
abbrev Q_4:Prop:=Zl P w K mg base CX0 k tx.a_4 tx.d_4 ["kind"] (spP cl 1 c)
abbrev Q_e:Prop:=Zl P w K mg base CX0 k tx.a_e tx.d_e ["kinds"] (spP cl 1 c)
abbrev Q_r:Prop:=Zl P w K mg base CX0 k tx.a_r tx.d_r ["kind","length"] (spP cl 2 c)
abbrev Q_j:Prop:=Zl P w K mg base CX0 k tx.a_j tx.d_j ["kind"] (spP cl 1 c)
abbrev Q_0:Prop:=Zl P w K mg base CX0 k tx.a_0 tx.d_0 ["_law_script"] (spP cl 1 c)
end
theorem cZ {X:Cx} {Y:Fx} {cl:Nat->Value} {k j n:Nat} {f:Addr} {fd:FuncData} {ps:List Str} {g:List T->R T} {x:Str} {st:Stmt} {a:Expr} {es:List Expr} {ga:En->R (List T)} {p pos:Pos} (hy:Y.cl=cl) (F:Zl X.prog X.w X.K X.mg X.base CX0 j f fd ps (spP cl n g)) (hr:jI k X.A) (C:Fn X.K X.mg x st ps f fd) (ha:WN X Y (a :: es) ga) (hj:j<=k:=by omega) (gl:Gl X x:=by rfl) (hd:(x == ("__debug__":Str))=false:=by decide)
  (hs:starEach (a :: es) X.env=(false,eval a X.env) :: starEach es X.env:=by exact Z6 rfl) (hz:((backTo pos (starEach es X.env)).any fun x=>x.fst)=false:=by exact ZS rfl):Snd X Y (.Call (.Name x p) (a :: es) [] pos) (za n g ga):=Yi hy F hr hj gl C.m C.F.kp C.b ha hd hs hz
section
variable {P:Program} {w:World} {K:PySem.W.Frag} {mg:Str->Option Value} {base:Heap} {cl:Nat->Value} {tx:Tx K mg}
theorem xb:Q_u P w base cl tx 1 (fun ts=>zk (b_u  (en0 2 ts))):=by
 refine zQ tx.C_u.F VM rfl (fun cdv A outer s H E Y hy hr=> ?_) (fun ts h=>rfl)
 refine zd ?_ ?_
 refine zH ?_ ?_ ?_
 exact zN yY WS (zj 1 (pv 1)) (Snd.b (ZL (by rfl) tx.z_len (zj 0 (pv 0)))) (zp _)
 exact zh (zo (Z4 (z8 0 (pv 0)) (z8 1 (pv 1))))
 exact zG
 refine zd ?_ ?_
 refine zH ?_ ?_ ?_
 exact zN Z9 (zz hr.units) (zj 0 (pv 0)) (Snd.b (Ul zf)) (zp _)
 exact zh (zo z9)
 exact zG
 refine zh ?_
 refine zo ?_
 refine zn ?_ ?_
 refine jt ?_ ?_
 exact Z4 (z8 0 (pv 0)) (Up (z8 1 (pv 1)) (ZL (by rfl) tx.z_len (zj 0 (pv 0))))
 exact z9
 exact z8 1 (pv 1)
theorem xf {c_u:List T->R T} (O_u:Q_u P w base cl tx 1 c_u):Q_5 P w base cl tx 2 (fun ts=>zk (b_5 c_u (en0 4 ts))):=by
 refine zQ tx.C_5.F Vb rfl (fun cdv A outer s H E Y hy hr=> ?_) (fun ts h=>rfl)
 refine zd ?_ ?_
 refine Zg (i:=3) Vb.nd (by rfl) (.inl (by rfl)) ?_
 refine Up ?_ ?_
 refine jt ?_ ?_
 refine zn ?_ ?_
 exact cZ hy O_u hr tx.C_u (z7 (z8 0 (pv 0)) (z7 (z8 1 (pv 1)) zf))
 exact jt z9 (zn (z8 1 (pv 1)) z9)
 exact z9
 exact z9
 refine zh ?_
 refine zo ?_
 refine Up ?_ ?_
 refine Up ?_ ?_
 exact zn (jt (z8 3 (pv 3)) (z8 3 (pv 3))) (qw (z8 3 (pv 3)) z9)
 exact z9
 exact z8 2 (pv 2)
theorem xg {c_5:List T->R T} (O_5:Q_5 P w base cl tx 2 c_5):Q_n P w base cl tx 3 (fun ts=>zk (b_n c_5 (en0 3 ts))):=by
 refine zQ tx.C_n.F Vc rfl (fun cdv A outer s H E Y hy hr=> ?_) (fun ts h=>rfl)
 refine zd ?_ ?_
 exact Zg (i:=2) Vc.nd (by rfl) (.inr (by rfl)) zm
 refine zd ?_ ?_
 refine zH ?_ ?_ ?_
 refine zN yZ WT ?_ ?_ (zp _)
 refine Snd.b ?_
 refine cZ hy O_5 hr tx.C_5 ?_
 exact z7 (z8 0 (pv 0)) (z7 (z8 1 (pv 1)) (z7 z9 zf))
 exact Snd.b z9
 refine zh ?_
 refine zo ?_
 refine Z4 ?_ ?_
 refine Ul ?_
 refine z7 ?_ ?_
 exact zm
 exact z7 zm (z7 zm (z7 zm zf))
 refine cZ hy O_5 hr tx.C_5 ?_
 refine z7 ?_ ?_
 exact z8 0 (pv 0)
 exact z7 (zn (z8 1 (pv 1)) z9) (z7 z9 zf)
 exact zG
 refine zh ?_
 refine zo ?_
 refine JQ ?_
 refine Snd.b ?_
 refine Zw (Zp ["_law_k","_law_script","_law_at","_law_letters"] N_n (zb s_n) (by rfl) (by rfl) (by decide+kernel) (by rfl) ?_ (fun _ _ _ _ _ _=>zw (show List.Nodup (["_law_k","_law_script","_law_at","_law_letters"]:List Str) by decide+kernel) (by rfl) (.inl (by rfl)) (.inr (by rfl))) (zW 0) (zX 0) (fun Y' hy' _ _ _ _ _ _=> ?_) (fun Y' hy' _ _ _ _ _ _=> ?_))
 refine wM (by rfl) tx.z_range ?_
 refine zn ?_ ?_
 exact z9
 refine cZ hy O_5 hr tx.C_5 ?_
 refine z7 ?_ ?_
 exact z8 0 (pv 0)
 exact z7 (zn (z8 1 (pv 1)) z9) (z7 z9 zf)
 exact Zo
 refine Z4 ?_ ?_
 exact z8 3 (pv 3)
 refine cZ (hy'.trans hy) O_5 hr tx.C_5 ?_
 refine z7 ?_ ?_
 exact z8 1 (pv 1)
 refine z7 ?_ ?_
 exact zn (zn (z8 2 (pv 2)) z9) (z8 0 (pv 0))
 exact z7 z9 zf
theorem xh {c_5 c_n:List T->R T} (O_5:Q_5 P w base cl tx 2 c_5) (O_n:Q_n P w base cl tx 3 c_n):Q_k P w base cl tx 4 (fun ts=>zk (b_k c_5 c_n (en0 6 ts))):=by
 refine zQ tx.C_k.F YK rfl (fun cdv A outer s H E Y hy hr=> ?_) (fun ts h=>rfl)
 refine zd ?_ ?_
 refine zH ?_ ?_ ?_
 refine zN yZ WT ?_ ?_ (zp _)
 refine Snd.b ?_
 refine cZ hy O_5 hr tx.C_5 ?_
 exact z7 (z8 0 (pv 0)) (z7 (z8 1 (pv 1)) (z7 z9 zf))
 exact Snd.b z9
 refine zd ?_ ?_
 refine Zg (i:=2) YK.nd (by rfl) (.inl (by rfl)) ?_
 refine jZ ?_ ?_
 refine cZ hy O_5 hr tx.C_5 ?_
 refine z7 ?_ ?_
 exact z8 0 (pv 0)
 exact z7 (zn (z8 1 (pv 1)) z9) (z7 z9 zf)
 exact z9
 refine zd ?_ ?_
 refine zH ?_ ?_ ?_
 refine zN Z9 (zz hr.units) ?_ ?_ (zp _)
 refine Snd.b ?_
 refine cZ hy O_5 hr tx.C_5 ?_
 refine z7 ?_ ?_
 exact z8 0 (pv 0)
 exact z7 (zn (z8 1 (pv 1)) z9) (z7 z9 zf)
 exact Snd.b z9
 refine zh ?_
 refine Zg (i:=2) YK.nd (by rfl) (.inl (by rfl)) ?_
 refine Z4 ?_ ?_
 refine Ul ?_
 refine z7 ?_ ?_
 exact We z9
 exact z7 z9 (z7 z9 zf)
 refine cZ hy O_5 hr tx.C_5 ?_
 refine z7 ?_ ?_
 exact z8 0 (pv 0)
 exact z7 (zn (z8 1 (pv 1)) z9) (z7 z9 zf)
 exact zG
 refine zh ?_
 refine zo ?_
 refine ZT ?_
 refine z7 ?_ ?_
 exact zm
 refine z7 ?_ ?_
 exact z8 2 (pv 2)
 refine z7 ?_ ?_
 refine UY (by rfl) (by rfl) tx.z_min ?_ ?_
 exact z9
 refine zn ?_ ?_
 exact z8 2 (pv 2)
 refine cZ hy O_5 hr tx.C_5 ?_
 refine z7 ?_ ?_
 exact z8 0 (pv 0)
 exact z7 (zn (z8 1 (pv 1)) z9) (z7 z9 zf)
 exact zf
 exact zG
 refine zd ?_ ?_
 exact UZ (i:=3) YK.nd (by rfl) (.inl (by rfl)) zf
 refine zd ?_ ?_
 refine Uy PassesOwn.never (by rfl) ?_ ?_ ?_
 refine wM (by rfl) tx.z_range ?_
 refine zn ?_ ?_
 exact z9
 refine cZ hy O_5 hr tx.C_5 ?_
 refine z7 ?_ ?_
 exact z8 0 (pv 0)
 exact z7 (zn (z8 1 (pv 1)) z9) (z7 z9 zf)
 exact u9 (i:=4) YK.nd (by rfl) (.inl (by rfl))
 refine zd ?_ ?_
 refine Zg (i:=5) YK.nd (by rfl) (.inl (by rfl)) ?_
 refine cZ hy O_n hr tx.C_n ?_
 refine z7 ?_ ?_
 exact z8 0 (pv 0)
 refine z7 ?_ ?_
 exact zn (zn (z8 1 (pv 1)) z9) (jt z9 (z8 4 (pv 4)))
 exact zf
 refine zh ?_
 refine zH ?_ ?_ ?_
 exact zN qy (Y2 hr.units) (zj 5 (pv 5)) (zj 3 (pv 3)) (by rfl)
 exact zh (Y9 (i:=3) (pv 3) (z8 5 (pv 5)))
 exact zG
 refine zh ?_
 refine zo ?_
 refine ZT ?_
 refine z7 ?_ ?_
 exact zm
 refine z7 ?_ ?_
 refine J4 (by rfl) tx.z_tuple ?_
 refine Zw (Zp ["_law_k","_law_word","_law_script","_law_at"] N_k (zb s_k) (by rfl) (by rfl) (by decide+kernel) (by rfl) ?_ (fun _ _ _ _ _ _=>wE (by rfl) (Zm (zw (show List.Nodup (["_law_k","_law_word","_law_script","_law_at"]:List Str) by decide+kernel) (by rfl) (.inl (by rfl)) (.inr (by rfl))) (Zm (zw (show List.Nodup (["_law_k","_law_word","_law_script","_law_at"]:List Str) by decide+kernel) (by rfl) (.inl (by rfl)) (.inr (by rfl))) jV))) (J7 _ 0 1) (J9 0 1) (fun Y' hy' _ _ _ _ _ _=> ?_) (fun Y' hy' _ _ _ _ _ _=> ?_))
 exact qK (by rfl) tx.z_enumerate (z8 3 (pv 3))
 exact Zo
 refine ZT ?_
 refine z7 ?_ ?_
 exact z8 1 (pv 1)
 refine z7 ?_ ?_
 refine zn ?_ ?_
 exact z9
 refine cZ (hy'.trans hy) O_5 hr tx.C_5 ?_
 refine z7 ?_ ?_
 exact z8 2 (pv 2)
 refine z7 ?_ ?_
 exact zn (zn (z8 3 (pv 3)) z9) (z8 0 (pv 0))
 exact z7 z9 zf
 exact zf
 exact zf
theorem xi {j:Nat} (hj:4<=j) {c_5 c_k c_1:List T->R T} (O_5:Q_5 P w base cl tx 2 c_5) (O_k:Q_k P w base cl tx 4 c_k) (O_1:Q_1 P w base cl tx j c_1):Q_1 P w base cl tx (j+1) (fun ts=>zk (b_1 c_5 c_k c_1 (en0 6 ts))):=by
 refine zQ tx.C_1.F QI rfl (fun cdv A outer s H E Y hy hr=> ?_) (fun ts h=>rfl)
 refine zd ?_ ?_
 refine Zg (i:=3) QI.nd (by rfl) (.inl (by rfl)) ?_
 refine cZ hy O_5 hr tx.C_5 ?_
 exact z7 (z8 0 (pv 0)) (z7 (z8 1 (pv 1)) (z7 z9 zf))
 refine zd ?_ ?_
 refine zH ?_ ?_ ?_
 refine JM.t ?_
 refine UV ?_ ?_
 exact zN Z9 (zz hr.units) (zj 2 (pv 2)) (Snd.b z9) (zp _)
 exact Wg (zN yY WS (zj 3 (pv 3)) (Snd.b z9) (zp _))
 refine zh ?_
 refine zo ?_
 refine cZ hy O_k hr tx.C_k ?_
 exact z7 (z8 0 (pv 0)) (z7 (zn (z8 1 (pv 1)) z9) zf)
 exact zG
 refine zd ?_ ?_
 refine zH ?_ ?_ ?_
 exact zN yY WS (zj 3 (pv 3)) (Snd.b z9) (zp _)
 refine zd ?_ ?_
 refine y9 (i:=4) (Zp ["_law_k","_law_script","_law_at","_law_deep"] N_1 (zb s_1) (by rfl) (by rfl) (by decide+kernel) (by rfl) ?_ (fun _ _ _ _ _ _=>zw (show List.Nodup (["_law_k","_law_script","_law_at","_law_deep"]:List Str) by decide+kernel) (by rfl) (.inl (by rfl)) (.inr (by rfl))) (zW 0) (zX 0) (fun Y' hy' _ _ _ _ _ _=> ?_) (fun Y' hy' _ _ _ _ _ _=> ?_)) QI.nd (by rfl) (.inl (by rfl)) (by rfl)
 refine wM (by rfl) tx.z_range ?_
 refine zn ?_ ?_
 exact z9
 refine cZ hy O_5 hr tx.C_5 ?_
 refine z7 ?_ ?_
 exact z8 0 (pv 0)
 exact z7 (zn (z8 1 (pv 1)) z9) (z7 z9 zf)
 exact Zo
 refine cZ (hy'.trans hy) O_1 hr tx.C_1 ?_
 refine z7 ?_ ?_
 exact z8 1 (pv 1)
 refine z7 ?_ ?_
 refine zn ?_ ?_
 exact zn (jt z9 (z8 2 (pv 2))) z9
 exact jt z9 (z8 0 (pv 0))
 exact z7 (jZ (z8 3 (pv 3)) z9) zf
 refine zh ?_
 refine zo ?_
 exact ZT (z7 zm (z7 (J4 (by rfl) tx.z_tuple (z8 4 (pv 4))) zf))
 exact zG
 refine zd ?_ ?_
 refine Zg (i:=5) QI.nd (by rfl) (.inl (by rfl)) ?_
 refine cZ hy O_5 hr tx.C_5 ?_
 refine z7 ?_ ?_
 exact z8 0 (pv 0)
 exact z7 (zn (z8 1 (pv 1)) z9) (z7 z9 zf)
 refine zh ?_
 refine zo ?_
 refine ZT ?_
 refine z7 ?_ ?_
 exact zm
 refine z7 ?_ ?_
 refine cZ hy O_1 hr tx.C_1 ?_
 refine z7 ?_ ?_
 exact z8 0 (pv 0)
 refine z7 ?_ ?_
 exact zn (jt z9 (z8 1 (pv 1))) z9
 exact z7 (jZ (z8 2 (pv 2)) z9) zf
 refine z7 ?_ ?_
 exact z8 5 (pv 5)
 refine z7 ?_ ?_
 refine UY (by rfl) (by rfl) tx.z_min ?_ ?_
 exact z9
 refine zn ?_ ?_
 exact z8 5 (pv 5)
 refine cZ hy O_5 hr tx.C_5 ?_
 refine z7 ?_ ?_
 exact z8 0 (pv 0)
 exact z7 (zn (z8 1 (pv 1)) z9) (z7 z9 zf)
 exact zf
theorem xj {j:Nat} (hj:0<=j) {c_7:List T->R T} (O_7:Q_7 P w base cl tx j c_7):Q_7 P w base cl tx (j+1) (fun ts=>zk (b_7 c_7 (en0 2 ts))):=by
 refine zQ tx.C_7.F Vd rfl (fun cdv A outer s H E Y hy hr=> ?_) (fun ts h=>rfl)
 refine zd ?_ ?_
 refine zH ?_ ?_ ?_
 exact zN Z9 (zz hr.units) (Snd.b (Z4 (z8 0 (pv 0)) z9)) (Snd.b zm) (zp _)
 refine zh ?_
 refine zo ?_
 refine zn ?_ ?_
 refine zn ?_ ?_
 exact zm
 refine JQ ?_
 refine Snd.b ?_
 refine Zw (Zp ["_law_word","_law_heavy"] N_7 (zb s_7) (by rfl) (by rfl) (by decide+kernel) (by rfl) ?_ (fun _ _ _ _ _ _=>wE (by rfl) (Zm (zw (show List.Nodup (["_law_word","_law_heavy"]:List Str) by decide+kernel) (by rfl) (.inl (by rfl)) (.inr (by rfl))) (Zm (zw (show List.Nodup (["_law_word","_law_heavy"]:List Str) by decide+kernel) (by rfl) (.inl (by rfl)) (.inr (by rfl))) jV))) (J7 _ 0 1) (J9 0 1) (fun Y' hy' _ _ _ _ _ _=> ?_) (fun Y' hy' _ _ _ _ _ _=> ?_))
 exact jw (Z4 (z8 0 (pv 0)) z9)
 exact Zo
 exact zn (zn (z8 0 (pv 0)) zm) (wQ (by rfl) tx.z_str (z8 1 (pv 1)))
 exact zm
 exact zG
 refine zd ?_ ?_
 refine zH ?_ ?_ ?_
 exact zN Z9 (zz hr.units) (Snd.b (Z4 (z8 0 (pv 0)) z9)) (Snd.b zm) (zp _)
 refine zh ?_
 refine zo ?_
 refine zn ?_ ?_
 refine zn ?_ ?_
 exact zm
 refine JQ ?_
 refine Snd.b ?_
 refine Zw (Zp ["_law_one"] N_7 (zb s_7) (by rfl) (by rfl) (by decide+kernel) (by rfl) ?_ (fun _ _ _ _ _ _=>zw (show List.Nodup (["_law_one"]:List Str) by decide+kernel) (by rfl) (.inl (by rfl)) (.inr (by rfl))) (zW 0) (zX 0) (fun Y' hy' _ _ _ _ _ _=> ?_) (fun Y' hy' _ _ _ _ _ _=> ?_))
 exact jw (Z4 (z8 0 (pv 0)) z9)
 exact Zo
 exact cZ (hy'.trans hy) O_7 hr tx.C_7 (z7 (z8 0 (pv 0)) zf)
 exact zm
 exact zG
 refine zd ?_ ?_
 refine Zg (i:=1) Vd.nd (by rfl) (.inl (by rfl)) ?_
 refine VC ?_ ?_ ?_
 exact zN Z9 (zz hr.units) (Snd.b (Z4 (z8 0 (pv 0)) z9)) (Snd.b zm) (zp _)
 refine zn ?_ ?_
 refine zn ?_ ?_
 exact zm
 exact cZ hy O_7 hr tx.C_7 (z7 (Z4 (z8 0 (pv 0)) z9) zf)
 exact zm
 exact zm
 refine zh ?_
 refine zo ?_
 refine zn ?_ ?_
 refine zn ?_ ?_
 exact zn (z8 1 (pv 1)) (wQ (by rfl) tx.z_str (Z4 (z8 0 (pv 0)) (We z9)))
 exact zm
 exact wQ (by rfl) tx.z_str (Z4 (z8 0 (pv 0)) (We z9))
theorem xk:Q_v P w base cl tx 1 (fun ts=>zk (b_v  (en0 1 ts))):=by
 refine zQ tx.C_v.F VN rfl (fun cdv A outer s H E Y hy hr=> ?_) (fun ts h=>rfl)
 refine zh ?_
 refine zH ?_ ?_ ?_
 exact jK (j4 (Snd.b (Wh (n:="str") (WY _) (by rfl) tx.z_isinstance (by rfl) tx.z_str PyProof.Rows.Boot.«str» (zj 0 (pv 0)))))
 exact zh wp
 exact zG
theorem xl:Q_f P w base cl tx 1 (fun ts=>zk (b_f  (en0 7 ts))):=by
 refine zQ tx.C_f.F yt rfl (fun cdv A outer s H E Y hy hr=> ?_) (fun ts h=>rfl)
 refine zd ?_ ?_
 exact UZ (i:=2) yt.nd (by rfl) (.inl (by rfl)) zf
 refine zd ?_ ?_
 exact Zg (i:=3) yt.nd (by rfl) (.inl (by rfl)) z9
 refine zd ?_ ?_
 exact Zg (i:=4) yt.nd (by rfl) (.inl (by rfl)) z9
 refine zd ?_ ?_
 refine Uy PassesOwn.never (by rfl) ?_ ?_ ?_
 exact Yl (by rfl) tx.z_enumerate (z8 0 (pv 0))
 exact qI (i:=5) (j:=6) (by rfl) yt.nd (by rfl) (by rfl) (.inl (by rfl)) (.inl (by rfl))
 refine zd ?_ ?_
 refine zH ?_ ?_ ?_
 exact zN ya uk (zj 6 (pv 6)) (Snd.b zm) (by rfl)
 exact zh (Zg (i:=4) yt.nd (by rfl) (.inl (by rfl)) (zn (z8 4 (pv 4)) z9))
 exact zG
 refine zd ?_ ?_
 refine zH ?_ ?_ ?_
 exact zN ya uk (zj 6 (pv 6)) (Snd.b zm) (by rfl)
 exact zh (Zg (i:=4) yt.nd (by rfl) (.inl (by rfl)) (jZ (z8 4 (pv 4)) z9))
 exact zG
 refine zh ?_
 refine zH ?_ ?_ ?_
 refine JM.t ?_
 refine vk ?_ ?_
 exact zN Z9 (zz hr.units) (zj 4 (pv 4)) (Snd.b z9) (zp _)
 exact qA (j4 (Snd.b (qS (z8 0 (pv 0)) (z8 1 (pv 1)) (z8 5 (pv 5)))))
 refine zd ?_ ?_
 exact Y9 (i:=2) (pv 2) (um (z8 0 (pv 0)) (j9 (z8 3 (pv 3))) (j9 (z8 5 (pv 5))))
 exact zh (Zg (i:=3) yt.nd (by rfl) (.inl (by rfl)) (zn (z8 5 (pv 5)) (ZL (by rfl) tx.z_len (zj 1 (pv 1)))))
 exact zG
 refine zd ?_ ?_
 exact Y9 (i:=2) (pv 2) (um (z8 0 (pv 0)) (j9 (z8 3 (pv 3))) UX)
 exact zh (zo (z8 2 (pv 2)))
theorem xm:Q_b P w base cl tx 1 (fun ts=>zk (b_b  (en0 2 ts))):=by
 obtain ⟨u_LONGEST_NUMBER,c_LONGEST_NUMBER⟩:=tx.c_LONGEST_NUMBER
 refine zQ tx.C_b.F Ve rfl (fun cdv A outer s H E Y hy hr=> ?_) (fun ts h=>rfl)
 refine zd ?_ ?_
 refine zH ?_ ?_ ?_
 exact zN yZ WT (Snd.b (ZL (by rfl) tx.z_len (zj 0 (pv 0)))) (Snd.b (wo (by rfl) c_LONGEST_NUMBER.1 c_LONGEST_NUMBER.2)) (zp _)
 exact zh wp
 exact zG
 refine zd ?_ ?_
 refine Q0 (fun pn xe=> ?_)
 exact zh (Zg (i:=1) Ve.nd (by rfl) (.inl (by rfl)) (qY (by rfl) tx.z_int (z8 0 (pv 0))))
 refine zd ?_ ?_
 refine zH ?_ ?_ ?_
 exact zN Ur (wK hr.units) (Snd.b (wQ (by rfl) tx.z_str (z8 1 (pv 1)))) (zj 0 (pv 0)) (zp _)
 exact zh wp
 exact zG
 exact zh (zo (z8 1 (pv 1)))
theorem xn {c_b:List T->R T} (O_b:Q_b P w base cl tx 1 c_b):Q_i P w base cl tx 2 (fun ts=>zk (b_i c_b (en0 2 ts))):=by
 refine zQ tx.C_i.F Vf rfl (fun cdv A outer s H E Y hy hr=> ?_) (fun ts h=>rfl)
 refine zd ?_ ?_
 exact Zg (i:=1) Vf.nd (by rfl) (.inl (by rfl)) (qV (z8 0 (pv 0)) zm)
 refine zh ?_
 refine zo ?_
 refine ZT ?_
 refine z7 ?_ ?_
 exact cZ hy O_b hr tx.C_b (z7 (Z4 (z8 1 (pv 1)) z9) zf)
 refine z7 ?_ ?_
 exact cZ hy O_b hr tx.C_b (z7 (Z4 (z8 1 (pv 1)) z9) zf)
 exact zf
theorem xo:Q_g P w base cl tx 1 (fun ts=>zk (b_g  (en0 3 ts))):=by
 refine zQ tx.C_g.F VO rfl (fun cdv A outer s H E Y hy hr=> ?_) (fun ts h=>rfl)
 refine zd ?_ ?_
 refine zH ?_ ?_ ?_
 refine JM.t ?_
 refine UV ?_ ?_
 exact jK (j4 (Snd.b (UG (z8 0 (pv 0)) (z8 1 (pv 1)))))
 exact Wg (jK (j4 (Snd.b (vz (z8 0 (pv 0)) (z8 2 (pv 2))))))
 exact zh wp
 exact zG
 refine zh ?_
 refine zo ?_
 refine um ?_ ?_ ?_
 exact z8 0 (pv 0)
 exact j9 (ZL (by rfl) tx.z_len (zj 1 (pv 1)))
 exact j9 (We (ZL (by rfl) tx.z_len (zj 2 (pv 2))))
theorem xp {c_b:List T->R T} (O_b:Q_b P w base cl tx 1 c_b):Q_o P w base cl tx 2 (fun ts=>zk (b_o c_b (en0 2 ts))):=by
 refine zQ tx.C_o.F Vg rfl (fun cdv A outer s H E Y hy hr=> ?_) (fun ts h=>rfl)
 refine zd ?_ ?_
 exact Zg (i:=1) Vg.nd (by rfl) (.inl (by rfl)) (qV (z8 0 (pv 0)) zm)
 refine zh ?_
 refine zo ?_
 refine ZT ?_
 refine z7 ?_ ?_
 exact Z4 (z8 1 (pv 1)) z9
 refine z7 ?_ ?_
 exact cZ hy O_b hr tx.C_b (z7 (Z4 (z8 1 (pv 1)) z9) zf)
 exact zf
theorem xq {j:Nat} (hj:2<=j) {c_g c_f c_8 c_o c_i:List T->R T} (O_g:Q_g P w base cl tx 1 c_g) (O_f:Q_f P w base cl tx 1 c_f) (O_8:Q_8 P w base cl tx j c_8) (O_o:Q_o P w base cl tx 2 c_o) (O_i:Q_i P w base cl tx 2 c_i):Q_8 P w base cl tx (j+1) (fun ts=>zk (b_8 c_g c_f c_8 c_o c_i (en0 4 ts))):=by
 refine zQ tx.C_8.F vY rfl (fun cdv A outer s H E Y hy hr=> ?_) (fun ts h=>rfl)
 refine zd ?_ ?_
 refine zH ?_ ?_ ?_
 exact zN Z9 (zz hr.units) (zj 1 (pv 1)) (Snd.b z9) (zp _)
 exact zh wp
 exact zG
 refine zd ?_ ?_
 refine zH ?_ ?_ ?_
 exact j4 (Snd.b (UG (z8 0 (pv 0)) zm))
 refine zh ?_
 refine zo ?_
 refine ZT ?_
 refine z7 ?_ ?_
 exact zm
 refine z7 ?_ ?_
 refine J4 (by rfl) tx.z_tuple ?_
 refine Zw (Zp ["piece"] N_8 (zb s_8) (by rfl) (by rfl) (by decide+kernel) (by rfl) ?_ (fun _ _ _ _ _ _=>zw (show List.Nodup (["piece"]:List Str) by decide+kernel) (by rfl) (.inl (by rfl)) (.inr (by rfl))) (zW 0) (zX 0) (fun Y' hy' _ _ _ _ _ _=> ?_) (fun Y' hy' _ _ _ _ _ _=> ?_))
 refine jw ?_
 refine vC ?_ ?_
 refine cZ hy O_g hr tx.C_g ?_
 exact z7 (z8 0 (pv 0)) (z7 zm (z7 zm zf))
 exact zm
 exact Zo
 exact cZ (hy'.trans hy) O_o hr tx.C_o (z7 (z8 0 (pv 0)) zf)
 exact zf
 exact zG
 refine zd ?_ ?_
 refine zH ?_ ?_ ?_
 exact j4 (Snd.b (UG (z8 0 (pv 0)) zm))
 refine zd ?_ ?_
 refine Zg (i:=2) vY.nd (by rfl) (.inl (by rfl)) ?_
 refine cZ hy O_f hr tx.C_f ?_
 refine z7 ?_ ?_
 refine cZ hy O_g hr tx.C_g ?_
 exact z7 (z8 0 (pv 0)) (z7 zm (z7 zm zf))
 exact z7 zm zf
 refine zh ?_
 refine zo ?_
 refine ZT ?_
 refine z7 ?_ ?_
 exact zm
 refine z7 ?_ ?_
 refine J4 (by rfl) tx.z_tuple ?_
 refine Zw (Zp ["piece","levels"] N_8 (zb s_8) (by rfl) (by rfl) (by decide+kernel) (by rfl) ?_ (fun _ _ _ _ _ _=>zw (show List.Nodup (["piece","levels"]:List Str) by decide+kernel) (by rfl) (.inl (by rfl)) (.inr (by rfl))) (zW 0) (zX 0) (fun Y' hy' _ _ _ _ _ _=> ?_) (fun Y' hy' _ _ _ _ _ _=> ?_))
 exact jw (z8 2 (pv 2))
 exact Zo
 refine cZ (hy'.trans hy) O_8 hr tx.C_8 ?_
 exact z7 (z8 0 (pv 0)) (z7 (jZ (z8 1 (pv 1)) z9) zf)
 exact zf
 exact zG
 refine zd ?_ ?_
 refine zH ?_ ?_ ?_
 exact j4 (Snd.b (UG (z8 0 (pv 0)) zm))
 refine zd ?_ ?_
 exact Zg (i:=3) vY.nd (by rfl) (.inl (by rfl)) (vA (z8 0 (pv 0)) zm)
 refine zh ?_
 refine zo ?_
 refine zn ?_ ?_
 refine ZT ?_
 refine z7 ?_ ?_
 exact zm
 refine z7 ?_ ?_
 refine cZ hy O_8 hr tx.C_8 ?_
 refine z7 ?_ ?_
 exact um (Z4 (z8 3 (pv 3)) z9) (j9 z9) UX
 exact z7 (jZ (z8 1 (pv 1)) z9) zf
 exact zf
 exact cZ hy O_i hr tx.C_i (z7 (Z4 (z8 3 (pv 3)) z9) zf)
 exact zG
 refine zh ?_
 refine zo ?_
 refine zn ?_ ?_
 exact ZT (z7 zm zf)
 exact cZ hy O_i hr tx.C_i (z7 (z8 0 (pv 0)) zf)
theorem xr:Q_d P w base cl tx 1 (fun ts=>zk (b_d  (en0 1 ts))):=by
 refine zQ tx.C_d.F VP rfl (fun cdv A outer s H E Y hy hr=> ?_) (fun ts h=>rfl)
 refine zh ?_
 refine zo ?_
 exact j3 (Wh (n:="int") (Y6 _) (by rfl) tx.z_isinstance (by rfl) tx.z_int PyProof.Rows.Boot.«int» (zj 0 (pv 0))) (J0 (vj (Wh (n:="bool") (Uw _) (by rfl) tx.z_isinstance (by rfl) tx.z_bool PyProof.Rows.Boot.«bool» (zj 0 (pv 0)))))
theorem xt {c_d:List T->R T} (O_d:Q_d P w base cl tx 1 c_d):Q_s P w base cl tx 2 (fun ts=>zk (b_s c_d (en0 4 ts))):=by
 refine zQ tx.C_s.F VQ rfl (fun cdv A outer s H E Y hy hr=> ?_) (fun ts h=>rfl)
 refine zh ?_
 refine zo ?_
 refine j3 ?_ ?_
 exact cZ hy O_d hr tx.C_d (z7 (z8 0 (pv 0)) zf)
 refine j3 ?_ ?_
 exact cZ hy O_d hr tx.C_d (z7 (z8 1 (pv 1)) zf)
 exact J0 (Uu ju ju ju ZB ZB ZB (zj 2 (pv 2)) (zj 0 (pv 0)) (zj 1 (pv 1)) (zj 3 (pv 3)))
theorem xu:Q_a P w base cl tx 1 (fun ts=>zk (b_a  (en0 3 ts))):=by
 refine zQ tx.C_a.F VR rfl (fun cdv A outer s H E Y hy hr=> ?_) (fun ts h=>rfl)
 refine zh ?_
 refine zo ?_
 refine j3 ?_ ?_
 exact Wh (n:="tuple") (JN _) (by rfl) tx.z_isinstance (by rfl) tx.z_tuple PyProof.Rows.Boot.«tuple» (zj 0 (pv 0))
 exact J0 (wg ju ju ZB ZB (zj 1 (pv 1)) (Snd.b (ZL (by rfl) tx.z_len (zj 0 (pv 0)))) (zj 2 (pv 2)))
theorem xv:Q_q P w base cl tx 1 (fun ts=>zk (b_q  (en0 1 ts))):=by
 refine zQ tx.C_q.F VS rfl (fun cdv A outer s H E Y hy hr=> ?_) (fun ts h=>rfl)
 refine zd ?_ ?_
 refine zH ?_ ?_ ?_
 refine JM.t ?_
 refine UV ?_ ?_
 exact jK (j4 (Snd.b (Wh (n:="str") (WY _) (by rfl) tx.z_isinstance (by rfl) tx.z_str PyProof.Rows.Boot.«str» (zj 0 (pv 0)))))
 refine Wg ?_
 refine jK ?_
 refine Y3 ju ju ZB ZB ?_ ?_ ?_
 exact Snd.b z9
 exact Snd.b (ZL (by rfl) tx.z_len (zj 0 (pv 0)))
 exact Snd.b z9
 exact zh (zo qu)
 exact zG
 refine zh ?_
 refine zo ?_
 refine Y8 hr.hd (by rfl) tx.z_all ?_
 refine Snd.b ?_
 refine Zw (Zp ["sign"] N_q (zb s_q) (by rfl) (by rfl) (by decide+kernel) (by rfl) ?_ (fun _ _ _ _ _ _=>zw (show List.Nodup (["sign"]:List Str) by decide+kernel) (by rfl) (.inl (by rfl)) (.inr (by rfl))) (zW 0) (zX 0) (fun Y' hy' _ _ _ _ _ _=> ?_) (fun Y' hy' _ _ _ _ _ _=> ?_))
 exact jw (z8 0 (pv 0))
 exact Zo
 exact wg ju ju ZB ZB (Snd.b zm) (zj 0 (pv 0)) (Snd.b zm)
theorem xw {c_d c_a c_q:List T->R T} (O_d:Q_d P w base cl tx 1 c_d) (O_a:Q_a P w base cl tx 1 c_a) (O_q:Q_q P w base cl tx 1 c_q):Q_p P w base cl tx 2 (fun ts=>zk (b_p c_d c_a c_q (en0 1 ts))):=by
 refine zQ tx.C_p.F VT rfl (fun cdv A outer s H E Y hy hr=> ?_) (fun ts h=>rfl)
 refine zh ?_
 refine zo ?_
 refine j3 ?_ ?_
 refine cZ hy O_a hr tx.C_a ?_
 exact z7 (z8 0 (pv 0)) (z7 z9 (z7 z9 zf))
 refine j3 ?_ ?_
 exact cZ hy O_q hr tx.C_q (z7 (Z4 (z8 0 (pv 0)) z9) zf)
 refine j3 ?_ ?_
 exact cZ hy O_d hr tx.C_d (z7 (Z4 (z8 0 (pv 0)) z9) zf)
 refine J0 ?_
 refine wg ju ju ZB ZB ?_ ?_ ?_
 exact Snd.b z9
 exact Snd.b (Z4 (z8 0 (pv 0)) z9)
 exact Snd.b z9
theorem xx {c_a c_p:List T->R T} (O_a:Q_a P w base cl tx 1 c_a) (O_p:Q_p P w base cl tx 2 c_p):Q_m P w base cl tx 3 (fun ts=>zk (b_m c_a c_p (en0 2 ts))):=by
 refine zQ tx.C_m.F Vh rfl (fun cdv A outer s H E Y hy hr=> ?_) (fun ts h=>rfl)
 refine zd ?_ ?_
 refine zH ?_ ?_ ?_
 refine JM.t ?_
 refine UV ?_ ?_
 refine jK ?_
 refine j4 ?_
 refine Snd.b ?_
 refine cZ hy O_a hr tx.C_a ?_
 exact z7 (z8 0 (pv 0)) (z7 z9 (z7 z9 zf))
 refine Wg ?_
 refine jK ?_
 refine j4 ?_
 refine Snd.b ?_
 refine Y8 hr.hd (by rfl) tx.z_all ?_
 refine Snd.b ?_
 refine Zw (Zp ["part"] N_m (zb s_m) (by rfl) (by rfl) (by decide+kernel) (by rfl) ?_ (fun _ _ _ _ _ _=>zw (show List.Nodup (["part"]:List Str) by decide+kernel) (by rfl) (.inl (by rfl)) (.inr (by rfl))) (zW 0) (zX 0) (fun Y' hy' _ _ _ _ _ _=> ?_) (fun Y' hy' _ _ _ _ _ _=> ?_))
 exact jw (z8 0 (pv 0))
 exact Zo
 exact cZ (hy'.trans hy) O_p hr tx.C_p (z7 (z8 0 (pv 0)) zf)
 exact zh (zo qu)
 exact zG
 refine zd ?_ ?_
 refine y9 (i:=1) (Zp ["choice"] N_m (zb s_m) (by rfl) (by rfl) (by decide+kernel) (by rfl) ?_ (fun _ _ _ _ _ _=>zw (show List.Nodup (["choice"]:List Str) by decide+kernel) (by rfl) (.inl (by rfl)) (.inr (by rfl))) (zW 0) (zX 0) (fun Y' hy' _ _ _ _ _ _=> ?_) (fun Y' hy' _ _ _ _ _ _=> ?_)) Vh.nd (by rfl) (.inl (by rfl)) (by rfl)
 exact jw (z8 0 (pv 0))
 exact Zo
 exact Z4 (z8 0 (pv 0)) z9
 refine zh ?_
 refine zo ?_
 exact Wf Z9 (zz hr.units) (Snd.b (qL hr.hd (by rfl) tx.z_len (by rfl) tx.z_set (zj 1 (pv 1)))) (Snd.b (ZL (by rfl) tx.z_len (zj 1 (pv 1)))) (zp _)
theorem xy {j:Nat} (hj:3<=j) {c_s c_6 c_m c_t:List T->R T} (O_s:Q_s P w base cl tx 2 c_s) (O_6:Q_6 P w base cl tx j c_6) (O_m:Q_m P w base cl tx 3 c_m) (O_t:Q_t P w base cl tx j c_t):Q_6 P w base cl tx (j+1) (fun ts=>zk (b_6 c_s c_6 c_m c_t (en0 2 ts))):=by
 refine zQ tx.C_6.F VU rfl (fun cdv A outer s H E Y hy hr=> ?_) (fun ts h=>rfl)
 refine zd ?_ ?_
 refine zH ?_ ?_ ?_
 refine JM.t ?_
 refine UV ?_ ?_
 exact zN Z9 (zz hr.units) (zj 1 (pv 1)) (Snd.b z9) (zp _)
 refine UV ?_ ?_
 exact jK (j4 (Snd.b (Wh (n:="tuple") (JN _) (by rfl) tx.z_isinstance (by rfl) tx.z_tuple PyProof.Rows.Boot.«tuple» (zj 0 (pv 0)))))
 exact Wg (zN Z9 (zz hr.units) (Snd.b (ZL (by rfl) tx.z_len (zj 0 (pv 0)))) (Snd.b z9) (zp _))
 exact zh (zo qu)
 exact zG
 refine zd ?_ ?_
 refine zH ?_ ?_ ?_
 exact zN Z9 (zz hr.units) (Snd.b (Z4 (z8 0 (pv 0)) z9)) (Snd.b zm) (zp _)
 refine zh ?_
 refine zo ?_
 refine j3 ?_ ?_
 exact Wf Z9 (zz hr.units) (Snd.b (ZL (by rfl) tx.z_len (zj 0 (pv 0)))) (Snd.b z9) (zp _)
 refine J0 ?_
 refine cZ hy O_s hr tx.C_s ?_
 refine z7 ?_ ?_
 exact Z4 (z8 0 (pv 0)) z9
 refine z7 ?_ ?_
 exact Z4 (z8 0 (pv 0)) z9
 exact z7 (We z9) (z7 z9 zf)
 exact zG
 refine zd ?_ ?_
 refine zH ?_ ?_ ?_
 exact zN Z9 (zz hr.units) (Snd.b (Z4 (z8 0 (pv 0)) z9)) (Snd.b zm) (zp _)
 refine zh ?_
 refine zo ?_
 refine j3 ?_ ?_
 exact Wf Z9 (zz hr.units) (Snd.b (ZL (by rfl) tx.z_len (zj 0 (pv 0)))) (Snd.b z9) (zp _)
 exact J0 (cZ hy O_m hr tx.C_m (z7 (Z4 (z8 0 (pv 0)) z9) zf))
 exact zG
 refine zd ?_ ?_
 refine zH ?_ ?_ ?_
 exact zN Z9 (zz hr.units) (Snd.b (Z4 (z8 0 (pv 0)) z9)) (Snd.b zm) (zp _)
 refine zh ?_
 refine zo ?_
 refine j3 ?_ ?_
 exact Wf Z9 (zz hr.units) (Snd.b (ZL (by rfl) tx.z_len (zj 0 (pv 0)))) (Snd.b z9) (zp _)
 refine J0 ?_
 refine cZ hy O_t hr tx.C_t ?_
 refine z7 ?_ ?_
 exact Z4 (z8 0 (pv 0)) z9
 exact z7 (jZ (z8 1 (pv 1)) z9) zf
 exact zG
 refine zd ?_ ?_
 refine zH ?_ ?_ ?_
 exact zN Z9 (zz hr.units) (Snd.b (Z4 (z8 0 (pv 0)) z9)) (Snd.b zm) (zp _)
 refine zh ?_
 refine zo ?_
 refine j3 ?_ ?_
 exact Wf Z9 (zz hr.units) (Snd.b (ZL (by rfl) tx.z_len (zj 0 (pv 0)))) (Snd.b z9) (zp _)
 refine j3 ?_ ?_
 refine cZ hy O_s hr tx.C_s ?_
 refine z7 ?_ ?_
 exact Z4 (z8 0 (pv 0)) z9
 refine z7 ?_ ?_
 exact Z4 (z8 0 (pv 0)) z9
 exact z7 z9 (z7 z9 zf)
 refine J0 ?_
 refine cZ hy O_6 hr tx.C_6 ?_
 refine z7 ?_ ?_
 exact Z4 (z8 0 (pv 0)) z9
 exact z7 (jZ (z8 1 (pv 1)) z9) zf
 exact zG
 exact zh (zo qu)
theorem xz {j:Nat} (hj:3<=j) {c_a c_6:List T->R T} (O_a:Q_a P w base cl tx 1 c_a) (O_6:Q_6 P w base cl tx j c_6):Q_t P w base cl tx (j+1) (fun ts=>zk (b_t c_a c_6 (en0 2 ts))):=by
 refine zQ tx.C_t.F VV rfl (fun cdv A outer s H E Y hy hr=> ?_) (fun ts h=>rfl)
 refine zh ?_
 refine zo ?_
 refine j3 ?_ ?_
 refine cZ hy O_a hr tx.C_a ?_
 exact z7 (z8 0 (pv 0)) (z7 z9 (z7 z9 zf))
 refine J0 ?_
 refine Y8 hr.hd (by rfl) tx.z_all ?_
 refine Snd.b ?_
 refine Zw (Zp ["part","levels"] N_t (zb s_t) (by rfl) (by rfl) (by decide+kernel) (by rfl) ?_ (fun _ _ _ _ _ _=>zw (show List.Nodup (["part","levels"]:List Str) by decide+kernel) (by rfl) (.inl (by rfl)) (.inr (by rfl))) (zW 0) (zX 0) (fun Y' hy' _ _ _ _ _ _=> ?_) (fun Y' hy' _ _ _ _ _ _=> ?_))
 exact jw (z8 0 (pv 0))
 exact Zo
 exact cZ (hy'.trans hy) O_6 hr tx.C_6 (z7 (z8 0 (pv 0)) (z7 (z8 1 (pv 1)) zf))
theorem xA {c_6:List T->R T} (O_6:Q_6 P w base cl tx 23 c_6):Q_2 P w base cl tx 24 (fun ts=>zk (b_2 c_6 (en0 1 ts))):=by
 obtain ⟨u_DEEPEST,c_DEEPEST⟩:=tx.c_DEEPEST
 refine zQ tx.C_2.F VW rfl (fun cdv A outer s H E Y hy hr=> ?_) (fun ts h=>rfl)
 refine zh ?_
 exact zo (cZ hy O_6 hr tx.C_6 (z7 (z8 0 (pv 0)) (z7 (wo (by rfl) c_DEEPEST.1 c_DEEPEST.2) zf)))
theorem xB {c_2 c_v c_8:List T->R T} (O_2:Q_2 P w base cl tx 24 c_2) (O_v:Q_v P w base cl tx 1 c_v) (O_8:Q_8 P w base cl tx 22 c_8):Q_c P w base cl tx 25 (fun ts=>zk (b_c c_2 c_v c_8 (en0 2 ts))):=by
 obtain ⟨u_DEEPEST,c_DEEPEST⟩:=tx.c_DEEPEST
 refine zQ tx.C_c.F Vi rfl (fun cdv A outer s H E Y hy hr=> ?_) (fun ts h=>rfl)
 refine zd ?_ ?_
 exact u7 (cZ hy O_v hr tx.C_v (z7 (z8 0 (pv 0)) zf))
 refine zd ?_ ?_
 exact Zg (i:=1) Vi.nd (by rfl) (.inl (by rfl)) (cZ hy O_8 hr tx.C_8 (z7 (z8 0 (pv 0)) (z7 (wo (by rfl) c_DEEPEST.1 c_DEEPEST.2) zf)))
 refine zd ?_ ?_
 refine zH ?_ ?_ ?_
 exact jK (j4 (Snd.b (cZ hy O_2 hr tx.C_2 (z7 (z8 1 (pv 1)) zf))))
 exact zh wp
 exact zG
 exact zh (zo (z8 1 (pv 1)))
theorem xC {c_2:List T->R T} (O_2:Q_2 P w base cl tx 24 c_2):Q_h P w base cl tx 25 (fun ts=>zk (b_h c_2 (en0 1 ts))):=by
 refine zQ tx.C_h.F VX rfl (fun cdv A outer s H E Y hy hr=> ?_) (fun ts h=>rfl)
 refine zh ?_
 refine zH ?_ ?_ ?_
 exact jK (j4 (Snd.b (cZ hy O_2 hr tx.C_2 (z7 (z8 0 (pv 0)) zf))))
 exact zh wp
 exact zG
theorem xD:Q_l P w base cl tx 1 (fun ts=>zk (b_l  (en0 2 ts))):=by
 refine zQ tx.C_l.F VY rfl (fun cdv A outer s H E Y hy hr=> ?_) (fun ts h=>rfl)
 exact zh (zo (V6 (z8 0 (pv 0)) (z8 1 (pv 1))))
theorem xE {j:Nat} (hj:1<=j) {c_9 c_l:List T->R T} (O_9:Q_9 P w base cl tx j c_9) (O_l:Q_l P w base cl tx 1 c_l):Q_9 P w base cl tx (j+1) (fun ts=>zk (b_9 c_9 c_l (en0 1 ts))):=by
 refine zQ tx.C_9.F VZ rfl (fun cdv A outer s H E Y hy hr=> ?_) (fun ts h=>rfl)
 refine zd ?_ ?_
 refine zH ?_ ?_ ?_
 exact zN Z9 (zz hr.units) (Snd.b (Z4 (z8 0 (pv 0)) z9)) (Snd.b zm) (zp _)
 refine zh ?_
 refine zo ?_
 refine cZ hy O_l hr tx.C_l ?_
 refine z7 ?_ ?_
 exact Z4 (z8 0 (pv 0)) z9
 exact z7 (Z4 (z8 0 (pv 0)) z9) zf
 exact zG
 refine zd ?_ ?_
 refine zH ?_ ?_ ?_
 exact zN Z9 (zz hr.units) (Snd.b (Z4 (z8 0 (pv 0)) z9)) (Snd.b zm) (zp _)
 refine zh ?_
 refine zo ?_
 refine zn ?_ ?_
 refine zn ?_ ?_
 exact zm
 refine JQ ?_
 refine Snd.b ?_
 refine Zw (Zp ["word","weight"] N_9 (zb s_9) (by rfl) (by rfl) (by decide+kernel) (by rfl) ?_ (fun _ _ _ _ _ _=>wE (by rfl) (Zm (zw (show List.Nodup (["word","weight"]:List Str) by decide+kernel) (by rfl) (.inl (by rfl)) (.inr (by rfl))) (Zm (zw (show List.Nodup (["word","weight"]:List Str) by decide+kernel) (by rfl) (.inl (by rfl)) (.inr (by rfl))) jV))) (J7 _ 0 1) (J9 0 1) (fun Y' hy' _ _ _ _ _ _=> ?_) (fun Y' hy' _ _ _ _ _ _=> ?_))
 exact jw (Z4 (z8 0 (pv 0)) z9)
 exact Zo
 exact V6 (z8 0 (pv 0)) (z8 1 (pv 1))
 exact zm
 exact zG
 refine zd ?_ ?_
 refine zH ?_ ?_ ?_
 exact zN Z9 (zz hr.units) (Snd.b (Z4 (z8 0 (pv 0)) z9)) (Snd.b zm) (zp _)
 refine zh ?_
 refine zo ?_
 refine zn ?_ ?_
 refine zn ?_ ?_
 exact zm
 refine JQ ?_
 refine Snd.b ?_
 refine Zw (Zp ["part"] N_9 (zb s_9) (by rfl) (by rfl) (by decide+kernel) (by rfl) ?_ (fun _ _ _ _ _ _=>zw (show List.Nodup (["part"]:List Str) by decide+kernel) (by rfl) (.inl (by rfl)) (.inr (by rfl))) (zW 0) (zX 0) (fun Y' hy' _ _ _ _ _ _=> ?_) (fun Y' hy' _ _ _ _ _ _=> ?_))
 exact jw (Z4 (z8 0 (pv 0)) z9)
 exact Zo
 exact cZ (hy'.trans hy) O_9 hr tx.C_9 (z7 (z8 0 (pv 0)) zf)
 exact zm
 exact zG
 refine zh ?_
 refine zo ?_
 refine zn ?_ ?_
 refine zn ?_ ?_
 refine zn ?_ ?_
 exact zm
 exact cZ hy O_9 hr tx.C_9 (z7 (Z4 (z8 0 (pv 0)) z9) zf)
 exact zm
 refine cZ hy O_l hr tx.C_l ?_
 refine z7 ?_ ?_
 exact Z4 (z8 0 (pv 0)) z9
 exact z7 (Z4 (z8 0 (pv 0)) z9) zf
theorem xF {c_h c_9:List T->R T} (O_h:Q_h P w base cl tx 25 c_h) (O_9:Q_9 P w base cl tx 21 c_9):Q_3 P w base cl tx 26 (fun ts=>zk (b_3 c_h c_9 (en0 1 ts))):=by
 refine zQ tx.C_3.F x6 rfl (fun cdv A outer s H E Y hy hr=> ?_) (fun ts h=>rfl)
 refine zd ?_ ?_
 exact u7 (cZ hy O_h hr tx.C_h (z7 (z8 0 (pv 0)) zf))
 exact zh (zo (cZ hy O_9 hr tx.C_9 (z7 (z8 0 (pv 0)) zf)))
theorem xG {j:Nat} (hj:0<=j) {c_e c_r:List T->R T} (O_e:Q_e P w base cl tx j c_e) (O_r:Q_r P w base cl tx j c_r):Q_4 P w base cl tx (j+1) (fun ts=>zk (b_4 c_e c_r (en0 1 ts))):=by
 refine zQ tx.C_4.F x8 rfl (fun cdv A outer s H E Y hy hr=> ?_) (fun ts h=>rfl)
 refine zd ?_ ?_
 refine zH ?_ ?_ ?_
 exact zN Z9 (zz hr.units) (Snd.b (Z4 (z8 0 (pv 0)) z9)) (Snd.b zm) (zp _)
 refine zh ?_
 refine zo ?_
 refine zn ?_ ?_
 exact jZ (Z4 (z8 0 (pv 0)) z9) (Z4 (z8 0 (pv 0)) z9)
 exact z9
 exact zG
 refine zd ?_ ?_
 refine zH ?_ ?_ ?_
 exact zN Z9 (zz hr.units) (Snd.b (Z4 (z8 0 (pv 0)) z9)) (Snd.b zm) (zp _)
 exact zh (zo (ZL (by rfl) tx.z_len (Snd.b (Z4 (z8 0 (pv 0)) z9))))
 exact zG
 refine zd ?_ ?_
 refine zH ?_ ?_ ?_
 exact zN Z9 (zz hr.units) (Snd.b (Z4 (z8 0 (pv 0)) z9)) (Snd.b zm) (zp _)
 refine zh ?_
 exact zo (cZ hy O_e hr tx.C_e (z7 (Z4 (z8 0 (pv 0)) z9) zf))
 exact zG
 refine zh ?_
 refine zo ?_
 refine cZ hy O_r hr tx.C_r ?_
 refine z7 ?_ ?_
 exact z8 0 (pv 0)
 exact z7 (zn (Z4 (z8 0 (pv 0)) z9) z9) zf
theorem xH {j:Nat} (hj:0<=j) {c_4:List T->R T} (O_4:Q_4 P w base cl tx j c_4):Q_e P w base cl tx (j+1) (fun ts=>zk (b_e c_4 (en0 3 ts))):=by
 refine zQ tx.C_e.F QJ rfl (fun cdv A outer s H E Y hy hr=> ?_) (fun ts h=>rfl)
 refine zd ?_ ?_
 exact Zg (i:=1) QJ.nd (by rfl) (.inl (by rfl)) z9
 refine zd ?_ ?_
 refine Uy PassesOwn.never (by rfl) ?_ ?_ ?_
 exact jw (z8 0 (pv 0))
 exact u9 (i:=2) QJ.nd (by rfl) (.inl (by rfl))
 refine zh ?_
 exact Zg (i:=1) QJ.nd (by rfl) (.inl (by rfl)) (jt (z8 1 (pv 1)) (cZ hy O_4 hr tx.C_4 (z7 (z8 2 (pv 2)) zf)))
 exact zh (zo (z8 1 (pv 1)))
theorem xI {j:Nat} (hj:0<=j) {c_e:List T->R T} (O_e:Q_e P w base cl tx j c_e):Q_r P w base cl tx (j+1) (fun ts=>zk (b_r c_e (en0 2 ts))):=by
 refine zQ tx.C_r.F x9 rfl (fun cdv A outer s H E Y hy hr=> ?_) (fun ts h=>rfl)
 refine zh ?_
 refine zo ?_
 refine vx hr.hd (by rfl) tx.z_sum ?_
 refine Snd.b ?_
 refine Zw (Zp ["each","kind"] N_r (zb s_r) (by rfl) (by rfl) (by decide+kernel) (by rfl) ?_ (fun _ _ _ _ _ _=>zw (show List.Nodup (["each","kind"]:List Str) by decide+kernel) (by rfl) (.inl (by rfl)) (.inr (by rfl))) (zW 0) (zX 0) (fun Y' hy' _ _ _ _ _ _=> ?_) (fun Y' hy' _ _ _ _ _ _=> ?_))
 exact qH (by rfl) tx.z_range (Z4 (z8 0 (pv 0)) z9) (z8 1 (pv 1))
 exact Zo
 refine cZ (hy'.trans hy) O_e hr tx.C_e ?_
 refine z7 ?_ ?_
 refine jt ?_ ?_
 exact Ul (z7 (Z4 (z8 1 (pv 1)) z9) zf)
 exact z8 0 (pv 0)
 exact zf
theorem xJ {c_h c_4:List T->R T} (O_h:Q_h P w base cl tx 25 c_h) (O_4:Q_4 P w base cl tx 20 c_4):Q_j P w base cl tx 26 (fun ts=>zk (b_j c_h c_4 (en0 1 ts))):=by
 refine zQ tx.C_j.F xa rfl (fun cdv A outer s H E Y hy hr=> ?_) (fun ts h=>rfl)
 refine zd ?_ ?_
 exact u7 (cZ hy O_h hr tx.C_h (z7 (z8 0 (pv 0)) zf))
 exact zh (zo (cZ hy O_4 hr tx.C_4 (z7 (z8 0 (pv 0)) zf)))
theorem xK {c_j c_1 c_3 c_c c_7:List T->R T} (O_j:Q_j P w base cl tx 26 c_j) (O_1:Q_1 P w base cl tx 12 c_1) (O_3:Q_3 P w base cl tx 26 c_3) (O_c:Q_c P w base cl tx 25 c_c) (O_7:Q_7 P w base cl tx 8 c_7):Q_0 P w base cl tx 27 (fun ts=>zk (b_0 c_j c_1 c_3 c_c c_7 (en0 4 ts))):=by
 refine zQ tx.C_0.F QK rfl (fun cdv A outer s H E Y hy hr=> ?_) (fun ts h=>rfl)
 refine zd ?_ ?_
 refine Uy PassesOwn.never (by rfl) ?_ ?_ ?_
 exact wM (by rfl) tx.z_range z9
 exact u9 (i:=1) QK.nd (by rfl) (.inl (by rfl))
 refine zd ?_ ?_
 refine Zg (i:=2) QK.nd (by rfl) (.inl (by rfl)) ?_
 refine cZ hy O_1 hr tx.C_1 ?_
 refine z7 ?_ ?_
 exact z8 0 (pv 0)
 refine z7 ?_ ?_
 exact zn z9 (jt z9 (z8 1 (pv 1)))
 exact z7 z9 zf
 refine zd ?_ ?_
 exact Zg (i:=3) QK.nd (by rfl) (.inl (by rfl)) (cZ hy O_7 hr tx.C_7 (z7 (z8 2 (pv 2)) zf))
 refine zh ?_
 refine zH ?_ ?_ ?_
 refine JM.t ?_
 refine UV ?_ ?_
 exact zN Ur (wK hr.units) (Snd.b (cZ hy O_3 hr tx.C_3 (z7 (z8 2 (pv 2)) zf))) (zj 3 (pv 3)) (zp _)
 refine UV ?_ ?_
 exact zN Ur (wK hr.units) (Snd.b (cZ hy O_c hr tx.C_c (z7 (z8 3 (pv 3)) zf))) (zj 2 (pv 2)) (zp _)
 refine Wg ?_
 refine zN Ur (wK hr.units) ?_ ?_ (zp _)
 refine Snd.b ?_
 exact cZ hy O_j hr tx.C_j (z7 (cZ hy O_c hr tx.C_c (z7 (z8 3 (pv 3)) zf)) zf)
 exact Snd.b (cZ hy O_j hr tx.C_j (z7 (z8 2 (pv 2)) zf))
 exact zh (zo qu)
 exact zG
 refine zh ?_
 refine zo ?_
 refine Wf Z9 (zz hr.units) ?_ ?_ (zp _)
 refine Snd.b ?_
 refine cZ hy O_c hr tx.C_c ?_
 refine z7 ?_ ?_
 exact um zm (j9 z9) (j9 (We z9))
 exact zf
 refine Snd.b ?_
 refine ZT ?_
 refine z7 ?_ ?_
 exact zm
 refine z7 ?_ ?_
 refine ZT ?_
 refine z7 ?_ ?_
 exact zm
 refine z7 ?_ ?_
 refine ZT ?_
 exact z7 zm (z7 z9 (z7 z9 zf))
 exact z7 z9 (z7 z9 zf)
 exact z7 z9 (z7 z9 zf)
end
theorem j0 {P:Program} {w:World} {K:PySem.W.Frag} {mg:Str->Option Value} {base:Heap} {CX:CXT} {cl:Nat->Value} {k n:Nat} {f:Addr} {fd:FuncData} {ps:List Str} (hn:n=ps.length):Zl P w K mg base CX k f fd ps (spP cl n (fun _=> .bad)):=
 ⟨fun vs H Q E h=>by rw [← hn]; exact spP.len vs H Q E h,fun A outer s H args us vs Q E _ _ _ _ ⟨B,ts,_,_,_,q⟩=>q.elim⟩
section
variable {P:Program} {w:World} {K:PySem.W.Frag} {mg:Str->Option Value} {base:Heap} {cl:Nat->Value} {tx:Tx K mg}
theorem Qu:Q_0 P w base cl tx 27 f_0:=by
 have O_u:Q_u P w base cl tx 1 f_u:=xb
 have O_5:Q_5 P w base cl tx 2 f_5:=xf O_u
 have O_n:Q_n P w base cl tx 3 f_n:=xg O_5
 have O_k:Q_k P w base cl tx 4 f_k:=xh O_5 O_n
 have R_1:∀ n:Nat,Q_1 P w base cl tx (4+n) (S_1 n 0):=by
  intro n
  induction n with
  | zero=>exact j0 rfl
  | succ n ih=>
   exact xi (j:=4+n) (by omega) O_5 O_k ih
 have O_1:Q_1 P w base cl tx 12 (f_1 8):=(R_1 8)
 have R_7:∀ n:Nat,Q_7 P w base cl tx (0+n) (S_7 n 0):=by
  intro n
  induction n with
  | zero=>exact j0 rfl
  | succ n ih=>
   exact xj (j:=0+n) (by omega) ih
 have O_7:Q_7 P w base cl tx 8 (f_7 8):=(R_7 8)
 have O_v:Q_v P w base cl tx 1 f_v:=xk
 have O_f:Q_f P w base cl tx 1 f_f:=xl
 have O_b:Q_b P w base cl tx 1 f_b:=xm
 have O_i:Q_i P w base cl tx 2 f_i:=xn O_b
 have O_g:Q_g P w base cl tx 1 f_g:=xo
 have O_o:Q_o P w base cl tx 2 f_o:=xp O_b
 have R_8:∀ n:Nat,Q_8 P w base cl tx (2+n) (S_8 n 0):=by
  intro n
  induction n with
  | zero=>exact j0 rfl
  | succ n ih=>
   exact xq (j:=2+n) (by omega) O_g O_f ih O_o O_i
 have O_8:Q_8 P w base cl tx 22 (f_8 20):=(R_8 20)
 have O_d:Q_d P w base cl tx 1 f_d:=xr
 have O_s:Q_s P w base cl tx 2 f_s:=xt O_d
 have O_a:Q_a P w base cl tx 1 f_a:=xu
 have O_q:Q_q P w base cl tx 1 f_q:=xv
 have O_p:Q_p P w base cl tx 2 f_p:=xw O_d O_a O_q
 have O_m:Q_m P w base cl tx 3 f_m:=xx O_a O_p
 have R_6:∀ n:Nat,Q_6 P w base cl tx (3+n) (S_6 n 0)/\Q_t P w base cl tx (3+n) (S_6 n 1):=by
  intro n
  induction n with
  | zero=>exact ⟨j0 rfl,j0 rfl⟩
  | succ n ih=>
   exact ⟨xy (j:=3+n) (by omega) O_s ih.1 O_m ih.2,xz (j:=3+n) (by omega) O_a ih.1⟩
 have O_6:Q_6 P w base cl tx 23 (f_6 20):=(R_6 20).1
 have O_t:Q_t P w base cl tx 23 (f_t 20):=(R_6 20).2
 have O_2:Q_2 P w base cl tx 24 f_2:=xA O_6
 have O_c:Q_c P w base cl tx 25 f_c:=xB O_2 O_v O_8
 have O_h:Q_h P w base cl tx 25 f_h:=xC O_2
 have O_l:Q_l P w base cl tx 1 f_l:=xD
 have R_9:∀ n:Nat,Q_9 P w base cl tx (1+n) (S_9 n 0):=by
  intro n
  induction n with
  | zero=>exact j0 rfl
  | succ n ih=>
   exact xE (j:=1+n) (by omega) ih O_l
 have O_9:Q_9 P w base cl tx 21 (f_9 20):=(R_9 20)
 have O_3:Q_3 P w base cl tx 26 f_3:=xF O_h O_9
 have R_4:∀ n:Nat,Q_4 P w base cl tx (0+n) (S_4 n 0)/\Q_e P w base cl tx (0+n) (S_4 n 1)/\Q_r P w base cl tx (0+n) (S_4 n 2):=by
  intro n
  induction n with
  | zero=>exact ⟨j0 rfl,j0 rfl,j0 rfl⟩
  | succ n ih=>
   exact ⟨xG (j:=0+n) (by omega) ih.2.1 ih.2.2,xH (j:=0+n) (by omega) ih.1,xI (j:=0+n) (by omega) ih.2.1⟩
 have O_4:Q_4 P w base cl tx 20 (f_4 20):=(R_4 20).1
 have O_e:Q_e P w base cl tx 20 (f_e 20):=(R_4 20).2.1
 have O_r:Q_r P w base cl tx 20 (f_r 20):=(R_4 20).2.2
 have O_j:Q_j P w base cl tx 26 f_j:=xJ O_h O_4
 have O_0:Q_0 P w base cl tx 27 f_0:=xK O_j O_1 O_3 O_c O_7
 exact O_0
end
theorem fn1 {K:PySem.W.Frag} {h:Heap} {mg:Str->Option Value} {f:Addr} {od an:Option Addr} {sl:Array (Option Value)} {oc kV dc pm cd ct:Value} {x:Str} {st:Stmt} {ps:List Str} (X:K.In h) (G:h.Ns mainGlobals mg) (e:PySem.W.nsIn K mainGlobals x=some (some (.ref f))) (l:K.lookup f=some ⟨oc,od, .func (PySem.W.fnOf x x (ZA st) (Zq st) (zb st) .none kV dc pm an cd ct),sl⟩) (g:PySem.W.codeIn K cd x=true) (k:PySem.W.keepIn K (.ref f)=true)
  (hb:∀ F:Fun K x x st f (PySem.W.fnOf x x (ZA st) (Zq st) (zb st) .none kV dc pm an cd ct),L2.Binds K (PySem.W.fnOf x x (ZA st) (Zq st) (zb st) .none kV dc pm an cd ct) ps []):Fn K mg x st ps f (PySem.W.fnOf x x (ZA st) (Zq st) (zb st) .none kV dc pm an cd ct):=
 have F:=qt (st:=st) l g k
 ⟨F,hb F,PySem.W.mg_of X G e⟩
theorem fin_ {l:PySem.W.OpenLaw} {w:World} {K:PySem.W.Frag} {h:Heap} {mg:Str->Option Value} {fa:Addr} (X:K.In h) (G:h.Ns mainGlobals mg) (hfa:mg "law"=some (.ref fa)) (tx:Tx K mg) (hB:∀ (s:Shared) (v:Value),BindsTo s tx.d_0 ⟨[v],[]⟩ [("_law_script",v)]):∃ fd:FuncData,(∀ (s:Shared) (v:Value),BindsTo s fd ⟨[v],[]⟩ [("_law_script",v)])/\∀ base:Heap,K.In base->base.Ns mainGlobals mg->Zl l.prog w K mg base CX0 27 fa fd ["_law_script"] (spP (fun _=> .none) 1 f_0):=by
 have e:=hfa.symm.trans tx.C_0.m
 cases e
 exact ⟨tx.d_0,hB,fun base KB _=>Qu⟩
def wB (K:PySem.W.Frag):Bool:=K.all fun p=> !(p.2.cls == Value.type "list")
theorem YH {K:PySem.W.Frag} (h:wB K=true) {a:Addr} {o:Obj} (e:K.lookup a=some o) (c:o.cls=Value.type "list"):False:=by
 have hm:(a,o)∈K:=by
  clear h
  induction K with
  | nil=>cases e
  | cons p r ih=>
   obtain ⟨b,u⟩:=p
   by_cases hb:a=b
   ·subst hb
    have e' :some u=some o:=by simpa [List.lookup_cons] using e
    cases e'; exact List.mem_cons_self
   ·have e' :r.lookup a=some o:=by rw [List.lookup_cons,(beq_eq_false_iff_ne.mpr hb)] at e; exact e
    exact List.mem_cons_of_mem _ (ih e')
 have:=List.all_eq_true.mp h _ hm
 rw [c] at this
 simp at this
theorem Qv {cl:Nat->Value} {K:PySem.W.Frag} {H:Hp} {a:Addr} {ns:List Int} (hL:f_0 [.fz (ns.map T.int)]= .ok (.bl true)) (hK:wB K=true) (hO:Qy H) (hS:SqL K H a (ns.map V.int)):spP cl 1 f_0 [.ref a] H (fun v _=>v= .bl true) fun _ _ _=>False:=by
 have scrR:∀ ns:List Int,zy H (ns.map V.int) (ns.map T.int):=fun ns=>by
  induction ns with
  | nil=>exact .nil
  | cons n r ih=>exact .cons (.int n) ih
 rcases hS with (h | ⟨o,h⟩) | ⟨o,its,n,e,c,_⟩
 ·rcases hO a with z | ⟨ob,xs,z⟩ <;> (rw [h] at z; cases z)
 ·refine ⟨H,[.fz (ns.map T.int)],rfl,zt.refl H, .cons (.fz h (scrR ns)) .nil, ?_⟩
  rw [hL]
  intro v H' _ r
  cases r; rfl
 ·exact (YH hK e c).elim
theorem walk {l:PySem.W.OpenLaw} {q:Program} {loose:List Str} {XP:(Str->Option Value)->Heap->Prop} {YP:World->Heap->Prop} {d:DefRec} {K:Params->PySem.W.Frag} (hn:l.most=some 63) (hdf:d.params.defaults=[])
  (hL:∀ ns:List Int,ns.length<=63->f_0 [.fz (ns.map T.int)]= .ok (.bl true)) (hK:∀ p,wB (K p)=true)
  (hY:∀ (w:World) (h:Heap),YP w h->(K w.params).In h)
  (F:∀ (w:World) (mg:Str->Option Value) (fa:Addr) (h:Heap),(K w.params).In h->h.Ns mainGlobals mg->mg d.name=some (.ref fa)->
   ∃ fd:FuncData,(∀ (s:Shared) (u:Value),BindsTo s fd ⟨[u],[]⟩ [("_law_script",u)])/\∀ base:Heap,(K w.params).In base->base.Ns mainGlobals mg->Zl l.prog w (K w.params) mg base CX0 27 fa fd ["_law_script"] (spP (fun _=> .none) 1 f_0)):
  PySem.W.WalkO q loose XP YP l.row.toRowW d [] (fun f vs=>PySem.call f vs):=
 L2.walk_of (n:=63) (k:=27) (x:="_law_script") (CX:=fun w=>CX0) (sp:=fun w=>spP (fun _=> .none) 1 f_0) hn (by decide) hdf ⟨rfl,by decide,by decide⟩ hY F (fun w H a ns hl hO hS=>Qv (hL ns hl) (hK w.params) hO hS) fun _ _ _ _ _ z=>z
end G
namespace PySem.W.Fast
def tw1644529079904867309:=0
def tw10903919533947000143:=0
def tw516872756490501603:=0
def tw1247226482641396746:=0
def tw4886998688407493593:=0
def tw8551777757218693534:=0
def tw11898418709160216171:=0
def tw14987426157515255680:=0
def tw7620864859304736800:=0
def tw12551459445253367437:=0
def tw9443852079682310985:=0
def tw16485471721941920704:=0
def tw10695720905754753689:=0
def tw5961978853004761391:=0
def tw16713144158829539610:=0
def tw9671213143271174846:=0
def tw214557716222369996:=0
def tw7727993295469087514:=0
def tw4406171751629071452:=0
def tw11893599054401453587:=0
def tw9897556357999080482:=0
def tw14178390358417868672:=0
def tw16726531470025580110:=0
def tw209359984876149518:=0
def tw11083896179859503941:=0
def tw5878755049625197880:=0
def tw16621097577982597620:=0
def tw17800378358673729849:=0
def tw16658511414837066081:=0
def tw5310558374691097847:=0
def tw11937600716969767258:=0
def tw5452149722625216066:=0
def tw13913700647434392947:=0
def tw2124402600567600674:=0
def tw6467163518402504864:=0
def tw8118634668758789063:=0
def tw16266300448328803111:=0
def tw8557281632288386766:=0
def tw11741243505723013954:=0
def tw7034762405187436116:=0
def tw13963044413573995807:=0
def tw18403775017110563258:=0
def tw9386219772868417522:=0
def tw1460573726916009310:=0
def tw1512145455557995604:=0
def tw17301632042057037330:=0
def tw18316876403651622487:=0
def tw18426636755980074907:=0
def tw5479385387567396903:=0
def tw2137935131285780436:=0
def tw17904753055934565302:=0
def tw8014611023992331266:=0
def tw10136669316636159548:=0
def tw10288000414143778728:=0
def tw7699152578026603876:=0
def tw1057081225920967770:=0
def tw9319962233048989136:=0
def tw7851565295681226195:=0
def tw17958269692202129435:=0
def tw8803428572474758047:=0
def tw15489901443232245800:=0
def tw9685745228663720993:=0
def tw5753264150746147301:=0
def tw5689137716464306105:=0
def tw8604745332539625401:=0
def tw6054870741969959240:=0
def tw6129487702911400077:=0
def tw10180783196538528043:=0
def tw9234838575893255923:=0
def tw4725759578714099549:=0
def tw13028823015408135738:=0
def tw6919754244237406747:=0
def tw18181648504447701136:=0
def tw2665882933946164172:=0
def tw6591198009756106947:=0
def tw10411009573660067774:=0
def tw5169813628992302311:=0
def tw8449367580078219612:=0
def tw17452685579590476161:=0
def tw1667261959256606484:=0
def tw7833437636788904522:=0
def tw6409012019159374062:=0
def tw12791011696326762451:=0
def tw14706227036993393405:=0
def tw495972565926234918:=0
def tw6037617300721968110:=0
def tw7226210957441527512:=0
def tw13213241929556159371:=0
def tw12423519348068562947:=0
def tw12882053472592999926:=0
def tw9003012716793281827:=0
def tw2958145784049574967:=0
def tw9722806349761261457:=0
def tw15293964472728167586:=0
def tw1415784125368189546:=0
def tw5274083297186502820:=0
def tw12294555284729486539:=0
def tw10769586370999884116:=0
def tw14421780460584600122:=0
def tw3210809550197018177:=0
def tw2596090063428783291:=0
def tw10594501839321013621:=0
def tw7018722870605321624:=0
def tw3028651571070310083:=0
def tw6004622790485768731:=0
def tw9573979343633769529:=0
def tw13311916592899061095:=0
def tw13264358353215431051:=0
def tw2985558866336924936:=0
def tw15673844196062439007:=0
def tw15092217945738289934:=0
def tw2073438772508589573:=0
def tw4232464802949789464:=0
def tw9256693036744511282:=0
def tw5657316993043548673:=0
def tw4206167674568314081:=0
def tw14181386421944398176:=0
def tw9278273119727781502:=0
def tw10214668045049020459:=0
def tw15924338788353912848:=0
def tw15768240863046092770:=0
def tw748517832428207676:=0
def tw16498320543558838709:=0
def tw22738940823897305:=0
def tw4794597464264561617:=0
def tw17526988706589975936:=0
def tw6209352600072261503:=0
def tw15505027501949203618:=0
def tw15207760370286052521:=0
def tw7745042932735010337:=0
def tw12110065989461802915:=0
def tw2810236842041258958:=0
def tw18290803433502902926:=0
def tw15388755933656769966:=0
def tw17837375476178808384:=0
def tw9848003363083165844:=0
def tw6872741007768504584:=0
def tw8006689989083224775:=0
def tw11474748012070899107:=0
def tw7006524541892994628:=0
def tw10101435408612779253:=0
def tw7100188377081814957:=0
def tw16721548857324641008:=0
def tw4351760094943735959:=0
def tw8905114665822852509:=0
def tw9495740378108036319:=0
def tw6933055158994574214:=0
def tw6489528851092304577:=0
def tw11182527621543230698:=0
def tw6964502154448458639:=0
def tw7519550336925650804:=0
def tw9049921324734574879:=0
def tw13677241663819762506:=0
def tw7393577882286912808:=0
def tw8651094810593459269:=0
def tw10727533154817880245:=0
def tw13959389397616412419:=0
def tw10514196712094189391:=0
def tw9740615418315180889:=0
def tw4460765662911858317:=0
def tw8794272479161227451:=0
def tw7169556535086839868:=0
def tw2975579620508611354:=0
def tw16613043038935198955:=0
def tw16846808767265016815:=0
def tw12156181510173530244:=0
def tw13454243640807490870:=0
def tw17207376987205410920:=0
def tw12256347031976581783:=0
def tw4315591757961340949:=0
def tw13304040337318274511:=0
def tw16943178651500749178:=0
def tw8663003691477589074:=0
def tw1197569978548252283:=0
def tw14842166938655595565:=0
def tw3496621122835836169:=0
def tw5078593057013765252:=0
def tw16134688108143704540:=0
def tw17330188232702190112:=0
def tw2608983386374413413:=0
def tw12780432587514753385:=0
def tw11285996014511634676:=0
def tw1921983726508517149:=0
def tw9520390040777809696:=0
def tw7076128179214030834:=0
def tw10363885731341067448:=0
def tw4389258836929452655:=0
def tw3496761186020763376:=0
def tw1330384676609542514:=0
def tw17923192720306708434:=0
def tw8274046990875169100:=0
def tw10740587447091208104:=0
def tw14201197070730469082:=0
def tw1389887664886991846:=0
def tw9962951953887399100:=0
def tw9372136816890751905:=0
def tw9878910682952208843:=0
def tw6810031882392318996:=0
def tw7524842487395486164:=0
def tw5893940346905226527:=0
def tw11826324947172487244:=0
def tw1670276586678080388:=0
def tw15817131367409673467:=0
def tw6274948591045362185:=0
def tw13245659272097679701:=0
def tw15384853689682475365:=0
def tw12181396820533853210:=0
def tw7139679394487631790:=0
def tw4911204044258539447:=0
def tw18001351850009269533:=0
def tw8545501016511905785:=0
def tw11961542615517034775:=0
def tw6278409723853278827:=0
def tw17855183783304530622:=0
def tw10173438688137690879:=0
def tw2441651149412616041:=0
def tw17489505504164116255:=0
def tw15647043577238349149:=0
def tw1057060409533076961:=0
def tw8089876962332888469:=0
def tw14366491627675579289:=0
def tw2462815467772133386:=0
def tw1384577607678145920:=0
def tw4104259316762377316:=0
def tw241240823169786581:=0
def tw12357941741519022941:=0
def tw9534164545488537604:=0
def tw4829781834373065951:=0
def tw7128021662910045229:=0
def tw15765446046420497107:=0
def tw17996958895033466081:=0
def tw15637287335748450435:=0
def tw2086757258697283791:=0
def tw14973792931637897945:=0
def tw13648712949684826330:=0
def tw9222952842718566941:=0
def tw15472005921301156834:=0
def tw18428100896660450161:=0
def tw16575381885038028217:=0
def tw4725148351973308142:=0
def tw9794214371892443799:=0
end PySem.W.Fast
open PySem PySem.W PyProof.Rows
set_option maxRecDepth 100000 in
set_option maxHeartbeats 0 in
theorem PySem.Challenge.cw_worthkinds_k71_whole_kind_texts_holds : PySem.Challenge.rw_worthkinds_k71_whole_kind_texts.Holds := by
 w_on; o_law; k_head; (case hw=>w_witness2)
 k_fill
 refine G.walk (l:=PySem.Challenge.rw_worthkinds_k71_whole_kind_texts) rfl rfl G.Va ?nl (fun w h Y=>PySem.W.kIn_of Y) ?F
 case nl=>intro p; kernel_rfl
 case F=>
  intro w mg fa h KX G0 hmg
  obtain ⟨a0,d0,C0⟩:∃ a d,G.Fn _ mg "_law_cell" G.s_u ["_law_script","_law_k"] a d:=by
   refine' ⟨_,_,G.fn1 KX G0 ?e ?l ?g ?k (fun F=>F.binds (ps:=["_law_script","_law_k"]) fun _ _ _ _ _ _ us hl=>match us,hl with | [_,_],_=>rfl)⟩
   (case e=>k_is)
   (case l=>k_is)
   (case g=>k_is)
   (case k=>k_is)
  obtain ⟨a1,d1,C1⟩:∃ a d,G.Fn _ mg "_law_pick" G.s_5 ["_law_script","_law_k","_law_many"] a d:=by
   refine' ⟨_,_,G.fn1 KX G0 ?e ?l ?g ?k (fun F=>F.binds (ps:=["_law_script","_law_k","_law_many"]) fun _ _ _ _ _ _ us hl=>match us,hl with | [_,_,_],_=>rfl)⟩
   (case e=>k_is)
   (case l=>k_is)
   (case g=>k_is)
   (case k=>k_is)
  obtain ⟨a2,d2,C2⟩:∃ a d,G.Fn _ mg "_law_word_of" G.s_n ["_law_script","_law_at"] a d:=by
   refine' ⟨_,_,G.fn1 KX G0 ?e ?l ?g ?k (fun F=>F.binds (ps:=["_law_script","_law_at"]) fun _ _ _ _ _ _ us hl=>match us,hl with | [_,_],_=>rfl)⟩
   (case e=>k_is)
   (case l=>k_is)
   (case g=>k_is)
   (case k=>k_is)
  obtain ⟨a3,d3,C3⟩:∃ a d,G.Fn _ mg "_law_leaf_kind" G.s_k ["_law_script","_law_at"] a d:=by
   refine' ⟨_,_,G.fn1 KX G0 ?e ?l ?g ?k (fun F=>F.binds (ps:=["_law_script","_law_at"]) fun _ _ _ _ _ _ us hl=>match us,hl with | [_,_],_=>rfl)⟩
   (case e=>k_is)
   (case l=>k_is)
   (case g=>k_is)
   (case k=>k_is)
  obtain ⟨a4,d4,C4⟩:∃ a d,G.Fn _ mg "_law_kind" G.s_1 ["_law_script","_law_at","_law_deep"] a d:=by
   refine' ⟨_,_,G.fn1 KX G0 ?e ?l ?g ?k (fun F=>F.binds (ps:=["_law_script","_law_at","_law_deep"]) fun _ _ _ _ _ _ us hl=>match us,hl with | [_,_,_],_=>rfl)⟩
   (case e=>k_is)
   (case l=>k_is)
   (case g=>k_is)
   (case k=>k_is)
  obtain ⟨a5,d5,C5⟩:∃ a d,G.Fn _ mg "_law_kind_text" G.s_7 ["_law_kind_here"] a d:=by
   refine' ⟨_,_,G.fn1 KX G0 ?e ?l ?g ?k (fun F=>F.binds (ps:=["_law_kind_here"]) fun _ _ _ _ _ _ us hl=>match us,hl with | [_],_=>rfl)⟩
   (case e=>k_is)
   (case l=>k_is)
   (case g=>k_is)
   (case k=>k_is)
  obtain ⟨a6,d6,C6⟩:∃ a d,G.Fn _ mg "need_text" G.s_v ["thing"] a d:=by
   refine' ⟨_,_,G.fn1 KX G0 ?e ?l ?g ?k (fun F=>F.binds (ps:=["thing"]) fun _ _ _ _ _ _ us hl=>match us,hl with | [_],_=>rfl)⟩
   (case e=>k_is)
   (case l=>k_is)
   (case g=>k_is)
   (case k=>k_is)
  obtain ⟨a7,d7,C7⟩:∃ a d,G.Fn _ mg "pieces_between" G.s_f ["text","mark"] a d:=by
   refine' ⟨_,_,G.fn1 KX G0 ?e ?l ?g ?k (fun F=>F.binds (ps:=["text","mark"]) fun _ _ _ _ _ _ us hl=>match us,hl with | [_,_],_=>rfl)⟩
   (case e=>k_is)
   (case l=>k_is)
   (case g=>k_is)
   (case k=>k_is)
  obtain ⟨a8,d8,C8⟩:∃ a d,G.Fn _ mg "number_in" G.s_b ["text"] a d:=by
   refine' ⟨_,_,G.fn1 KX G0 ?e ?l ?g ?k (fun F=>F.binds (ps:=["text"]) fun _ _ _ _ _ _ us hl=>match us,hl with | [_],_=>rfl)⟩
   (case e=>k_is)
   (case l=>k_is)
   (case g=>k_is)
   (case k=>k_is)
  obtain ⟨a9,d9,C9⟩:∃ a d,G.Fn _ mg "span_in" G.s_i ["text"] a d:=by
   refine' ⟨_,_,G.fn1 KX G0 ?e ?l ?g ?k (fun F=>F.binds (ps:=["text"]) fun _ _ _ _ _ _ us hl=>match us,hl with | [_],_=>rfl)⟩
   (case e=>k_is)
   (case l=>k_is)
   (case g=>k_is)
   (case k=>k_is)
  obtain ⟨a10,d10,C10⟩:∃ a d,G.Fn _ mg "text_inside" G.s_g ["text","opening","closing"] a d:=by
   refine' ⟨_,_,G.fn1 KX G0 ?e ?l ?g ?k (fun F=>F.binds (ps:=["text","opening","closing"]) fun _ _ _ _ _ _ us hl=>match us,hl with | [_,_,_],_=>rfl)⟩
   (case e=>k_is)
   (case l=>k_is)
   (case g=>k_is)
   (case k=>k_is)
  obtain ⟨a11,d11,C11⟩:∃ a d,G.Fn _ mg "choice_in" G.s_o ["text"] a d:=by
   refine' ⟨_,_,G.fn1 KX G0 ?e ?l ?g ?k (fun F=>F.binds (ps:=["text"]) fun _ _ _ _ _ _ us hl=>match us,hl with | [_],_=>rfl)⟩
   (case e=>k_is)
   (case l=>k_is)
   (case g=>k_is)
   (case k=>k_is)
  obtain ⟨a12,d12,C12⟩:∃ a d,G.Fn _ mg "kind_in" G.s_8 ["text","levels"] a d:=by
   refine' ⟨_,_,G.fn1 KX G0 ?e ?l ?g ?k (fun F=>F.binds (ps:=["text","levels"]) fun _ _ _ _ _ _ us hl=>match us,hl with | [_,_],_=>rfl)⟩
   (case e=>k_is)
   (case l=>k_is)
   (case g=>k_is)
   (case k=>k_is)
  obtain ⟨a13,d13,C13⟩:∃ a d,G.Fn _ mg "is_whole" G.s_d ["thing"] a d:=by
   refine' ⟨_,_,G.fn1 KX G0 ?e ?l ?g ?k (fun F=>F.binds (ps:=["thing"]) fun _ _ _ _ _ _ us hl=>match us,hl with | [_],_=>rfl)⟩
   (case e=>k_is)
   (case l=>k_is)
   (case g=>k_is)
   (case k=>k_is)
  obtain ⟨a14,d14,C14⟩:∃ a d,G.Fn _ mg "is_span" G.s_s ["low","high","least","most"] a d:=by
   refine' ⟨_,_,G.fn1 KX G0 ?e ?l ?g ?k (fun F=>F.binds (ps:=["low","high","least","most"]) fun _ _ _ _ _ _ us hl=>match us,hl with | [_,_,_,_],_=>rfl)⟩
   (case e=>k_is)
   (case l=>k_is)
   (case g=>k_is)
   (case k=>k_is)
  obtain ⟨a15,d15,C15⟩:∃ a d,G.Fn _ mg "is_tuple_of" G.s_a ["thing","least","most"] a d:=by
   refine' ⟨_,_,G.fn1 KX G0 ?e ?l ?g ?k (fun F=>F.binds (ps:=["thing","least","most"]) fun _ _ _ _ _ _ us hl=>match us,hl with | [_,_,_],_=>rfl)⟩
   (case e=>k_is)
   (case l=>k_is)
   (case g=>k_is)
   (case k=>k_is)
  obtain ⟨a16,d16,C16⟩:∃ a d,G.Fn _ mg "is_word" G.s_q ["thing"] a d:=by
   refine' ⟨_,_,G.fn1 KX G0 ?e ?l ?g ?k (fun F=>F.binds (ps:=["thing"]) fun _ _ _ _ _ _ us hl=>match us,hl with | [_],_=>rfl)⟩
   (case e=>k_is)
   (case l=>k_is)
   (case g=>k_is)
   (case k=>k_is)
  obtain ⟨a17,d17,C17⟩:∃ a d,G.Fn _ mg "is_choice" G.s_p ["thing"] a d:=by
   refine' ⟨_,_,G.fn1 KX G0 ?e ?l ?g ?k (fun F=>F.binds (ps:=["thing"]) fun _ _ _ _ _ _ us hl=>match us,hl with | [_],_=>rfl)⟩
   (case e=>k_is)
   (case l=>k_is)
   (case g=>k_is)
   (case k=>k_is)
  obtain ⟨a18,d18,C18⟩:∃ a d,G.Fn _ mg "are_choices" G.s_m ["thing"] a d:=by
   refine' ⟨_,_,G.fn1 KX G0 ?e ?l ?g ?k (fun F=>F.binds (ps:=["thing"]) fun _ _ _ _ _ _ us hl=>match us,hl with | [_],_=>rfl)⟩
   (case e=>k_is)
   (case l=>k_is)
   (case g=>k_is)
   (case k=>k_is)
  obtain ⟨a19,d19,C19⟩:∃ a d,G.Fn _ mg "is_kind_within" G.s_6 ["thing","levels"] a d:=by
   refine' ⟨_,_,G.fn1 KX G0 ?e ?l ?g ?k (fun F=>F.binds (ps:=["thing","levels"]) fun _ _ _ _ _ _ us hl=>match us,hl with | [_,_],_=>rfl)⟩
   (case e=>k_is)
   (case l=>k_is)
   (case g=>k_is)
   (case k=>k_is)
  obtain ⟨a20,d20,C20⟩:∃ a d,G.Fn _ mg "are_kinds_within" G.s_t ["thing","levels"] a d:=by
   refine' ⟨_,_,G.fn1 KX G0 ?e ?l ?g ?k (fun F=>F.binds (ps:=["thing","levels"]) fun _ _ _ _ _ _ us hl=>match us,hl with | [_,_],_=>rfl)⟩
   (case e=>k_is)
   (case l=>k_is)
   (case g=>k_is)
   (case k=>k_is)
  obtain ⟨a21,d21,C21⟩:∃ a d,G.Fn _ mg "is_kind" G.s_2 ["thing"] a d:=by
   refine' ⟨_,_,G.fn1 KX G0 ?e ?l ?g ?k (fun F=>F.binds (ps:=["thing"]) fun _ _ _ _ _ _ us hl=>match us,hl with | [_],_=>rfl)⟩
   (case e=>k_is)
   (case l=>k_is)
   (case g=>k_is)
   (case k=>k_is)
  obtain ⟨a22,d22,C22⟩:∃ a d,G.Fn _ mg "read_kind" G.s_c ["text"] a d:=by
   refine' ⟨_,_,G.fn1 KX G0 ?e ?l ?g ?k (fun F=>F.binds (ps:=["text"]) fun _ _ _ _ _ _ us hl=>match us,hl with | [_],_=>rfl)⟩
   (case e=>k_is)
   (case l=>k_is)
   (case g=>k_is)
   (case k=>k_is)
  obtain ⟨a23,d23,C23⟩:∃ a d,G.Fn _ mg "need_kind" G.s_h ["kind"] a d:=by
   refine' ⟨_,_,G.fn1 KX G0 ?e ?l ?g ?k (fun F=>F.binds (ps:=["kind"]) fun _ _ _ _ _ _ us hl=>match us,hl with | [_],_=>rfl)⟩
   (case e=>k_is)
   (case l=>k_is)
   (case g=>k_is)
   (case k=>k_is)
  obtain ⟨a24,d24,C24⟩:∃ a d,G.Fn _ mg "span_written" G.s_l ["low","high"] a d:=by
   refine' ⟨_,_,G.fn1 KX G0 ?e ?l ?g ?k (fun F=>F.binds (ps:=["low","high"]) fun _ _ _ _ _ _ us hl=>match us,hl with | [_,_],_=>rfl)⟩
   (case e=>k_is)
   (case l=>k_is)
   (case g=>k_is)
   (case k=>k_is)
  obtain ⟨a25,d25,C25⟩:∃ a d,G.Fn _ mg "kind_written" G.s_9 ["kind"] a d:=by
   refine' ⟨_,_,G.fn1 KX G0 ?e ?l ?g ?k (fun F=>F.binds (ps:=["kind"]) fun _ _ _ _ _ _ us hl=>match us,hl with | [_],_=>rfl)⟩
   (case e=>k_is)
   (case l=>k_is)
   (case g=>k_is)
   (case k=>k_is)
  obtain ⟨a26,d26,C26⟩:∃ a d,G.Fn _ mg "kind_text" G.s_3 ["kind"] a d:=by
   refine' ⟨_,_,G.fn1 KX G0 ?e ?l ?g ?k (fun F=>F.binds (ps:=["kind"]) fun _ _ _ _ _ _ us hl=>match us,hl with | [_],_=>rfl)⟩
   (case e=>k_is)
   (case l=>k_is)
   (case g=>k_is)
   (case k=>k_is)
  obtain ⟨a27,d27,C27⟩:∃ a d,G.Fn _ mg "count_of" G.s_4 ["kind"] a d:=by
   refine' ⟨_,_,G.fn1 KX G0 ?e ?l ?g ?k (fun F=>F.binds (ps:=["kind"]) fun _ _ _ _ _ _ us hl=>match us,hl with | [_],_=>rfl)⟩
   (case e=>k_is)
   (case l=>k_is)
   (case g=>k_is)
   (case k=>k_is)
  obtain ⟨a28,d28,C28⟩:∃ a d,G.Fn _ mg "count_of_parts" G.s_e ["kinds"] a d:=by
   refine' ⟨_,_,G.fn1 KX G0 ?e ?l ?g ?k (fun F=>F.binds (ps:=["kinds"]) fun _ _ _ _ _ _ us hl=>match us,hl with | [_],_=>rfl)⟩
   (case e=>k_is)
   (case l=>k_is)
   (case g=>k_is)
   (case k=>k_is)
  obtain ⟨a29,d29,C29⟩:∃ a d,G.Fn _ mg "count_shorter" G.s_r ["kind","length"] a d:=by
   refine' ⟨_,_,G.fn1 KX G0 ?e ?l ?g ?k (fun F=>F.binds (ps:=["kind","length"]) fun _ _ _ _ _ _ us hl=>match us,hl with | [_,_],_=>rfl)⟩
   (case e=>k_is)
   (case l=>k_is)
   (case g=>k_is)
   (case k=>k_is)
  obtain ⟨a30,d30,C30⟩:∃ a d,G.Fn _ mg "how_many" G.s_j ["kind"] a d:=by
   refine' ⟨_,_,G.fn1 KX G0 ?e ?l ?g ?k (fun F=>F.binds (ps:=["kind"]) fun _ _ _ _ _ _ us hl=>match us,hl with | [_],_=>rfl)⟩
   (case e=>k_is)
   (case l=>k_is)
   (case g=>k_is)
   (case k=>k_is)
  obtain ⟨a31,d31,C31,hB⟩:∃ a d,G.Fn _ mg "law" G.s_0 ["_law_script"] a d/\∀ (s:PySem.Shared) (v:PySem.Value),BindsTo s d ⟨[v],[]⟩ [("_law_script",v)]:=by
   refine' ⟨_,_,G.fn1 KX G0 ?e ?l ?g ?k (fun F=>F.binds (ps:=["_law_script"]) fun _ _ _ _ _ _ us hl=>match us,hl with | [_],_=>rfl),fun s v=> .of_eq rfl⟩
   (case e=>k_is)
   (case l=>k_is)
   (case g=>k_is)
   (case k=>k_is)
  refine' G.fin_ KX G0 hmg ⟨a0,d0,C0,a1,d1,C1,a2,d2,C2,a3,d3,C3,a4,d4,C4,a5,d5,C5,a6,d6,C6,a7,d7,C7,a8,d8,C8,a9,d9,C9,a10,d10,C10,a11,d11,C11,a12,d12,C12,a13,d13,C13,a14,d14,C14,a15,d15,C15,a16,d16,C16,a17,d17,C17,a18,d18,C18,a19,d19,C19,a20,d20,C20,a21,d21,C21,a22,d22,C22,a23,d23,C23,a24,d24,C24,a25,d25,C25,a26,d26,C26,a27,d27,C27,a28,d28,C28,a29,d29,C29,a30,d30,C30,a31,d31,C31,PySem.W.mg_none_of KX G0 (by k_is),PySem.W.mg_none_of KX G0 (by k_is),PySem.W.mg_none_of KX G0 (by k_is),PySem.W.mg_none_of KX G0 (by k_is),PySem.W.mg_none_of KX G0 (by k_is),PySem.W.mg_none_of KX G0 (by k_is),PySem.W.mg_none_of KX G0 (by k_is),PySem.W.mg_none_of KX G0 (by k_is),PySem.W.mg_none_of KX G0 (by k_is),PySem.W.mg_none_of KX G0 (by k_is),PySem.W.mg_none_of KX G0 (by k_is),PySem.W.mg_none_of KX G0 (by k_is),⟨_,PySem.W.mg_of KX G0 (by k_is),_,rfl⟩,⟨_,PySem.W.mg_of KX G0 (by k_is),_,rfl⟩⟩ hB
