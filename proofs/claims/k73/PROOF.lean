import PyProof.Rows.All
import Wide.All
import OpenK.AllK
import Wide.FinOn
import Lean
import PyProof.EqAt
import PyProof.EqKinds
import PyProof.TupleCall
import PyProof.NeKinds
import PyProof.WalksEnum
import PyProof.StrWalks
import PyProof.ExcAttrAll.ValueError
import PyProof.ZipIter
import KE.KRevIter
import PyProof.ListNew
import PyProof.WalksMore
import PyProof.ReprLoop
import PyProof.FactsAll.list
import PyProof.CollectIter
import PyProof.TupleOfGen
import PyProof.Draws
import PyProof.EnumMake
import PyProof.SeqI3
import KE.KMinBuiltin
import PyProof.SetRoads
import PyProof.CollectWalk
import KE.KDictSum
import PyProof.AttrMiss
import PyProof.IsiH_tuple
import KE.KDictOf
import PyProof.FitsBits
import PyProof.SliceList
import PyProof.InstFacts
import PyProof.Rows.StrNews2
import PyProof.StrBlockH
import PyProof.CallStr
import KE.KIntText
import PyProof.StrLawsTight
import PyProof.StrLawsLast
import PyProof.StrLawsNeg
import PyProof.Rows.StrItems
import PySem.Challenge.RW_worthkinds_k73_whole_rule_texts
noncomputable section
set_option maxHeartbeats 4000000
set_option Elab.async false
set_option linter.all false
set_option maxRecDepth 100000
namespace L2
open PySem PySem.Spec PyProof.Rows
abbrev Key:=Sum Int Str
def xi:Key->Value->Bool
 | .inl k,v=>Value.isInt k v
 | .inr x,v=>Value.isStrOf x v
def keyH (w:World):Key->Int
 | .inl k=>hashInt k
 | .inr x=>hashStr w x
theorem Z4:∀ {k:Key} {v:Value},xi k v=true->(∃ i t,k=Sum.inl i/\v=Value.int i t)\/(∃ x t,k=Sum.inr x/\v=Value.str x t)
 | .inl i,v,h=>by
  obtain ⟨t,e⟩:=Value.isInt_shape (k:=i) (v:=v) h
  exact .inl ⟨i,t,rfl,e⟩
 | .inr x,v,h=>by
  obtain ⟨t,e⟩:=Value.isStrOf_shape (x:=x) (v:=v) h
  exact .inr ⟨x,t,rfl,e⟩
theorem xj (a b:Int):decide ((Sum.inl a:Key)=Sum.inl b)=(a == b):=by
 by_cases e:a=b
 ·subst e; simp
 ·have h:¬ (Sum.inl a:Key)=Sum.inl b:=fun q=>e (Sum.inl.inj q)
  rw [decide_eq_false h]
  exact (beq_eq_false_iff_ne.mpr e).symm
theorem xk (a b:Str):decide ((Sum.inr a:Key)=Sum.inr b)=decide (a=b):=by
 by_cases e:a=b
 ·subst e; simp
 ·have h:¬ (Sum.inr a:Key)=Sum.inr b:=fun q=>e (Sum.inr.inj q)
  rw [decide_eq_false h,decide_eq_false e]
theorem xl (a:Int) (b:Str):decide ((Sum.inl a:Key)=Sum.inr b)=false:=decide_eq_false (fun q=>nomatch q)
theorem xm (a:Str) (b:Int):decide ((Sum.inr a:Key)=Sum.inl b)=false:=decide_eq_false (fun q=>nomatch q)
def WW (prog:Program) (w:World):PySem.KeyKind prog w Key where
 is:=xi
 hash:=keyH w
 inj:=fun v a b ha hb=>by
  rcases Z4 ha with ⟨i,t,rfl,rfl⟩ | ⟨x,t,rfl,rfl⟩
  ·rcases Z4 hb with ⟨j,u,rfl,e⟩ | ⟨y,u,rfl,e⟩
   ·injection e with e1 _; rw [e1]
   ·exact nomatch e
  ·rcases Z4 hb with ⟨j,u,rfl,e⟩ | ⟨y,u,rfl,e⟩
   ·exact nomatch e
   ·injection e with e1 _; rw [e1]
 byValue:=fun k v h=>by
  rcases Z4 h with ⟨i,t,rfl,rfl⟩ | ⟨x,t,rfl,rfl⟩ <;> rfl
 pyHash:=fun hv h=>by
  rcases Z4 hv with ⟨i,t,rfl,rfl⟩ | ⟨x,t,rfl,rfl⟩
  ·exact wpAny_pyHash_int h
  ·exact wpAny_pyHash_str h
 eqBool:=fun hu hv h=>by
  rcases Z4 hu with ⟨i,t,rfl,rfl⟩ | ⟨x,t,rfl,rfl⟩
  ·rcases Z4 hv with ⟨j,u,rfl,rfl⟩ | ⟨y,u,rfl,rfl⟩
   ·rw [xj] at h; exact wpAny_eqBool_int h
   ·rw [xl] at h; exact SeqAt.EqAt.int_str i t y u _ _ _ _ h
  ·rcases Z4 hv with ⟨j,u,rfl,rfl⟩ | ⟨y,u,rfl,rfl⟩
   ·rw [xm] at h; exact SeqAt.EqAt.str_int x t j u _ _ _ _ h
   ·rw [xk] at h; exact wpAny_eqBool_str h
 «strs»:=fun k x t v h=>by
  rcases Z4 h with ⟨i,u,rfl,e⟩ | ⟨y,u,rfl,e⟩
  ·exact nomatch e
  ·injection e with e1 _
   subst e1
   cases v <;> rfl
end L2
namespace L2
open PySem PySem.Spec PyProof.Rows
inductive V where
 | non | bl (b:Bool) | int (i:Int) | str (x:Str) | byt (b:Array UInt8) | flt (b:UInt64) | ref (a:Addr) | ty (n:String)
 deriving DecidableEq
def Zx:V->Value->Prop
 | .non,u=>u=Value.none
 | .bl b,u=>u=Value.bool b
 | .int i,u=>∃ t,u=Value.int i t
 | .str x,u=>∃ t,u=Value.str x t
 | .byt b,u=>∃ t,u=Value.bytes b t
 | .flt b,u=>∃ t,u=Value.float b t
 | .ref a,u=>u=Value.ref a
 | .ty n,u=>u=Value.type n
abbrev Ze:List V->List Value->Prop:=Paired Zx
theorem Ze.length {xs:List V} {us:List Value} (r:Ze xs us):xs.length=us.length:=Paired.length r
theorem Ze.get:∀ {xs:List V} {us:List Value} {i:Nat} {x:V},Ze xs us->xs[i]? =some x->∃ u,us[i]? =some u/\Zx x u
 | _,_,_,_, .nil,e=>by simp at e
 | _,_,0,_, .cons r _,e=>by simp at e; subst e; exact ⟨_,rfl,r⟩
 | _,_,i+1,x, .cons _ t,e=>by
  obtain ⟨u,h1,h2⟩:=Ze.get (i:=i) (x:=x) t (by simpa using e)
  exact ⟨u,by simpa using h1,h2⟩
theorem Ze.append:∀ {xs ys:List V} {us ws:List Value},Ze xs us->Ze ys ws->Ze (xs++ys) (us++ws)
 | _,_,_,_, .nil,s=>s
 | _,_,_,_, .cons r t,s=> .cons r (Ze.append t s)
theorem Ze.take:∀ {xs:List V} {us:List Value} (n:Nat),Ze xs us->Ze (xs.take n) (us.take n)
 | _,_,0,_=> .nil
 | _,_,_+1, .nil=> .nil
 | _,_,n+1, .cons r t=> .cons r (Ze.take n t)
theorem Ze.drop:∀ {xs:List V} {us:List Value} (n:Nat),Ze xs us->Ze (xs.drop n) (us.drop n)
 | _,_,0,r=>r
 | _,_,_+1, .nil=> .nil
 | _,_,n+1, .cons _ t=>Ze.drop n t
def Ka:Option V->Option Value->Prop
 | some v,some u=>Zx v u
 | none,none=>True
 | _,_=>False
def KV {κ:Type}:List (κ×V)->List (κ×Value)->Prop:=Paired fun (p:κ×V) (q:κ×Value)=>p.1=q.1/\Zx p.2 q.2
def kV:Key->V
 | .inl i=> .int i
 | .inr x=> .str x
inductive HO where
 | lst (xs:List V)
 | tup (xs:List V)
 | dK (kvs:List (Key×V)) | dT (kvs:List (List Key×V))
 | set (S:Int->Bool) (n:Nat)
 | ins (C dx:Addr) (fs:List (Str×V))
 | own (x:Addr)
 | xd (fs:List (Str×V))
 | met (f x:Addr)
 | rng (lo hi:Int)
 | frz (o:Obj) (u:HO)
 | tbl (ps:Array Value)
 | ext (φ:Heap->Prop)
abbrev Hp:=Addr->Option HO
def upd (H:Hp) (a:Addr) (o:HO):Hp:=fun b=>if b=a then some o else H b
theorem Zb {H:Hp} {a:Addr} {o:HO}:upd H a o a=some o:=by unfold upd; rw [if_pos rfl]
theorem zH {H:Hp} {a b:Addr} {o:HO} (h:b ≠ a):upd H a o b=H b:=by unfold upd; rw [if_neg h]
theorem zV {H:Hp} {a b:Addr} {o:HO} (h:H a=some o) (h' :H b=none):a ≠ b:=by
 intro e; subst e; rw [h] at h'; cases h'
def ITN (h:Heap) (a:Addr) (its:Array Value):Prop:=IsTup h a its/\((∃ i t,its[0]? =some (Value.int i t))\/∃ o,h.get? a=some o/\o.dict=none)
theorem ITN.new (h:Heap) (its:Array Value):ITN (h.push { cls:= .type "tuple",data:= .seq its }) h.objs.size its:=⟨IsTup.new h its, .inr ⟨_,Heap.get?_push_size _ rfl,rfl⟩⟩
section
variable (P:Program) (w:World)
def ZF (H:Hp) (h:Heap) (a:Addr):HO->Prop
 | .lst xs=>xs.length<=sizeLine/\∃ (its:List Value) (n:Nat),Ze xs its/\h.get? a=some { cls:= .type "list",data:= .seq its.toArray n }
 | .tup xs=>xs.length<=sizeLine/\∃ its:List Value,Ze xs its/\ITN h a its.toArray
 | .dK kvs=>kvs.length<=sizeLine/\(a == sysModules)=false/\∃ vs,KV kvs vs/\h.DictOf (WW P w) a vs
 | .dT kvs=>kvs.length<=sizeLine/\(a == sysModules)=false/\∃ xs:List (List Key×Addr×Value),
   Paired (fun (p:List Key×V) (q:List Key×Addr×Value)=>p.1=q.1/\H q.2.1=some (.tup (p.1.map kV))/\Zx p.2 q.2.2) kvs xs/\
   ∃ o es ep,h.get? a=some o/\o.ExactDict/\o.data= .dict es ep/\es.toList=xs.map (entryOfKey (tupleKind (WW P w)))/\(xs.map (·.1)).Nodup
 | .set S n=>h.SetOf (intKind P w) a S n
 | .ins C dx fs=>H dx=some (.own a)/\fs.length<=1000/\dx ≠ a/\h.get? a=some (PySem.W.instObj C dx)/\
   ∃ mA,h.Ns1 dx mA/\(∀ f,Ka (fs.lookup f) (mA f))/\PySem.Within mA (fs.map (·.1))
 | .own _=>∃ o,h.get? a=some o
 | .xd fs=>∃ mA,h.Ns1 a mA/\∀ f,Ka (fs.lookup f) (mA f)
 | .rng lo hi=>∃ t u v,h.get? a=some { cls:= .type "range",data:= .fields #[.int lo t, .int hi u, .int 1 v] }
 | .frz o u=>h.get? a=some o/\ZF H h a u
 | .tbl ps=>h.get? a=some { cls:= .none,data:= .fields ps }
 | .met f x=>h.get? a=some (PySem.W.methodObj (.ref f) (.ref x))
 | .ext φ=>φ h/\(∃ o,h.get? a=some o)/\∀ h1 h2:Heap,φ h1->(∀ o,h1.get? a=some o->h2.get? a=some o)->φ h2
def HOk (H:Hp) (h:Heap):Prop:=∀ a o,H a=some o->ZF P w H h a o
end
section
variable {P:Program} {w:World} {H H' :Hp} {h h' :Heap} {a:Addr} {o:HO}
theorem ZF.lt (x:ZF P w H h a o):a < h.objs.size:=by
 cases o with
 | lst xs=>obtain ⟨_,_,_,_,e⟩:=x; exact Heap.lt_size e
 | tup xs=>obtain ⟨_,_,_,p,_⟩:=x; exact p.lt
 | dK kvs=>obtain ⟨_,_,_,_,o,_,_,e,_⟩:=x; exact Heap.lt_size e
 | dT kvs=>obtain ⟨_,_,_,_,o,_,_,e,_⟩:=x; exact Heap.lt_size e
 | set S n=>obtain ⟨o,_,_,_,e,_⟩:=x; exact Heap.lt_size e
 | ins C dx fs=>obtain ⟨_,_,_,e,_⟩:=x; exact Heap.lt_size e
 | own y=>obtain ⟨_,e⟩:=x; exact Heap.lt_size e
 | xd fs=>obtain ⟨_,⟨_,_,_,e,_⟩,_⟩:=x; exact Heap.lt_size e
 | rng lo hi=>obtain ⟨_,_,_,e⟩:=x; exact Heap.lt_size e
 | frz ob u=>obtain ⟨e,_⟩:=x; exact Heap.lt_size e
 | tbl ps=>exact Heap.lt_size (show h.get? a=some _ from x)
 | met f y=>exact Heap.lt_size (show h.get? a=some _ from x)
 | ext φ=>obtain ⟨_,⟨_,e⟩,_⟩:=x; exact Heap.lt_size e
theorem Paired.mapP {α β:Type} {F G:α->β->Prop}:∀ {l₁:List α} {l₂:List β},Paired F l₁ l₂->(∀ a b,F a b->G a b)->Paired G l₁ l₂
 | _,_, .nil,_=> .nil
 | _,_, .cons r t,f=> .cons (f _ _ r) (Paired.mapP t f)
theorem ZF.stay (x:ZF P w H h a o) (k:∀ b u,(b=a\/H b=some (.own a))->h.get? b=some u->h'.get? b=some u)
  (ho:∀ b,H b=some (.own a)->H' b=some (.own a)) (ht:∀ b xs,H b=some (.tup xs)->H' b=some (.tup xs)):ZF P w H' h' a o:=by
 induction o with
 | lst xs=>obtain ⟨z,its,n,r,e⟩:=x; exact ⟨z,its,n,r,k _ _ (.inl rfl) e⟩
 | tup xs=>obtain ⟨z,its,r,⟨ob,e,c⟩,q⟩:=x; exact ⟨z,its,r,⟨ob,k _ _ (.inl rfl) e,c⟩,q.imp id fun ⟨o2,e2,d2⟩=>⟨o2,k _ _ (.inl rfl) e2,d2⟩⟩
 | dK kvs=>obtain ⟨z,y,vs,r,ob,es,ep,e,c⟩:=x; exact ⟨z,y,vs,r,ob,es,ep,k _ _ (.inl rfl) e,c⟩
 | dT kvs=>
  obtain ⟨z,y,xs,r,ob,es,ep,e,c⟩:=x
  exact ⟨z,y,xs,Paired.mapP r fun p q z=>⟨z.1,ht _ _ z.2.1,z.2.2⟩,ob,es,ep,k _ _ (.inl rfl) e,c⟩
 | set S n=>obtain ⟨ob,es,ep,t,e,c⟩:=x; exact ⟨ob,es,ep,t,k _ _ (.inl rfl) e,c⟩
 | ins C dx fs=>
  obtain ⟨d,z,ne,e,mA,⟨od,es,ep,e2,c⟩,r⟩:=x
  exact ⟨ho _ d,z,ne,k _ _ (.inl rfl) e,mA,⟨od,es,ep,k _ _ (.inr d) e2,c⟩,r⟩
 | own y=>obtain ⟨ob,e⟩:=x; exact ⟨ob,k _ _ (.inl rfl) e⟩
 | xd fs=>obtain ⟨mA,⟨od,es,ep,e,c⟩,r⟩:=x; exact ⟨mA,⟨od,es,ep,k _ _ (.inl rfl) e,c⟩,r⟩
 | rng lo hi=>obtain ⟨t,u,v,e⟩:=x; exact ⟨t,u,v,k _ _ (.inl rfl) e⟩
 | frz ob u ih=>obtain ⟨e,q⟩:=x; exact ⟨k _ _ (.inl rfl) e,ih q⟩
 | tbl ps=>
  have e:h.get? a=some { cls:= .none,data:= .fields ps }:=x
  show h'.get? a=some { cls:= .none,data:= .fields ps }
  exact k a _ (.inl rfl) e
 | met f y=>
  have e:h.get? a=some (PySem.W.methodObj (.ref f) (.ref y)):=x
  show h'.get? a=some (PySem.W.methodObj (.ref f) (.ref y))
  exact k a _ (.inl rfl) e
 | ext φ=>obtain ⟨p,⟨o,e⟩,st⟩:=x; exact ⟨st _ _ p fun o q=>k _ _ (.inl rfl) q,⟨o,k _ _ (.inl rfl) e⟩,st⟩
theorem HOk.lt (x:HOk P w H h) (e:H a=some o):a < h.objs.size:=(x a o e).lt
theorem HOk.fresh (x:HOk P w H h) (e:h.objs.size<=a):H a=none:=by
 cases q:H a with
 | none=>rfl
 | some u=>exact absurd (Nat.lt_of_lt_of_le (x.lt q) e) (Nat.lt_irrefl _)
theorem HOk.kept (x:HOk P w H h) (k:∀ b u,h.get? b=some u->h'.get? b=some u):HOk P w H h' :=fun a o e=>
 (x a o e).stay (fun b u _ q=>k b u q) (fun _ q=>q) fun _ _ q=>q
theorem HOk.laid (x:HOk P w H h) (k:∀ b u,h.get? b=some u->h'.get? b=some u) (hp:h.objs.size<=a) (new:ZF P w (upd H a o) h' a o):HOk P w (upd H a o) h' :=fun b u e=>by
 have hn:=x.fresh hp
 by_cases hb:b=a
 ·subst hb; rw [Zb] at e; cases e; exact new
 ·rw [zH hb] at e
  exact (x b u e).stay (fun c v _ q=>k c v q) (fun c q=>by rw [zH (zV q hn)]; exact q) fun c xs q=>by rw [zH (zV q hn)]; exact q
end
def Rd (H:Hp) (a:Addr) (u:HO):Prop:=H a=some u\/∃ o,H a=some (.frz o u)
theorem Rd.ok {P:Program} {w:World} {H:Hp} {h:Heap} {a:Addr} {u:HO} (r:Rd H a u) (x:HOk P w H h):ZF P w H h a u:=by
 rcases r with r | ⟨o,r⟩
 ·exact x a u r
 ·obtain ⟨_,q⟩:=x a _ r
  exact q
def Mut:Option HO->Prop
 | some (.lst _)=>True
 | some (.dK _)=>True
 | some (.dT _)=>True
 | some (.set _ _)=>True
 | some (.ins _ _ _)=>True
 | some (.ext _)=>True
 | _=>False
section
variable {P:Program} {w:World} {H:Hp} {h h' :Heap} {x e:Addr} {o' :HO}
theorem HOk.write (ok:HOk P w H h) (mu:Mut (H x)) (he:e=x\/H e=some (.own x)) (k:∀ b u,b ≠ e->h.get? b=some u->h'.get? b=some u) (heo:∃ u,h'.get? e=some u)
  (new:ZF P w (upd H x o') h' x o'):HOk P w (upd H x o') h' :=fun b u q=>by
 have nown:∀ c y,H c=some (.own y)->c ≠ x:=fun c y r z=>by subst z; rw [r] at mu; exact mu
 have ntup:∀ c xs,H c=some (.tup xs)->c ≠ x:=fun c xs r z=>by subst z; rw [r] at mu; exact mu
 by_cases hb:b=x
 ·subst hb; rw [Zb] at q; cases q; exact new
 ·rw [zH hb] at q
  by_cases hbe:b=e
  ·have q' :H b=some (.own x):=by
    rcases he with z | z
    ·exact absurd (hbe.trans z) hb
    ·rw [hbe]; exact z
   rw [q] at q'; cases q'
   obtain ⟨v,hv⟩:=heo
   exact ⟨v,by rw [hbe]; exact hv⟩
  ·refine (ok b u q).stay (fun c v hc r=>k c v ?_ r) (fun c r=>by rw [zH (nown c b r)]; exact r) fun c xs r=>by rw [zH (ntup c xs r)]; exact r
   rcases hc with rfl | hc
   ·exact hbe
   ·rintro rfl
    rcases he with z | z
    ·exact nown c b hc z
    ·rw [hc] at z; cases z; exact hb rfl
end
structure Un (fs ex:List Addr) (H H' :Hp) (h h' :Heap):Prop where
 keep:∀ b o,h.get? b=some o->H b=none->b ∉ fs->b ∉ ex->h'.get? b=some o
 slot:∀ b o,h.get? b=some o->H b=none->b∈fs->b ∉ ex->∃ sl,h'.get? b=some { o with slots:=sl }
 free:∀ b o,h.get? b=some o->H b=none->b ∉ ex->H' b=none
 there:∀ b o,h.get? b=some o->b ∉ ex->∃ o',h'.get? b=some o'
 tups:∀ b xs,H b=some (.tup xs)->H' b=some (.tup xs)
 frzs:∀ b o u,H b=some (.frz o u)->H' b=some (.frz o u)
 tbls:∀ b ps,H b=some (.tbl ps)->∃ more,H' b=some (.tbl (ps++more))
section
variable {fs fs' ex ex' :List Addr} {H H1 H2:Hp} {h h1 h2 h' :Heap} {a x e:Addr} {o:HO}
theorem Un.any (u:Un fs ex H H1 h h1) {b:Addr} {ob:Obj} (q:h.get? b=some ob) (n:H b=none) (hx:b ∉ ex):∃ sl,h1.get? b=some { ob with slots:=sl }:=by
 by_cases hb:b∈fs
 ·exact u.slot b ob q n hb hx
 ·exact ⟨ob.slots,u.keep b ob q n hb hx⟩
theorem Un.kept (k:∀ b u,h.get? b=some u->h'.get? b=some u):Un fs ex H H h h' :=
 ⟨fun b ob q _ _ _=>k b ob q,fun b ob q _ _ _=>⟨ob.slots,k b ob q⟩,fun _ _ _ n _=>n,fun b ob q _=>⟨ob,k b ob q⟩,fun _ _ q=>q,fun _ _ _ q=>q,fun _ ps q=>⟨#[],by rw [q]; simp⟩⟩
theorem Un.refl:Un fs ex H H h h:=Un.kept fun _ _ q=>q
theorem Un.laid (k:∀ b u,h.get? b=some u->h'.get? b=some u) (hp:h.objs.size<=a) (hn:H a=none):Un fs ex H (upd H a o) h h' where
 keep:=fun b u q _ _ _=>k b u q
 slot:=fun b u q _ _ _=>⟨u.slots,k b u q⟩
 free:=fun b u q n _=>by rw [zH (Nat.ne_of_lt (Nat.lt_of_lt_of_le (Heap.lt_size q) hp))]; exact n
 there:=fun b u q _=>⟨u,k b u q⟩
 tups:=fun b xs q=>by rw [zH (zV q hn)]; exact q
 frzs:=fun b u xs q=>by rw [zH (zV q hn)]; exact q
 tbls:=fun b ps q=>⟨#[],by rw [zH (zV q hn),q]; simp⟩
theorem Un.write (mu:Mut (H x)) (he:e=x\/H e=some (.own x)) (k:∀ b u,b ≠ e->h.get? b=some u->h'.get? b=some u) (heo:∃ u,h'.get? e=some u):Un fs ex H (upd H x o) h h' :=by
 have hx:∀ b,H b=none->b ≠ x:=fun b n z=>by subst z; rw [n] at mu; exact mu
 have hb:∀ b,H b=none->b ≠ e:=fun b n z=>by
  subst z
  rcases he with r | r
  ·exact hx b n r
  ·rw [n] at r; cases r
 have hm:∀ b u,H b=some u->¬ Mut (some u)->b ≠ x:=fun b u q nm z=>by subst z; rw [q] at mu; exact nm mu
 refine ⟨fun b u q n _ _=>k b u (hb b n) q,fun b u q n _ _=>⟨u.slots,k b u (hb b n) q⟩,fun b u q n _=>by rw [zH (hx b n)]; exact n,fun b u q _=> ?_,
  fun b xs q=>by rw [zH (hm b _ q fun z=>z)]; exact q,fun b u xs q=>by rw [zH (hm b _ q fun z=>z)]; exact q,fun b ps q=>⟨#[],by rw [zH (hm b _ q fun z=>z),q]; simp⟩⟩
 by_cases hbe:b=e
 ·subst hbe; exact heo
 ·exact ⟨u,k b u hbe q⟩
end
def trk (h:Heap) (H:Hp):List Addr:=(List.range h.objs.size).filter fun a=>(H a).isSome
def qc (h:Heap) (H:Hp):Heap:=PySem.W.hideAll h (trk h H)
theorem UT (h:Heap) (H:Hp):(qc h H).objs.size=h.objs.size:=PySem.W.hideAll_size _ _
theorem qd {h:Heap} {H:Hp} {b:Addr} {o:Obj} (e:h.get? b=some o) (n:H b=none):(qc h H).get? b=some o:=
 PySem.W.hideAll_get _ e fun hm=>by
  have q:(H b).isSome=true:=(List.mem_filter.mp hm).2
  rw [n] at q; simp at q
theorem va {h:Heap} {H:Hp} {b:Addr} {o:Obj} (e:(qc h H).get? b=some o):h.get? b=some o/\H b=none:=by
 have e' :h.get? b=some o:=PySem.W.of_hideAll (trk h H) e
 refine ⟨e', ?_⟩
 cases q:H b with
 | none=>rfl
 | some x=>
  have hm:b∈trk h H:=List.mem_filter.mpr ⟨List.mem_range.mpr (Heap.lt_size e'),by simp [q]⟩
  have z:(qc h H).get? b=none:=PySem.W.hideAll_none (trk h H) hm
  rw [z] at e; cases e
end L2
namespace L2
open PySem PySem.Spec PyProof.Rows
structure Mod (K:PySem.W.Frag) (mg:Str->Option Value) (base:Heap):Prop where
 kin:K.In base
 glob:base.Ns mainGlobals mg
 blt:∃ mb,base.Ns builtinsNs mb/\∀ x:Str,x ≠ "__name__"->mb x=bootBuiltins x
 nolimit:base.NoLimit
structure Cx where
 prog:Program
 w:World
 K:PySem.W.Frag
 mg:Str->Option Value
 base:Heap
 A:Around
 N:List Str
 s₀:Shared
 H₀:Hp
 env:Env
 outer:List Env
 stack:List Env
 ex:List Addr
 fn:Str->Bool
 calm:Bool
 pn:List (Addr×Obj)
 xe:Value->Shared->Prop
def frs (l:List Env):List Addr:=l.filterMap (·.frame)
abbrev Cx.fs (X:Cx):List Addr:=frs X.outer
def Vis (sc:Scope) (x:Str):Prop:=sc.names.lookup x=some .local\/sc.names.lookup x=some .cell\/sc.names.lookup x=some .free
def Loc (sc:Scope) (x:Str):Prop:=sc.names.lookup x=some .local\/sc.names.lookup x=some .cell
def Look (env:Env) (h:Heap) (m:Str->Option Value) (x:Str) (u:Value):Prop:=
 (env.kindOf x=some .local/\m x=some u)\/((env.kindOf x=some .cell\/env.kindOf x=some .free)/\∃ c,env.cells.lookup x=some c/\h.IsCell c (some u))
structure Cx.Ok (X:Cx):Prop where
 mod:Mod X.K X.mg X.base
 kind:X.env.scope.kind= .function
 glob:X.env.globals=mainGlobals
 blt:X.env.builtins=builtinsNs
 above:X.s₀.heap.objs.size<=X.env.locals
 inj:∀ x y c,X.env.cells.lookup x=some c->X.env.cells.lookup y=some c->x=y
 has:∀ x,(X.env.kindOf x=some .cell\/X.env.kindOf x=some .free)->∃ c,X.env.cells.lookup x=some c
 cab:∀ x c,X.fn x=true->X.env.cells.lookup x=some c->X.s₀.heap.objs.size<=c
 hd:X.calm=true->X.A.handled=none
 frames:X.A.frames=some X.stack
 stk:X.stack=X.outer\/(X.stack=X.env :: X.outer/\X.env.frame=some X.env.locals)
 exf:∀ b∈X.ex,b ≠ X.env.locals/\∀ x c,X.env.cells.lookup x=some c->c ≠ b
 bs:∀ b o,X.base.get? b=some o->X.s₀.heap.get? b=some o/\X.H₀ b=none
 bsz:X.base.objs.size<=X.s₀.heap.objs.size
 noex:∀ b o,X.base.get? b=some o->b ∉ X.ex
 exfs:∀ b∈X.ex,b ∉ X.fs
 funs:X.s₀.heap.FunFrames X.base X.outer
 frf:∀ b∈X.fs,X.H₀ b=none
structure Inv (X:Cx) (pins:List (Addr×Obj)) (σ:List (Option V)) (H:Hp) (s:Shared):Prop where
 ok:X.Ok
 os:s.os=X.s₀.os
 bare:AllBare s.gens
 base:Un X.fs X.ex X.H₀ H X.s₀.heap s.heap
 loc:∃ m,s.heap.Ns X.env.locals m/\∀ (i:Nat) (x:Str) (v:V),X.N[i]? =some x->σ[i]? =some (some v)->Vis X.env.scope x->∃ u,Zx v u/\Look X.env s.heap m x u
 cell:∀ x c,X.env.cells.lookup x=some c->∃ v,s.heap.IsCell c v
 free:H X.env.locals=none
 freeC:∀ x c,X.env.cells.lookup x=some c->H c=none
 pin:∀ p∈X.pn++pins,s.heap.get? p.1=some p.2/\H p.1=none/\p.1 ≠ X.env.locals/\p.1 ∉ X.fs/\∀ v,p.2.data ≠ .cell v
 hok:HOk X.prog X.w H s.heap
 len:σ.length=X.N.length
section
variable {X:Cx} {pins:List (Addr×Obj)} {σ:List (Option V)} {H H' :Hp} {s:Shared} {h' :Heap}
theorem Cx.Ok.nofr (ok:X.Ok) {b:Addr} {o:Obj} (e:X.base.get? b=some o):b ∉ X.fs:=fun hb=>by
 have:=(ok.funs.mem hb).1
 rw [e] at this; cases this
theorem Inv.bs (I:Inv X pins σ H s):∀ b o,X.base.get? b=some o->s.heap.get? b=some o/\H b=none:=fun b o e=>
 ⟨I.base.keep b o (I.ok.bs b o e).1 (I.ok.bs b o e).2 (I.ok.nofr e) (I.ok.noex b o e),I.base.free b o (I.ok.bs b o e).1 (I.ok.bs b o e).2 (I.ok.noex b o e)⟩
theorem Inv.bk (I:Inv X pins σ H s):∀ b o,X.base.get? b=some o->s.heap.get? b=some o:=fun b o e=>(I.bs b o e).1
theorem Inv.mod (I:Inv X pins σ H s):Mod X.K X.mg X.base:=I.ok.mod
theorem Inv.kIn (I:Inv X pins σ H s):X.K.In s.heap:=I.ok.mod.kin.keeps I.bk
theorem Inv.lt (I:Inv X pins σ H s):X.env.locals < s.heap.objs.size:=let ⟨_,hn,_⟩:=I.loc; hn.lt
theorem Inv.sz (I:Inv X pins σ H s):X.s₀.heap.objs.size<=s.heap.objs.size:=Nat.le_trans I.ok.above (Nat.le_of_lt I.lt)
theorem Inv.nofs (I:Inv X pins σ H s) {a:Addr} (h:s.heap.objs.size<=a):a ∉ X.fs:=fun hb=>by
 obtain ⟨_,o,ho,_⟩:=I.ok.funs.mem hb
 exact absurd (Nat.lt_of_lt_of_le (Heap.lt_size ho) (Nat.le_trans I.sz h)) (Nat.lt_irrefl _)
theorem Inv.cne (I:Inv X pins σ H s):∀ x c,X.env.cells.lookup x=some c->c ≠ X.env.locals:=fun x c e z=>by
 obtain ⟨v,o,ho,hd⟩:=I.cell x c e
 obtain ⟨m,⟨o',es,ep,ho',hd',_⟩,_⟩:=I.loc
 rw [z,ho'] at ho; cases ho; rw [hd'] at hd; cases hd
theorem Inv.funs (I:Inv X pins σ H s):s.heap.FunFrames X.base X.outer:=by
 have all:∀ (l:List Env),(∀ b∈frs l,b∈X.fs)->X.s₀.heap.FunFrames X.base l->s.heap.FunFrames X.base l:=by
  intro l
  induction l with
  | nil=>intro _ _; trivial
  | cons env r ih=>
   intro hs hl
   obtain ⟨hk,⟨L,o,hf,hn,ho,hd⟩,hr⟩:=hl
   have hL:L∈X.fs:=hs L (by unfold frs; rw [List.filterMap_cons,hf]; exact List.mem_cons_self)
   obtain ⟨sl,e⟩:=I.base.slot L o ho (I.ok.frf L hL) hL fun z=>I.ok.exfs L z hL
   exact ⟨hk,⟨L,_,hf,hn,e,hd⟩,ih (fun b hb=>hs b (by unfold frs; rw [List.filterMap_cons,hf]; exact List.mem_cons_of_mem _ hb)) hr⟩
 exact all X.outer (fun _ hb=>hb) I.ok.funs
theorem Inv.stack (I:Inv X pins σ H s):s.heap.FunFrames X.base X.stack:=by
 rcases I.ok.stk with e | ⟨e,hf⟩
 ·rw [e]; exact I.funs
 ·rw [e]
  obtain ⟨m,hn,_⟩:=I.loc
  refine .cons (by rw [I.ok.kind]; decide) hf hn ?_ I.funs
  exact Heap.get?_none_of_le (Nat.le_trans I.ok.bsz I.ok.above)
theorem Inv.stkSub (I:Inv X pins σ H s):∀ b∈frs X.stack,b∈X.env.locals :: X.fs:=fun b hb=>by
 rcases I.ok.stk with e | ⟨e,hf⟩
 ·rw [e] at hb; exact List.mem_cons_of_mem _ hb
 ·rw [e] at hb
  unfold frs at hb
  rw [List.filterMap_cons,hf] at hb
  exact hb
theorem Inv.stkFree (I:Inv X pins σ H s):∀ b∈frs X.stack,H b=none:=fun b hb=>by
 rcases List.mem_cons.mp (I.stkSub b hb) with e | hb
 ·rw [e]; exact I.free
 ·obtain ⟨_,o,ho,_⟩:=I.ok.funs.mem hb
  exact I.base.free b o ho (I.ok.frf b hb) fun z=>I.ok.exfs b z hb
theorem Inv.step {g' :Array GenState} {t' :Nat} {d' :Drawn} {ch:List Addr} (I:Inv X pins σ H s)
  (hch:∀ b∈ch,(b∈X.ex\/X.s₀.heap.objs.size<=b)/\b ≠ X.env.locals/\(∀ x c,X.env.cells.lookup x=some c->c ≠ b)/\∀ p∈X.pn++pins,p.1 ≠ b)
  (keep:∀ b o,b ≠ X.env.locals->b ∉ X.fs->b ∉ ch->s.heap.get? b=some o->H b=none->h'.get? b=some o)
  (slot:∀ b o,b ≠ X.env.locals->b∈X.fs->b ∉ ch->s.heap.get? b=some o->H b=none->∃ sl,h'.get? b=some { o with slots:=sl }) (free:∀ b o,b ∉ ch->s.heap.get? b=some o->H b=none->H' b=none)
  (there:∀ b o,b ∉ ch->s.heap.get? b=some o->∃ o',h'.get? b=some o')
  (tups:∀ b xs,H b=some (.tup xs)->H' b=some (.tup xs)) (frzs:∀ b o u,H b=some (.frz o u)->H' b=some (.frz o u)) (tbls:∀ b ps,H b=some (.tbl ps)->∃ more,H' b=some (.tbl (ps++more)))
  (ns:∀ m,s.heap.Ns X.env.locals m->h'.Ns X.env.locals m) (hok:HOk X.prog X.w H' h') (hg:AllBare g'):
  Inv X pins σ H' { s with heap:=h',gens:=g',drawn:=d',toks:=t' }:=by
 have neL:∀ b o,X.s₀.heap.get? b=some o->b ≠ X.env.locals:=fun b o e=>Nat.ne_of_lt (Nat.lt_of_lt_of_le (Heap.lt_size e) I.ok.above)
 have neC:∀ b o,X.s₀.heap.get? b=some o->b ∉ X.ex->b ∉ ch:=fun b o e hx hb=>by
  rcases (hch b hb).1 with z | z
  ·exact hx z
  ·exact absurd (Nat.lt_of_lt_of_le (Heap.lt_size e) z) (Nat.lt_irrefl _)
 have cellK:∀ x c,X.env.cells.lookup x=some c->∀ v,s.heap.IsCell c v->h'.IsCell c v:=fun x c e v ⟨o,ho,hd⟩=>by
  have nch:c ∉ ch:=fun z=>(hch c z).2.2.1 x c e rfl
  by_cases hc:c∈X.fs
  ·obtain ⟨sl,q⟩:=slot c o (I.cne x c e) hc nch ho (I.freeC x c e)
   exact ⟨_,q,hd⟩
  ·exact ⟨o,keep c o (I.cne x c e) hc nch ho (I.freeC x c e),hd⟩
 refine ⟨I.ok,I.os,hg,⟨fun b o e n hb hx=> ?_,fun b o e n hb hx=> ?_,fun b o e n hx=> ?_,fun b o e hx=> ?_,fun b xs e=>tups b xs (I.base.tups b xs e),fun b o xs e=>frzs b o xs (I.base.frzs b o xs e),fun b ps e=> ?_⟩, ?_,fun x c e=> ?_, ?_,fun x c e=> ?_,fun p hp=> ?_,hok,I.len⟩
 ·exact keep b o (neL b o e) hb (neC b o e hx) (I.base.keep b o e n hb hx) (I.base.free b o e n hx)
 ·obtain ⟨sl,e1⟩:=I.base.slot b o e n hb hx
  obtain ⟨sl',e2⟩:=slot b _ (neL b o e) hb (neC b o e hx) e1 (I.base.free b o e n hx)
  exact ⟨sl',e2⟩
 ·obtain ⟨o',e1⟩:=I.base.there b o e hx
  exact free b o' (neC b o e hx) e1 (I.base.free b o e n hx)
 ·obtain ⟨o',e1⟩:=I.base.there b o e hx
  exact there b o' (neC b o e hx) e1
 ·obtain ⟨m1,e1⟩:=I.base.tbls b ps e
  obtain ⟨m2,e2⟩:=tbls b _ e1
  exact ⟨m1++m2,by rw [e2,Array.append_assoc]⟩
 ·obtain ⟨m,hn,hl⟩:=I.loc
  refine ⟨m,ns m hn,fun i x v e1 e2 e3=> ?_⟩
  obtain ⟨u,r,l⟩:=hl i x v e1 e2 e3
  refine ⟨u,r, ?_⟩
  rcases l with l | ⟨k,c,e,z⟩
  ·exact .inl l
  ·exact .inr ⟨k,c,e,cellK x c e _ z⟩
 ·obtain ⟨v,z⟩:=I.cell x c e
  exact ⟨v,cellK x c e v z⟩
 ·obtain ⟨m,⟨o,_,_,ho,_⟩,_⟩:=I.loc
  exact free _ o (fun z=>(hch _ z).2.1 rfl) ho I.free
 ·obtain ⟨v,o,ho,hd⟩:=I.cell x c e
  exact free c o (fun z=>(hch c z).2.2.1 x c e rfl) ho (I.freeC x c e)
 ·obtain ⟨e,n,ne,nf,d⟩:=I.pin p hp
  have nch:p.1 ∉ ch:=fun z=>(hch p.1 z).2.2.2 p hp rfl
  exact ⟨keep p.1 p.2 ne nf nch e n,free p.1 p.2 nch e n,ne,nf,d⟩
theorem Inv.un {t' :Nat} (I:Inv X pins σ H s) (u:Un X.fs [] H H' s.heap h') (hok:HOk X.prog X.w H' h'):Inv X pins σ H' { s with heap:=h',toks:=t' }:=by
 obtain ⟨m,⟨o,es,ep,ho,r⟩,_⟩:=id I.loc
 obtain ⟨sl,hL⟩:=u.any ho I.free (by simp)
 exact I.step (g' :=s.gens) (d' :=s.drawn) (ch:=[]) (fun _ z=>nomatch z) (fun b o _ hb _ e n=>u.keep b o e n hb (by simp)) (fun b o _ hb _ e n=>u.slot b o e n hb (by simp)) (fun b o _ e n=>u.free b o e n (by simp)) (fun b o _ e=>u.there b o e (by simp)) u.tups u.frzs u.tbls (fun m' hm=>by
  obtain ⟨o',es',ep',ho',r'⟩:=hm
  rw [ho] at ho'; cases ho'
  exact ⟨_,es',ep',hL,r'⟩) hok I.bare
theorem Inv.call {g' :Array GenState} {t' :Nat} {d' :Drawn} {ch:List Addr} (I:Inv X pins σ H s) (u:Un (frs X.stack) ch H H' s.heap h') (hok:HOk X.prog X.w H' h') (hg:AllBare g')
  (hch:∀ b∈ch,(b∈X.ex\/X.s₀.heap.objs.size<=b)/\b ≠ X.env.locals/\(∀ x c,X.env.cells.lookup x=some c->c ≠ b)/\∀ p∈X.pn++pins,p.1 ≠ b):
  Inv X pins σ H' { s with heap:=h',gens:=g',drawn:=d',toks:=t' }:=by
 obtain ⟨m,⟨o,es,ep,ho,r⟩,_⟩:=id I.loc
 obtain ⟨sl,hL⟩:=u.any ho I.free fun z=>(hch _ z).2.1 rfl
 exact I.step (ch:=ch) hch (fun b o hL hb hc e n=>u.keep b o e n (fun z=>(List.mem_cons.mp (I.stkSub b z)).elim hL hb) hc) (fun b o _ _ hc e n=>u.any e n hc) (fun b o hc e n=>u.free b o e n hc) (fun b o hc e=>u.there b o e hc) u.tups u.frzs u.tbls (fun m' hm=>by
  obtain ⟨o',es',ep',ho',r'⟩:=hm
  rw [ho] at ho'; cases ho'
  exact ⟨_,es',ep',hL,r'⟩) hok hg
theorem Inv.turned {t' :Nat} {it:Addr} (I:Inv X pins σ H s) (k:∀ b o,b ≠ it->s.heap.get? b=some o->h'.get? b=some o) (hn:H it=none) (hL:it ≠ X.env.locals)
  (h1:it∈X.ex\/X.s₀.heap.objs.size<=it) (h2:∀ x c,X.env.cells.lookup x=some c->c ≠ it) (h3:∀ p∈X.pn++pins,p.1 ≠ it):Inv X pins σ H { s with heap:=h',toks:=t' }:=by
 have nit:∀ b u,H b=some u->b ≠ it:=fun b u e z=>by rw [z,hn] at e; cases e
 refine I.step (g' :=s.gens) (d' :=s.drawn) (ch:=[it]) (fun b hb=> ?_) (fun b o _ _ hc e _=>k b o (fun z=>hc (by simp [z])) e) (fun b o _ _ hc e _=>⟨o.slots,k b o (fun z=>hc (by simp [z])) e⟩) (fun _ _ _ _ n=>n)
  (fun b o hc e=>⟨o,k b o (fun z=>hc (by simp [z])) e⟩) (fun _ _ e=>e) (fun _ _ _ e=>e) (fun b ps e=>⟨#[],by rw [e]; simp⟩) (fun m hm=> ?_) (fun b u e=> ?_) I.bare
 ·have e:b=it:=by simpa using hb
  subst e
  exact ⟨h1,hL,h2,h3⟩
 ·obtain ⟨o,es,ep,ho,r⟩:=hm
  exact ⟨o,es,ep,k _ o (Ne.symm hL) ho,r⟩
 ·refine (I.hok b u e).stay (fun c v hc q=>k c v ?_ q) (fun _ q=>q) fun _ _ q=>q
  rcases hc with z | z
  ·rw [z]; exact nit b u e
  ·exact nit c _ z
theorem Inv.tok (I:Inv X pins σ H s) (t:Nat):Inv X pins σ H { s with toks:=t }:=I.un (h' :=s.heap) (t' :=t) Un.refl I.hok
theorem Inv.kept {t' :Nat} (I:Inv X pins σ H s) (k:∀ b u,s.heap.get? b=some u->h'.get? b=some u):Inv X pins σ H { s with heap:=h',toks:=t' }:=I.un (Un.kept k) (I.hok.kept k)
theorem Inv.laid {a:Addr} {o:HO} {t' :Nat} (I:Inv X pins σ H s) (k:∀ b u,s.heap.get? b=some u->h'.get? b=some u) (hp:s.heap.objs.size<=a) (new:ZF X.prog X.w (upd H a o) h' a o):
  Inv X pins σ (upd H a o) { s with heap:=h',toks:=t' }:=I.un (Un.laid k hp (I.hok.fresh hp)) (I.hok.laid k hp new)
theorem Inv.write {x e:Addr} {o:HO} {t' :Nat} (I:Inv X pins σ H s) (mu:Mut (H x)) (he:e=x\/H e=some (.own x)) (k:∀ b u,b ≠ e->s.heap.get? b=some u->h'.get? b=some u) (heo:∃ u,h'.get? e=some u)
  (new:ZF X.prog X.w (upd H x o) h' x o):Inv X pins σ (upd H x o) { s with heap:=h',toks:=t' }:=I.un (Un.write mu he k heo) (I.hok.write mu he k heo new)
theorem Inv.pins_of {pins' :List (Addr×Obj)} (I:Inv X pins σ H s) (h:∀ p∈pins',s.heap.get? p.1=some p.2/\H p.1=none/\p.1 ≠ X.env.locals/\p.1 ∉ X.fs/\∀ v,p.2.data ≠ .cell v):Inv X pins' σ H s:=
 ⟨I.ok,I.os,I.bare,I.base,I.loc,I.cell,I.free,I.freeC,fun p hp=>(List.mem_append.mp hp).elim (fun z=>I.pin p (List.mem_append_left _ z)) (h p),I.hok,I.len⟩
theorem uo {N:List Str} (hN:N.Nodup) {i j:Nat} {x:Str} (a:N[i]? =some x) (b:N[j]? =some x):i=j:=by
 obtain ⟨h1,e1⟩:=List.getElem?_eq_some_iff.mp a
 obtain ⟨h2,e2⟩:=List.getElem?_eq_some_iff.mp b
 exact (List.getElem_inj hN).mp (e1.trans e2.symm)
theorem W8 {M:Model} {A:Around} {E:Value->Shared->Prop} {i:Nat} {x:Str} {v:V} {u:Value} {Q:Unit->Shared->Prop} (I:Inv X pins σ H s) (hN:X.N.Nodup) (hi:X.N[i]? =some x) (hx:Loc X.env.scope x) (r:Zx v u)
  (h:∀ s',Inv X pins (σ.set i (some v)) H s' ->(∃ a,Heap.SameBut a s.heap s'.heap/\(a=X.env.locals\/X.env.cells.lookup x=some a))->Q () s') (hf:X.fn x=true\/X.env.scope.names.lookup x=some .local:=by first | exact .inl rfl | exact .inr rfl | assumption):wpAny M A (storeName X.env x u) Q E s:=by
 obtain ⟨m,hn,hl⟩:=id I.loc
 have hcls:(X.env.scope.kind == .class || (X.env.scope.kind == .module && X.env.locals != X.env.globals))=false:=by rw [I.ok.kind]; rfl
 have hiσ:i < σ.length:=by rw [I.len]; exact (List.getElem?_eq_some_iff.mp hi).1
 have cne:=I.cne
 have tracked:∀ {a:Addr} {h' :Heap},(∃ o,s.heap.get? a=some o/\H a=none)->Heap.SameBut a s.heap h' ->HOk X.prog X.w H h' :=fun {a h'} ha hs b ob e=>by
  obtain ⟨_,_,hfree⟩:=ha
  refine (I.hok b ob e).stay (fun c w' hc q=>(hs.2 c ?_).trans q) (fun _ q=>q) fun _ _ q=>q
  rintro rfl
  rcases hc with rfl | hc
  ·rw [hfree] at e; cases e
  ·rw [hfree] at hc; cases hc
 rcases hx with hk | hk
 ·refine wpAny_storeName_local hk hn (fun h' hn' hs=> ?_) hcls
  obtain ⟨oL,_,_,hoL,_⟩:=id hn
  refine h _ ⟨I.ok,I.os,I.bare,⟨fun b o e n hb hx=> ?_,fun b o e n hb hx=> ?_,I.base.free,fun b o e hx=> ?_,I.base.tups,I.base.frzs,I.base.tbls⟩,⟨_,hn',fun j y v' e1 e2 e3=> ?_⟩,fun y c e=> ?_,I.free,I.freeC,fun p hp=> ?_,tracked ⟨oL,hoL,I.free⟩ hs,by simpa using I.len⟩ ⟨_,hs, .inl rfl⟩
  ·exact (hs.2 b (Nat.ne_of_lt (Nat.lt_of_lt_of_le (Heap.lt_size e) I.ok.above))).trans (I.base.keep b o e n hb hx)
  ·obtain ⟨sl,e1⟩:=I.base.slot b o e n hb hx
   exact ⟨sl,(hs.2 b (Nat.ne_of_lt (Nat.lt_of_lt_of_le (Heap.lt_size e) I.ok.above))).trans e1⟩
  ·obtain ⟨o',e1⟩:=I.base.there b o e hx
   exact ⟨o',(hs.2 b (Nat.ne_of_lt (Nat.lt_of_lt_of_le (Heap.lt_size e) I.ok.above))).trans e1⟩
  ·by_cases hj:j=i
   ·subst hj
    rw [hi] at e1; cases e1
    rw [List.getElem?_set_self hiσ] at e2
    cases e2
    exact ⟨u,r, .inl ⟨hk,by simp⟩⟩
   ·rw [List.getElem?_set_ne (Ne.symm hj)] at e2
    obtain ⟨u',r',q⟩:=hl j y v' e1 e2 e3
    refine ⟨u',r', ?_⟩
    rcases q with ⟨k,e⟩ | ⟨k,c,e,z⟩
    ·refine .inl ⟨k, ?_⟩
     have:y ≠ x:=fun e=>hj (uo hN e1 (e ▸ hi))
     simp [this,e]
    ·exact .inr ⟨k,c,e,z.sameBut hs (cne y c e)⟩
  ·obtain ⟨w',z⟩:=I.cell y c e
   exact ⟨w',z.sameBut hs (cne y c e)⟩
  ·obtain ⟨e,n,ne,nf,d⟩:=I.pin p hp
   exact ⟨(hs.2 p.1 ne).trans e,n,ne,nf,d⟩
 ·have hfn:X.fn x=true:=by
   rcases hf with z | z
   ·exact z
   ·rw [z] at hk; cases hk
  obtain ⟨c,hc⟩:=I.ok.has x (.inl hk)
  obtain ⟨w',z⟩:=I.cell x c hc
  refine wpAny_storeName_cell I.ok.kind hk hc z (fun h' hc' hs=> ?_)
  obtain ⟨oc,hoc,hocd⟩:=id z
  refine h { s with heap:=h' } ⟨I.ok,I.os,I.bare,⟨fun b o e n hb hx=> ?_,fun b o e n hb hx=> ?_,I.base.free,fun b o e hx=> ?_,I.base.tups,I.base.frzs,I.base.tbls⟩,⟨m,hn.sameBut hs (Ne.symm (cne x c hc)),fun j y v' e1 e2 e3=> ?_⟩,fun y c' e=> ?_,I.free,I.freeC,fun p hp=> ?_,tracked ⟨oc,hoc,I.freeC x c hc⟩ hs,by simpa using I.len⟩ ⟨c,hs, .inr hc⟩
  ·exact (hs.2 b (Nat.ne_of_lt (Nat.lt_of_lt_of_le (Heap.lt_size e) (I.ok.cab x c hfn hc)))).trans (I.base.keep b o e n hb hx)
  ·obtain ⟨sl,e1⟩:=I.base.slot b o e n hb hx
   exact ⟨sl,(hs.2 b (Nat.ne_of_lt (Nat.lt_of_lt_of_le (Heap.lt_size e) (I.ok.cab x c hfn hc)))).trans e1⟩
  ·obtain ⟨o',e1⟩:=I.base.there b o e hx
   exact ⟨o',(hs.2 b (Nat.ne_of_lt (Nat.lt_of_lt_of_le (Heap.lt_size e) (I.ok.cab x c hfn hc)))).trans e1⟩
  ·by_cases hj:j=i
   ·subst hj
    rw [hi] at e1; cases e1
    rw [List.getElem?_set_self hiσ] at e2
    cases e2
    exact ⟨u,r, .inr ⟨.inl hk,c,hc,hc'⟩⟩
   ·rw [List.getElem?_set_ne (Ne.symm hj)] at e2
    obtain ⟨u',r',q⟩:=hl j y v' e1 e2 e3
    refine ⟨u',r', ?_⟩
    rcases q with q | ⟨k,c',e,z'⟩
    ·exact .inl q
    ·refine .inr ⟨k,c',e,z'.sameBut hs ?_⟩
     rintro rfl
     exact hj (uo hN e1 (I.ok.inj _ _ _ e hc ▸ hi))
  ·by_cases hcc:c' =c
   ·subst hcc; exact ⟨_,hc'⟩
   ·obtain ⟨w2,z2⟩:=I.cell y c' e
    exact ⟨w2,z2.sameBut hs hcc⟩
  ·obtain ⟨e,n,ne,nf,d⟩:=I.pin p hp
   refine ⟨(hs.2 p.1 ?_).trans e,n,ne,nf,d⟩
   intro q
   rw [q,hoc] at e
   have q' :oc=p.2:=Option.some.inj e
   exact d w' (by rw [← q']; exact hocd)
theorem uq {M:Model} {A:Around} {E:Value->Shared->Prop} {i:Nat} {x:Str} {v:V} {u:Value} {Q:Unit->Shared->Prop} (I:Inv X pins σ H s) (hN:X.N.Nodup) (hi:X.N[i]? =some x) (hx:Loc X.env.scope x) (r:Zx v u)
  (h:∀ s',Inv X pins (σ.set i (some v)) H s' ->Q () s') (hf:X.fn x=true\/X.env.scope.names.lookup x=some .local:=by first | exact .inl rfl | exact .inr rfl | assumption):wpAny M A (storeName X.env x u) Q E s:=
 W8 I hN hi hx r (fun s' I' _=>h s' I') hf
theorem Inv.call' {s' :Shared} {ch:List Addr} (I:Inv X pins σ H s) (ho:s'.os=s.os) (u:Un (frs X.stack) ch H H' s.heap s'.heap) (hok:HOk X.prog X.w H' s'.heap) (hg:AllBare s'.gens)
  (hch:∀ b∈ch,(b∈X.ex\/X.s₀.heap.objs.size<=b)/\b ≠ X.env.locals/\(∀ x c,X.env.cells.lookup x=some c->c ≠ b)/\∀ p∈X.pn++pins,p.1 ≠ b):Inv X pins σ H' s' :=by
 obtain ⟨h',g',d',t',o'⟩:=s'
 have e:o' =s.os:=ho
 subst e
 exact I.call (g' :=g') (t' :=t') (d' :=d') u hok hg hch
end
abbrev XK:=Value->Option Addr->Hp->Prop
abbrev St:=List (Option V)
abbrev VK:=V->Hp->Prop
abbrev TE:=St->Hp->VK->Prop
abbrev TT:=St->Hp->(Bool->Hp->Prop)->Prop
abbrev TA:=St->Hp->(List V->Hp->Prop)->Prop
structure qe where
 nx:St->Hp->Prop
 rt:VK
 bk:St->Hp->Prop:=fun _ _=>False
 ct:St->Hp->Prop:=fun _ _=>False
abbrev TS:=qe->St->Hp->Prop
def EP (X:Cx) (pins:List (Addr×Obj)) (σ:St) (Q:VK) (u:Value) (s' :Shared):Prop:=∃ v H',Inv X pins σ H' s' /\Zx v u/\Q v H'
def TP (X:Cx) (pins:List (Addr×Obj)) (σ:St) (Q:Bool->Hp->Prop) (b:Bool) (s' :Shared):Prop:=∃ H',Inv X pins σ H' s' /\Q b H'
def AP (X:Cx) (pins:List (Addr×Obj)) (σ:St) (Q:List V->Hp->Prop) (us:List Value) (s' :Shared):Prop:=∃ vs H',Inv X pins σ H' s' /\Ze vs us/\Q vs H'
def SP (X:Cx) (pins:List (Addr×Obj)) (D:qe) (f:Flow) (s' :Shared):Prop:=
 match f with
 | .next=>∃ σ' H',Inv X pins σ' H' s' /\D.nx σ' H'
 | .brk=>∃ σ' H',Inv X pins σ' H' s' /\D.bk σ' H'
 | .cont=>∃ σ' H',Inv X pins σ' H' s' /\D.ct σ' H'
 | .ret u=>∃ v σ' H',Inv X pins σ' H' s' /\Zx v u/\D.rt v H'
def PE (X:Cx) (e:Expr) (t:TE):Prop:=
 ∀ (pins:List (Addr×Obj)) (s:Shared) (σ:St) (H:Hp) (Q:VK),Inv X pins σ H s->t σ H Q->wpAny (model X.prog X.w) X.A (eval e X.env) (EP X pins σ Q) X.xe s
def PT (X:Cx) (e:Expr) (t:TT):Prop:=
 ∀ (pins:List (Addr×Obj)) (s:Shared) (σ:St) (H:Hp) (Q:Bool->Hp->Prop),Inv X pins σ H s->t σ H Q->wpAny (model X.prog X.w) X.A (isTrue e X.env (eval e X.env)) (TP X pins σ Q) X.xe s
def PW (X:Cx) (e:Expr) (t:TT):Prop:=
 ∀ (whole:Sem Value) (pins:List (Addr×Obj)) (s:Shared) (σ:St) (H:Hp) (Q:Bool->Hp->Prop),Inv X pins σ H s->t σ H Q->wpAny (model X.prog X.w) X.A (isTrue e X.env whole) (TP X pins σ Q) X.xe s
theorem PW.pt {X:Cx} {e:Expr} {t:TT} (h:PW X e t):PT X e t:=h _
def PA (X:Cx) (es:List Expr) (t:TA):Prop:=
 ∀ (pos:Pos) (pins:List (Addr×Obj)) (s:Shared) (σ:St) (H:Hp) (Q:List V->Hp->Prop),Inv X pins σ H s->t σ H Q->wpAny (model X.prog X.w) X.A (spliced (backTo pos (starEach es X.env))) (AP X pins σ Q) X.xe s
def PS (X:Cx) (st:Stmt) (t:TS):Prop:=
 ∀ (pins:List (Addr×Obj)) (s:Shared) (σ:St) (H:Hp) (D:qe),Inv X pins σ H s->t D σ H->wpAny (model X.prog X.w) X.A (exec st X.env) (SP X pins D) X.xe s
def PSs (X:Cx) (st:List Stmt) (t:TS):Prop:=
 ∀ (pins:List (Addr×Obj)) (s:Shared) (σ:St) (H:Hp) (D:qe),Inv X pins σ H s->t D σ H->wpAny (model X.prog X.w) X.A (execs st X.env) (SP X pins D) X.xe s
theorem thn {α:Type} {t:Sem α} {Q Q' :α->Shared->Prop} {M:Model} {A:Around} {E:Value->Shared->Prop} {s:Shared} (h:wpAny M A t Q E s) (hQ:∀ a s,Q a s->Q' a s):wpAny M A t Q' E s:=wpAny_mono h hQ fun _ _ x=>x
end L2
namespace L2
open PySem PySem.Spec PyProof.Rows
section
variable {X:Cx}
theorem bin {a b:Expr} {ta tb:TE} (ha:PE X a ta) (hb:PE X b tb) {pins:List (Addr×Obj)} {s:Shared} {σ:St} {H:Hp} {R:V->V->Hp->Prop} (I:Inv X pins σ H s) (h:ta σ H fun x H1=>tb σ H1 fun y H2=>R x y H2)
  {α:Type} {Q:α->Shared->Prop} {f:Value->Value->Sem α}
  (hf:∀ v u s2 x y H2,Inv X pins σ H2 s2->Zx x v->Zx y u->R x y H2->wpAny (model X.prog X.w) X.A (f v u) Q X.xe s2):
  wpAny (model X.prog X.w) X.A (eval a X.env) (fun v s₁=>wpAny (model X.prog X.w) X.A (eval b X.env) (fun u s₂=>wpAny (model X.prog X.w) X.A (f v u) Q X.xe s₂) X.xe s₁) X.xe s:=by
 refine thn (ha pins s σ H _ I h) fun v s1 ⟨x,H1,I1,r1,q1⟩=> ?_
 refine thn (hb pins s1 σ H1 _ I1 q1) fun u s2 ⟨y,H2,I2,r2,q2⟩=> ?_
 exact hf v u s2 x y H2 I2 r1 r2 q2
def vb (i:Nat):TE:=fun σ H Q=>∃ v,σ[i]? =some (some v)/\Q v H
def tC (v:V):TE:=fun _ H Q=>Q v H
theorem xn {i:Nat} {x:Str} {pos:Pos} (hN:X.N[i]? =some x) (hv:Vis X.env.scope x) (hd:(x == ("__debug__":Str))=false:=by decide) (hcd:(x == ("__classdict__":Str))=false:=by decide):PE X (.Name x pos) (vb i):=by
 intro pins s σ H Q I h
 obtain ⟨v,e,h⟩:=h
 obtain ⟨m,hn,hl⟩:=I.loc
 obtain ⟨u,r,l⟩:=hl i x v hN e hv
 have fin:EP X pins σ Q u s:=⟨v,H,I,r,h⟩
 rcases l with ⟨hk,hm⟩ | ⟨hk,c,hc,hcell⟩
 ·exact wpAny_Name (wpAny_loadName_local I.ok.kind hk hn hm fin) hd
 ·rcases hk with hk | hk
  ·exact wpAny_Name (wpAny_loadName_cell I.ok.kind hk hc hcell fin) hd
  ·exact wpAny_Name (wpAny_loadName_free I.ok.kind hk hc hcell fin hcd) hd
theorem xo {i j pos}:PE X (.Constant (.int i) j pos) (tC (.int i)):=fun _ _ _ H _ I h=>wpAny_Constant_int ⟨.int i,H,I.tok _,⟨_,rfl⟩,h⟩
theorem Kb {b j pos}:PE X (.Constant (.bool b) j pos) (tC (.bl b)):=fun _ _ _ H _ I h=>Constant_bool ⟨.bl b,H,I,rfl,h⟩
theorem Qg {x j pos}:PE X (.Constant (.str x) j pos) (tC (.str x)):=fun _ _ _ H _ I h=>Calls.Constant_str ⟨.str x,H,I.tok _,⟨_,rfl⟩,h⟩
def Gl (X:Cx) (x:Str):Prop:=X.env.kindOf x=some .globalImplicit
theorem WX {E:Value->Shared->Prop} {pins:List (Addr×Obj)} {s:Shared} {σ:St} {H:Hp} {x:Str} {u:Value} {pos:Pos} {Q:Value->Shared->Prop} (I:Inv X pins σ H s) (hg:Gl X x) (hm:X.mg x=some u) (h:Q u s)
  (hd:(x == ("__debug__":Str))=false:=by decide):wpAny (model X.prog X.w) X.A (eval (.Name x pos) X.env) Q E s:=
 Calls.Name_function_global I.ok.kind hg (Calls.loadGlobal_global (by rw [I.ok.glob]; exact I.mod.glob.keeps I.bk) hm h) hd
theorem jd {E:Value->Shared->Prop} {pins:List (Addr×Obj)} {s:Shared} {σ:St} {H:Hp} {x:Str} {u:Value} {pos:Pos} {Q:Value->Shared->Prop} (I:Inv X pins σ H s) (hg:Gl X x) (hm:X.mg x=none) (hv:bootBuiltins x=some u) (h:Q u s)
  (hn:x ≠ "__name__":=by decide) (hd:(x == ("__debug__":Str))=false:=by decide):wpAny (model X.prog X.w) X.A (eval (.Name x pos) X.env) Q E s:=by
 obtain ⟨mb,h1,h2⟩:=I.mod.blt
 exact Calls.Name_function_global I.ok.kind hg (Calls.loadGlobal_builtin (by rw [I.ok.glob]; exact I.mod.glob.keeps I.bk) hm (by rw [I.ok.blt]; exact h1.keeps I.bk) ((h2 x hn).trans hv) h) hd
theorem vc {x:Str} {v:V} {u:Value} {pos:Pos} (hg:Gl X x) (hm:X.mg x=some u) (r:Zx v u) (hd:(x == ("__debug__":Str))=false:=by decide):PE X (.Name x pos) (tC v):=
 fun _ _ _ H _ I h=>WX I hg hm ⟨v,H,I,r,h⟩ hd
theorem vd {x:Str} {v:V} {u:Value} {pos:Pos} (hg:Gl X x) (hm:X.mg x=none) (hv:bootBuiltins x=some u) (r:Zx v u) (hn:x ≠ "__name__":=by decide) (hd:(x == ("__debug__":Str))=false:=by decide):PE X (.Name x pos) (tC v):=
 fun _ _ _ H _ I h=>jd I hg hm hv ⟨v,H,I,r,h⟩ hn hd
variable {a b:Expr} {ta tb:TE} {pos:Pos}
variable {tA tB' :TT} {rest:List Expr}
def tAnd (t u:TT):TT:=fun σ H Q=>t σ H fun c H1=>if c=true then u σ H1 Q else Q false H1
def tOr (t u:TT):TT:=fun σ H Q=>t σ H fun c H1=>if c=true then Q true H1 else u σ H1 Q
def tNot (t:TT):TT:=fun σ H Q=>t σ H fun c H1=>Q (!c) H1
theorem ve (ha:PT X a tA):PW X (.BoolOp .And [a] pos) tA:=by
 intro wh pins s σ H Q I h
 refine isTrue_and (thn (ha pins s σ H Q I h) fun c s1 e=> ?_)
 cases c with
 | true=>exact isTrue_and_nil e
 | false=>exact e
theorem xp (ha:PT X a tA):PW X (.BoolOp .Or [a] pos) tA:=by
 intro wh pins s σ H Q I h
 refine isTrue_or (thn (ha pins s σ H Q I h) fun c s1 e=> ?_)
 cases c with
 | false=>exact isTrue_or_nil e
 | true=>exact e
theorem xr (ha:PT X a tA) (hb:PW X (.BoolOp .And (b :: rest) pos) tB'):PW X (.BoolOp .And (a :: b :: rest) pos) (tAnd tA tB'):=by
 intro wh pins s σ H Q I h
 refine isTrue_and (thn (ha pins s σ H _ I h) fun c s1 ⟨H1,I1,q1⟩=> ?_)
 cases c with
 | true=>exact hb wh pins s1 σ H1 Q I1 q1
 | false=>exact ⟨H1,I1,q1⟩
theorem Kc (ha:PT X a tA) (hb:PW X (.BoolOp .Or (b :: rest) pos) tB'):PW X (.BoolOp .Or (a :: b :: rest) pos) (tOr tA tB'):=by
 intro wh pins s σ H Q I h
 refine isTrue_or (thn (ha pins s σ H _ I h) fun c s1 ⟨H1,I1,q1⟩=> ?_)
 cases c with
 | true=>exact ⟨H1,I1,q1⟩
 | false=>exact hb wh pins s1 σ H1 Q I1 q1
theorem xt (ha:PT X a tA):PT X (.UnaryOp .Not a pos) (tNot tA):=by
 intro pins s σ H Q I h
 exact isTrue_not (ha pins s σ H (fun c H1=>Q (!c) H1) I h)
def Ke (ta tb:TE):TE:=fun σ H Q=>ta σ H fun x H1=>∃ c,x= .bl c/\if c=true then tb σ H1 Q else Q (.bl false) H1
def tOrV (ta tb:TE):TE:=fun σ H Q=>ta σ H fun x H1=>∃ c,x= .bl c/\if c=true then Q (.bl true) H1 else tb σ H1 Q
def Kf (ta:TE):TE:=fun σ H Q=>ta σ H fun x H1=>∃ c,x= .bl c/\Q (.bl (!c)) H1
theorem xu {op} {t:TE} (h:PE X a t):PE X (.BoolOp op [a] pos) t:=fun pins s σ H Q I hw=>BoolOp_one (h pins s σ H Q I hw)
theorem xv (ha:PE X a ta) (hb:PE X (.BoolOp .And (b :: rest) pos) tb):PE X (.BoolOp .And (a :: b :: rest) pos) (Ke ta tb):=by
 intro pins s σ H Q I h
 refine BoolOp_and (thn (ha pins s σ H _ I h) fun v s1 ⟨x,H1,I1,r1,q1⟩=> ?_)
 obtain ⟨c,rfl,q1⟩:=q1
 cases r1
 refine wpAny_truthy_bool ?_
 cases c with
 | true=>exact hb pins s1 σ H1 Q I1 q1
 | false=>exact ⟨.bl false,H1,I1,rfl,q1⟩
theorem Kg (ha:PE X a ta) (hb:PE X (.BoolOp .Or (b :: rest) pos) tb):PE X (.BoolOp .Or (a :: b :: rest) pos) (tOrV ta tb):=by
 intro pins s σ H Q I h
 refine BoolOp_or (thn (ha pins s σ H _ I h) fun v s1 ⟨x,H1,I1,r1,q1⟩=> ?_)
 obtain ⟨c,rfl,q1⟩:=q1
 cases r1
 refine wpAny_truthy_bool ?_
 cases c with
 | false=>exact hb pins s1 σ H1 Q I1 q1
 | true=>exact ⟨.bl true,H1,I1,rfl,q1⟩
theorem xw (ha:PE X a ta):PE X (.UnaryOp .Not a pos) (Kf ta):=by
 intro pins s σ H Q I h
 refine UnaryOp_ (thn (ha pins s σ H _ I h) fun v s1 ⟨x,H1,I1,r1,q1⟩=> ?_)
 obtain ⟨c,rfl,q1⟩:=q1
 cases r1
 exact not_of (wpAny_truthy_bool ⟨.bl (!c),H1,I1,rfl,q1⟩)
def tIf (t:TT) (ta tb:TE):TE:=fun σ H Q=>t σ H fun c H1=>if c=true then ta σ H1 Q else tb σ H1 Q
theorem qf {c:Expr} (hc:PT X c tA) (ha:PE X a ta) (hb:PE X b tb):PE X (.IfExp c a b pos) (tIf tA ta tb):=by
 intro pins s σ H Q I h
 refine wpAny_IfExp (thn (hc pins s σ H _ I h) fun d s1 ⟨H1,I1,q1⟩=> ?_)
 cases d with
 | true=>exact ha pins s1 σ H1 Q I1 q1
 | false=>exact hb pins s1 σ H1 Q I1 q1
end
end L2
namespace L2
open PySem PySem.Spec PyProof.Rows
def SqL (K:PySem.W.Frag) (H:Hp) (a:Addr) (xs:List V):Prop:=
 Rd H a (.lst xs)\/
  ∃ (o:Obj) (its:Array Value) (n:Nat),K.lookup a=some o/\o.cls= .type "list"/\o.dict=none/\o.data= .seq its n/\its.size<=sizeLine/\Ze xs its.toList
def SqT (K:PySem.W.Frag) (H:Hp) (a:Addr) (xs:List V):Prop:=
 Rd H a (.tup xs)\/
  ∃ (o:Obj) (its:Array Value) (n:Nat),K.lookup a=some o/\o.cls= .type "tuple"/\o.data= .seq its n/\its.size<=sizeLine/\Ze xs its.toList
def absV:Value->Option V
 | .none=>some .non
 | .bool b=>some (.bl b)
 | .int i _=>some (.int i)
 | .str x _=>some (.str x)
 | .bytes b _=>some (.byt b)
 | .float b _=>some (.flt b)
 | .ref a=>some (.ref a)
 | .type n=>some (.ty n)
 | _=>none
theorem Zx.abs {x:V} {u:Value} (r:Zx x u):absV u=some x:=by
 cases x with
 | non=>cases r; rfl
 | bl _=>cases r; rfl
 | int _=>obtain ⟨t,rfl⟩:=r; rfl
 | str _=>obtain ⟨t,rfl⟩:=r; rfl
 | byt _=>obtain ⟨t,rfl⟩:=r; rfl
 | flt _=>obtain ⟨t,rfl⟩:=r; rfl
 | ref _=>cases r; rfl
 | ty _=>cases r; rfl
theorem Zx.inj {x y:V} {u:Value} (r:Zx x u) (q:Zx y u):x=y:=Option.some.inj (r.abs.symm.trans q.abs)
theorem Ze.inj:∀ {xs ys:List V} {us:List Value},Ze xs us->Ze ys us->xs=ys
 | _,_,_, .nil, .nil=>rfl
 | _,_,_, .cons r t, .cons r' t' =>by rw [r.inj r',Ze.inj t t']
section
variable {X:Cx} {pins:List (Addr×Obj)} {σ:St} {H:Hp} {s:Shared} {a:Addr} {xs ys:List V}
theorem SqL.of {K:PySem.W.Frag} (h:H a=some (.lst xs)):SqL K H a xs:= .inl (.inl h)
theorem SqT.of {K:PySem.W.Frag} (h:H a=some (.tup xs)):SqT K H a xs:= .inl (.inl h)
theorem Inv.list (I:Inv X pins σ H s) (h:SqL X.K H a xs):∃ its:List Value,Ze xs its/\PlainL s.heap a its.toArray/\xs.length<=sizeLine:=by
 rcases h with h | ⟨o,its,n,hk,hc,hd,hs,hz,r⟩
 ·obtain ⟨z,its,n,r,e⟩:=h.ok I.hok
  exact ⟨its,r,⟨_,n,e,rfl,rfl,rfl⟩,z⟩
 ·refine ⟨its.toList,r,⟨o,n,I.kIn a o hk,hc,hd,by simpa using hs⟩, ?_⟩
  have e:=r.length
  simp only [Array.length_toList] at e
  omega
theorem Inv.tuple (I:Inv X pins σ H s) (h:SqT X.K H a xs):∃ its:List Value,Ze xs its/\IsTup s.heap a its.toArray/\xs.length<=sizeLine:=by
 rcases h with h | ⟨o,its,n,hk,hc,hs,hz,r⟩
 ·obtain ⟨z,its,r,p,_⟩:=h.ok I.hok
  exact ⟨its,r,p,z⟩
 ·refine ⟨its.toList,r,⟨o,I.kIn a o hk,hc,n,by simpa using hs⟩, ?_⟩
  have e:=r.length
  simp only [Array.length_toList] at e
  omega
theorem Inv.list_inj (I:Inv X pins σ H s) (h:SqL X.K H a xs) (h' :SqL X.K H a ys):xs=ys:=by
 obtain ⟨its,r,⟨o,n,e,_,_,d⟩,_⟩:=I.list h
 obtain ⟨its',r',⟨o',n',e',_,_,d'⟩,_⟩:=I.list h'
 rw [e] at e'; cases e'
 rw [d] at d'
 injection d' with d1 _
 have:its=its' :=by simpa using congrArg Array.toList d1
 subst this
 exact r.inj r'
theorem Inv.tuple_inj (I:Inv X pins σ H s) (h:SqT X.K H a xs) (h' :SqT X.K H a ys):xs=ys:=by
 obtain ⟨its,r,⟨o,e,_,n,d⟩,_⟩:=I.tuple h
 obtain ⟨its',r',⟨o',e',_,n',d'⟩,_⟩:=I.tuple h'
 rw [e] at e'; cases e'
 rw [d] at d'
 injection d' with d1 _
 have:its=its' :=by simpa using congrArg Array.toList d1
 subst this
 exact r.inj r'
end
abbrev Cx.wish (X:Cx) (E:Value->Shared->Prop):Cx:={ X with xe:=E }
abbrev Cx.nox (X:Cx):Cx:=X.wish fun _ _=>False
theorem Cx.Ok.wish {X:Cx} (ok:X.Ok) (E:Value->Shared->Prop):(X.wish E).Ok:=
 ⟨ok.mod,ok.kind,ok.glob,ok.blt,ok.above,ok.inj,ok.has,ok.cab,ok.hd,ok.frames,ok.stk,ok.exf,ok.bs,ok.bsz,ok.noex,ok.exfs,ok.funs,ok.frf⟩
theorem Cx.Ok.unwish {X:Cx} {E:Value->Shared->Prop} (ok:(X.wish E).Ok):X.Ok:=
 ⟨ok.mod,ok.kind,ok.glob,ok.blt,ok.above,ok.inj,ok.has,ok.cab,ok.hd,ok.frames,ok.stk,ok.exf,ok.bs,ok.bsz,ok.noex,ok.exfs,ok.funs,ok.frf⟩
section
variable {X:Cx} {pins:List (Addr×Obj)} {σ:St} {H:Hp} {s:Shared} {E:Value->Shared->Prop}
theorem Inv.wish (I:Inv X pins σ H s) (E:Value->Shared->Prop):Inv (X.wish E) pins σ H s:=⟨I.ok.wish E,I.os,I.bare,I.base,I.loc,I.cell,I.free,I.freeC,I.pin,I.hok,I.len⟩
theorem Inv.unwish (I:Inv (X.wish E) pins σ H s):Inv X pins σ H s:=⟨I.ok.unwish,I.os,I.bare,I.base,I.loc,I.cell,I.free,I.freeC,I.pin,I.hok,I.len⟩
theorem SP.unwish {D:qe} {f:Flow} {s' :Shared} (h:SP (X.wish E) pins D f s'):SP X pins D f s' :=by
 cases f with
 | next=>obtain ⟨σ',H',I,q⟩:=h; exact ⟨σ',H',I.unwish,q⟩
 | brk=>obtain ⟨σ',H',I,q⟩:=h; exact ⟨σ',H',I.unwish,q⟩
 | cont=>obtain ⟨σ',H',I,q⟩:=h; exact ⟨σ',H',I.unwish,q⟩
 | ret u=>obtain ⟨v,σ',H',I,r,q⟩:=h; exact ⟨v,σ',H',I.unwish,r,q⟩
theorem PSs.nox {st:List Stmt} {t:TS} (h:PSs X.nox st t):PSs X st t:=fun pins s σ H D I hw=>
 wpAny_mono (h pins s σ H D (I.wish _) hw) (fun _ _ q=>q.unwish) fun _ _ z=>False.elim z
end
section
variable {X:Cx} {st:Stmt} {rest:List Stmt} {t u:TS} {e:Expr} {te:TE} {pos:Pos}
def Kh:TS:=fun D σ H=>D.nx σ H
def tSeq (t u:TS):TS:=fun D σ H=>t { D with nx:=u D } σ H
theorem vf:PSs X [] Kh:=fun _ _ σ H _ I h=>wpAny_execs_nil ⟨σ,H,I,h⟩
theorem qg (h1:PS X st t) (h2:PSs X rest u):PSs X (st :: rest) (tSeq t u):=by
 intro pins s σ H D I h
 refine wpAny_execs_cons (thn (h1 pins s σ H { D with nx:=u D } I h) fun f s1 q=> ?_)
 cases f with
 | next=>
  obtain ⟨σ',H',I',q⟩:=q
  exact h2 pins s1 σ' H' D I' q
 | ret v=>exact q
 | brk=>exact q
 | cont=>exact q
theorem vg (h1:PS X st t):PSs X [st] t:=by
 intro pins s σ H D I h
 refine wpAny_execs_cons (thn (h1 pins s σ H D I h) fun f s1 q=> ?_)
 cases f with
 | next=>exact wpAny_execs_nil q
 | ret v=>exact q
 | brk=>exact q
 | cont=>exact q
theorem Inv.quiet {pins:List (Addr×Obj)} {σ:St} {H:Hp} {s:Shared} (I:Inv X pins σ H s):interactive X.env=false:=by simp [interactive,I.ok.kind]
def Ki (te:TE):TS:=fun D σ H=>te σ H fun _ H1=>D.nx σ H1
theorem WY (he:PE X e te) (hs:swapsWith e none pos.line X.env=pure false:=by rfl):PS X (.Expr e pos) (Ki te):=by
 intro pins s σ H D I h
 exact wpAny_Expr_any (thn (he pins s σ H _ I h) fun v s1 ⟨x,H1,I1,r1,q1⟩=>⟨σ,H1,I1,q1⟩) I.quiet hs
def tRet (te:TE):TS:=fun D σ H=>te σ H D.rt
theorem Qh (he:PE X e te):PS X (.Return (some e) pos) (tRet te):=by
 intro pins s σ H D I h
 exact wpAny_Return_some (thn (he pins s σ H _ I h) fun v s1 ⟨x,H1,I1,r1,q1⟩=>⟨x,σ,H1,I1,r1,q1⟩)
def tIfS (c:TT) (t u:TS):TS:=fun D σ H=>c σ H fun b H1=>if b=true then t D σ H1 else u D σ H1
theorem Kj {c:Expr} {a b:List Stmt} {tc:TT} (hc:PT X c tc) (ha:PSs X a t) (hb:PSs X b u):PS X (.If c a b pos) (tIfS tc t u):=by
 intro pins s σ H D I h
 refine wpAny_If (thn (hc pins s σ H _ I h) fun d s1 ⟨H1,I1,q1⟩=> ?_)
 cases d with
 | true=>exact ha pins s1 σ H1 D I1 q1
 | false=>exact hb pins s1 σ H1 D I1 q1
end
abbrev TG:=V->St->Hp->(St->Hp->Prop)->Prop
abbrev TGs:=List V->St->Hp->(St->Hp->Prop)->Prop
def PG (X:Cx) (target:Expr) (t:TG):Prop:=
 ∀ (pins:List (Addr×Obj)) (s:Shared) (σ:St) (H:Hp) (v:V) (u:Value) (Q:St->Hp->Prop),Inv X pins σ H s->Zx v u->t v σ H Q->
  wpAny (model X.prog X.w) X.A (assign target X.env u) (fun _ s' =>∃ σ' H',Inv X pins σ' H' s' /\Q σ' H') X.xe s
def PGs (X:Cx) (ts:List Expr) (t:TGs):Prop:=
 ∀ (pins:List (Addr×Obj)) (s:Shared) (σ:St) (H:Hp) (vs:List V) (us:List Value) (Q:St->Hp->Prop),Inv X pins σ H s->Ze vs us->t vs σ H Q->
  wpAny (model X.prog X.w) X.A (assignInOrder ((assignEach ts X.env).map (·.2)) us) (fun _ s' =>∃ σ' H',Inv X pins σ' H' s' /\Q σ' H') X.xe s
section
variable {X:Cx} {pos:Pos}
def W9 (i:Nat):TG:=fun v σ H Q=>Q (σ.set i (some v)) H
theorem zC {i:Nat} {x:Str} (hN:X.N.Nodup) (hi:X.N[i]? =some x) (hx:Loc X.env.scope x) (hf:X.fn x=true\/X.env.scope.names.lookup x=some .local:=by first | exact .inl rfl | exact .inr rfl | assumption):PG X (.Name x pos) (W9 i):=by
 intro pins s σ H v u Q I r h
 exact wpAny_assign_Name (uq I hN hi hx r (fun s' I' =>⟨_,H,I',h⟩) hf)
def Kk:TGs:=fun vs σ H Q=>vs=[]/\Q σ H
def UU (t:TG) (u:TGs):TGs:=fun vs σ H Q=>∃ v r,vs=v :: r/\t v σ H fun σ' H' =>u r σ' H' Q
theorem JA:PGs X [] Kk:=by
 intro pins s σ H vs us Q I r h
 obtain ⟨e,h⟩:=h
 subst e
 cases r
 exact assignInOrder_nil ⟨σ,H,I,h⟩
theorem ZA {e:Expr} {es:List Expr} {t:TG} {u:TGs} (h1:PG X e t) (h2:PGs X es u)
  (hs:(assignEach (e :: es) X.env).map (·.2)=assign e X.env :: (assignEach es X.env).map (·.2):=by rfl):PGs X (e :: es) (UU t u):=by
 intro pins s σ H vs us Q I r h
 obtain ⟨v,vr,e1,h⟩:=h
 subst e1
 cases r with
 | cons r rr=>
  rw [hs]
  refine assignInOrder_cons (thn (h1 pins s σ H _ _ _ I r h) fun _ s1 ⟨σ1,H1,I1,q1⟩=> ?_)
  exact h2 pins s1 σ1 H1 _ _ Q I1 rr q1
def Kl (K:PySem.W.Frag) (n:Nat) (t:TGs):TG:=fun v σ H Q=>∃ a xs,v= .ref a/\SqT K H a xs/\xs.length=n/\t xs σ H Q
theorem Wa {es:List Expr} {k:Nat} {t:TGs} {n:Nat} (hc:X.calm=true) (h:PGs X es t)
  (hn:(assignEach es X.env).length=n:=by rfl) (hst:(assignEach es X.env).findIdx? (·.1)=none:=by rfl):PG X (.Tuple es k pos) (Kl X.K n t):=by
 intro pins s σ H v u Q I r hw
 obtain ⟨a,xs,e1,hq,hl,hw⟩:=hw
 subst e1
 cases r
 obtain ⟨its,rv,ht,hz⟩:=I.tuple hq
 refine assign_Tuple_tuple (I.ok.hd hc) ht (by simp [hn,← hl,rv.length]) hst fun h' hx=> ?_
 have I1:Inv X pins σ H { s with heap:=h' }:=I.kept (t' :=s.toks) fun b o e=>hx b o (Nat.ne_of_lt (Heap.lt_size e)) e
 exact h pins _ σ H xs _ Q I1 (by simpa using rv) hw
def tAsg (te:TE) (g:TG):TS:=fun D σ H=>te σ H fun x H1=>g x σ H1 D.nx
theorem UV {i:Nat} {x:Str} {e:Expr} {te:TE} {pos' :Pos} (hN:X.N.Nodup) (hi:X.N[i]? =some x) (hx:Loc X.env.scope x) (he:PE X e te) (hs:swapsWith e (some (.Name x pos')) pos.line X.env=pure false:=by rfl) (hf:X.fn x=true\/X.env.scope.names.lookup x=some .local:=by first | exact .inl rfl | exact .inr rfl | assumption):
  PS X (.Assign [.Name x pos'] e pos) (tAsg te (W9 i)):=by
 intro pins s σ H D I h
 refine wpAny_Assign_Name (thn (he pins s σ H _ I h) fun v s1 ⟨y,H1,I1,r1,q1⟩=> ?_) hs
 exact uq I1 hN hi hx r1 (fun s2 I2=>⟨_,H1,I2,q1⟩) hf
end
section
variable {X:Cx} {pos:Pos}
def xx (c:TT) (tb:TS):TS:=fun D σ H=>∃ W:Nat->St->Hp->Prop,(∃ m,W m σ H)/\∀ m σ H,W m σ H->
 c σ H fun b H1=>if b=true then ∃ N:St->Hp->Prop,(∀ σ' H',N σ' H' ->∃ m',m' < m/\W m' σ' H')/\tb { D with nx:=N,ct:=N,bk:=D.nx } σ H1 else D.nx σ H1
theorem qh {c:Expr} {body:List Stmt} {tc:TT} {tb:TS} (hp:PassesOwn (model X.prog X.w) X.A X.env X.xe) (hc:PT X c tc) (hb:PSs X body tb):PS X (.While c body [] pos) (xx tc tb):=by
 intro pins s σ H D I h
 obtain ⟨W,⟨m0,w0⟩,turn⟩:=h
 refine wpAny_While (codeAny_whileLoop (fun n s' =>∃ σ' H',Inv X pins σ' H' s' /\W n σ' H') ?_ m0 ⟨σ,H,I,w0⟩)
 rintro n s1 ⟨σ1,H1,I1,w1⟩
 refine wpAny_passesOwn hp (thn (hc pins s1 σ1 H1 _ I1 (turn n σ1 H1 w1)) fun b s2 ⟨H2,I2,q2⟩=> ?_)
 cases b with
 | true=>
  obtain ⟨N,hN,q2⟩:=q2
  rw [if_pos rfl]
  refine wpAny_passesOwn hp (thn (hb pins s2 σ1 H2 _ I2 q2) fun f s3 q3=> ?_)
  cases f with
  | next=>
   obtain ⟨σ3,H3,I3,n3⟩:=q3
   obtain ⟨m',hm,w3⟩:=hN σ3 H3 n3
   exact ⟨m',hm,σ3,H3,I3,w3⟩
  | cont=>
   obtain ⟨σ3,H3,I3,n3⟩:=q3
   obtain ⟨m',hm,w3⟩:=hN σ3 H3 n3
   exact ⟨m',hm,σ3,H3,I3,w3⟩
  | brk=>exact q3
  | ret v=>exact q3
 | false=>
  rw [if_neg Bool.false_ne_true]
  exact wpAny_execs_nil ⟨σ1,H2,I2,q2⟩
end
structure It where
 go:Nat->Hp->Prop
 yld:Nat->Hp->V->Hp->Prop
 stop:Nat->Hp->Prop
def W2 (X:Cx) (pins:List (Addr×Obj)) (H:Hp) (b:Addr):Prop:=
 H b=none/\b ≠ X.env.locals/\b ∉ X.fs/\(b∈X.ex\/X.s₀.heap.objs.size<=b)/\(∀ x c,X.env.cells.lookup x=some c->c ≠ b)/\∀ p∈X.pn++pins,p.1 ≠ b
theorem Inv.fpOk {X:Cx} {pins:List (Addr×Obj)} {σ:St} {H H' :Hp} {s:Shared} {b:Addr} (I:Inv X pins σ H s) (hb:s.heap.objs.size<=b) (hn:H' b=none):W2 X pins H' b:=by
 refine ⟨hn,Nat.ne_of_gt (Nat.lt_of_lt_of_le I.lt hb),I.nofs hb, .inr (Nat.le_trans I.sz hb),fun x c e z=> ?_,fun p hp z=> ?_⟩
 ·obtain ⟨v,q⟩:=I.cell x c e
  exact absurd (Nat.lt_of_lt_of_le q.lt (by rw [z]; exact hb)) (Nat.lt_irrefl _)
 ·exact absurd (Nat.lt_of_lt_of_le (Heap.lt_size (I.pin p hp).1) (by rw [z]; exact hb)) (Nat.lt_irrefl _)
structure Ud (P:Program) (w:World) (K:PySem.W.Frag) (tg:Expr) (J:It) (fp:List Addr) (it:Addr) (tn:Nat->Heap->Prop):Prop where
 mem:it∈fp
 obj:∀ i h,tn i h->∀ b∈fp,∃ o,h.get? b=some o/\∀ v,o.data ≠ .cell v
 keep:∀ i h h',tn i h->(∀ b∈fp,∀ o,h.get? b=some o->h'.get? b=some o)->tn i h'
 item:∀ (X:Cx),X.prog=P->X.w=w->X.K=K->X.calm=true->∀ (i:Nat) (pins:List (Addr×Obj)) (s:Shared) (σ:St) (H:Hp) (E:Value->Shared->Prop),Inv X pins σ H s->(∀ b∈fp,W2 X pins H b)->tn i s.heap->J.go i H->
  wpAny (model P w) X.A (pyNext (.ref it)) (fun r s1=>∃ u,r=some u/\
   wpAny (model P w) X.A (letOwnedTupleGo tg (.ref it) u) (fun _ s2=>∃ x H',Inv X pins σ H' s2/\Zx x u/\J.yld i H x H' /\tn (i+1) s2.heap/\∀ b∈fp,H' b=none) E s1) E s
 done:∀ (X:Cx),X.prog=P->X.w=w->X.K=K->X.calm=true->∀ (i:Nat) (pins:List (Addr×Obj)) (s:Shared) (σ:St) (H:Hp) (E:Value->Shared->Prop),Inv X pins σ H s->(∀ b∈fp,W2 X pins H b)->tn i s.heap->J.stop i H->
  wpAny (model P w) X.A (pyNext (.ref it)) (fun r s1=>r=none/\Inv X pins σ H s1) E s
 self:∀ (A:Around) (i:Nat) (s:Shared) (Q:Value->Shared->Prop) (E:Value->Shared->Prop),tn i s.heap->Q (.ref it) s->wpAny (model P w) A (pyIter (.ref it)) Q E s
abbrev TI:=St->Hp->(It->Hp->Prop)->Prop
def PIE (X:Cx) (pins:List (Addr×Obj)) (σ:St) (tg:Expr) (R:It->Hp->Prop) (itv:Value) (s2:Shared):Prop:=
 ∃ (it:Addr) (fp:List Addr) (tn:Nat->Heap->Prop) (J:It) (H' :Hp),itv= .ref it/\Inv X pins σ H' s2/\Ud X.prog X.w X.K tg J fp it tn/\tn 0 s2.heap/\(∀ b∈fp,W2 X pins H' b)/\R J H'
def PI (X:Cx) (tg iter:Expr) (wi:TI):Prop:=
 ∀ (pins:List (Addr×Obj)) (s:Shared) (σ:St) (H:Hp) (R:It->Hp->Prop),Inv X pins σ H s->wi σ H R->
  wpAny (model X.prog X.w) X.A (eval iter X.env) (fun v s1=>wpAny (model X.prog X.w) X.A (pyIter v) (PIE X pins σ tg R) X.xe s1) X.xe s
theorem Ue {M:Model} {A:Around} {E:Value->Shared->Prop} {s:Shared} {tg:Expr} {it:Addr} {u:Value} {o:Obj} {n:String} {vs:Array Value} {Q:Unit->Shared->Prop} (ho:s.heap.get? it=some o) (hc:o.cls= .type n) (hd:o.data= .fields vs)
  (hn:["enumerate","zip","dict_itemiterator","dict_reverseitemiterator","odict_iterator","itertools.zip_longest","itertools.pairwise"].contains n=false) (hQ:Q () s):wpAny M A (letOwnedTupleGo tg (.ref it) u) Q E s:=by
 unfold letOwnedTupleGo
 cases tg <;> first
  | exact wpAny_pure hQ
  | (cases u <;> first
    | exact wpAny_pure hQ
    | (refine wpAny_bind (wpAny_load ho ?_); rw [hc,hd]; show wpAny M A (if (["enumerate","zip","dict_itemiterator","dict_reverseitemiterator","odict_iterator","itertools.zip_longest","itertools.pairwise"].contains n && vs[0]? == some (rawInt _))=true then _ else _) Q E s; rw [if_neg (by intro h; rw [hn,Bool.false_and] at h; cases h)]; exact wpAny_pure hQ))
def Itl (K:PySem.W.Frag) (a:Addr):It:=
 ⟨fun i H=>∃ xs x,SqL K H a xs/\xs[i]? =some x,fun i H x H' =>H' =H/\∀ xs,SqL K H a xs->xs[i]? =some x,fun i H=>∃ xs,SqL K H a xs/\xs.length<=i⟩
def Itt (K:PySem.W.Frag) (a:Addr):It:=
 ⟨fun i H=>∃ xs x,SqT K H a xs/\xs[i]? =some x,fun i H x H' =>H' =H/\∀ xs,SqT K H a xs->xs[i]? =some x,fun i H=>∃ xs,SqT K H a xs/\xs.length<=i⟩
def Itr (lo:Int) (n:Nat):It:=⟨fun i _=>i < n,fun i H x H' =>H' =H/\x= .int (lo+i),fun i _=>n<=i⟩
theorem UW {P:Program} {w:World} {K:PySem.W.Frag} {tg:Expr} (a it:Addr):Ud P w K tg (Itl K a) [it] it (fun i h=>h.IsListIter it a i) where
 mem:=by simp
 obj:=fun i h st b hb=>by
  have e:b=it:=by simpa using hb
  subst e
  obtain ⟨o,e,c,d⟩:=st
  exact ⟨o,e,fun v z=>by rw [d] at z; cases z⟩
 keep:=fun i h h' st k=>st.at fun o e=>k it (by simp) o e
 item:=by
  intro X hP hw hK hc i pins s σ H E I hf st hg
  subst hP hw hK
  obtain ⟨xs,x,hq,hx⟩:=hg
  obtain ⟨its,rv,p,hz⟩:=I.list hq
  obtain ⟨u,hu,ru⟩:=rv.get hx
  obtain ⟨f0,f1,f2,f3,f4,f5⟩:=hf it (by simp)
  refine wpAny_pyNext_list_item st p.isList (x:=u) (by simpa using hu) fun h' st' sb=> ?_
  have I1:Inv X pins σ H { s with heap:=h' }:=I.turned (t' :=s.toks) (fun b o hb e=>(sb.2 b hb).trans e) f0 f1 f3 f4 f5
  obtain ⟨o,e,c,d⟩:=id st'
  exact ⟨u,rfl,Ue (s:={ s with heap:=h' }) e c d (by decide) ⟨x,H,I1,ru,⟨rfl,fun ys hy=>by rw [I.list_inj hy hq]; exact hx⟩,st',fun b hb=>(hf b hb).1⟩⟩
 done:=by
  intro X hP hw hK hc i pins s σ H E I hf st hg
  subst hP hw hK
  obtain ⟨xs,hq,hx⟩:=hg
  obtain ⟨its,rv,p,hz⟩:=I.list hq
  obtain ⟨f0,f1,f2,f3,f4,f5⟩:=hf it (by simp)
  have hl:=rv.length
  exact wpAny_pyNext_list_end (I.ok.hd hc) st p.isList (by simp; omega) fun h' eb=>⟨rfl,I.turned (t' :=s.toks) (fun b o hb e=>eb b o hb e) f0 f1 f3 f4 f5⟩
 self:=fun _ _ _ _ _ st h=>wpAny_pyIter_listiter st h
theorem Uf {P:Program} {w:World} {K:PySem.W.Frag} {tg:Expr} (a it:Addr):Ud P w K tg (Itt K a) [it] it (fun i h=>h.IsTupleIter it a i) where
 mem:=by simp
 obj:=fun i h st b hb=>by
  have e:b=it:=by simpa using hb
  subst e
  obtain ⟨o,e,c,d⟩:=st
  exact ⟨o,e,fun v z=>by rw [d] at z; cases z⟩
 keep:=fun i h h' st k=>st.at fun o e=>k it (by simp) o e
 item:=by
  intro X hP hw hK hc i pins s σ H E I hf st hg
  subst hP hw hK
  obtain ⟨xs,x,hq,hx⟩:=hg
  obtain ⟨its,rv,p,hz⟩:=I.tuple hq
  obtain ⟨u,hu,ru⟩:=rv.get hx
  obtain ⟨f0,f1,f2,f3,f4,f5⟩:=hf it (by simp)
  refine wpAny_pyNext_tuple_item st (show s.heap.IsTuple a its.toArray from p) (x:=u) (by simpa using hu) fun h' st' sb=> ?_
  have I1:Inv X pins σ H { s with heap:=h' }:=I.turned (t' :=s.toks) (fun b o hb e=>(sb.2 b hb).trans e) f0 f1 f3 f4 f5
  obtain ⟨o,e,c,d⟩:=id st'
  exact ⟨u,rfl,Ue (s:={ s with heap:=h' }) e c d (by decide) ⟨x,H,I1,ru,⟨rfl,fun ys hy=>by rw [I.tuple_inj hy hq]; exact hx⟩,st',fun b hb=>(hf b hb).1⟩⟩
 done:=by
  intro X hP hw hK hc i pins s σ H E I hf st hg
  subst hP hw hK
  obtain ⟨xs,hq,hx⟩:=hg
  obtain ⟨its,rv,p,hz⟩:=I.tuple hq
  obtain ⟨f0,f1,f2,f3,f4,f5⟩:=hf it (by simp)
  have hl:=rv.length
  exact wpAny_pyNext_tuple_end (I.ok.hd hc) st (show s.heap.IsTuple a its.toArray from p) (by simp; omega) fun h' eb=>⟨rfl,I.turned (t' :=s.toks) (fun b o hb e=>eb b o hb e) f0 f1 f3 f4 f5⟩
 self:=fun _ _ _ _ _ st h=>wpAny_pyIter_tupleiter st h
theorem Ug {P:Program} {w:World} {K:PySem.W.Frag} {tg:Expr} (it:Addr) (lo:Int) (n:Nat):Ud P w K tg (Itr lo n) [it] it (fun i h=>IsRangeIter h it (lo+(i:Nat)*1) ((n:Int) - (i:Nat)) 1) where
 mem:=by simp
 obj:=fun i h st b hb=>by
  have e:b=it:=by simpa using hb
  subst e
  exact ⟨_,st,fun v z=>by
   have z' :Data.fields _=Data.cell v:=z
   cases z'⟩
 keep:=fun i h h' st k=>k it (by simp) _ st
 item:=by
  intro X hP hw hK hc i pins s σ H E I hf st hg
  subst hP hw hK
  obtain ⟨f0,f1,f2,f3,f4,f5⟩:=hf it (by simp)
  have W:=Walks.range (prog:=X.prog) (w:=X.w) (I.ok.hd hc) it lo 1 n
  refine W.item i s _ _ hg st fun v h' tk hv st' kk=> ?_
  obtain ⟨t,rfl⟩:=hv
  have I1:Inv X pins σ H { s with heap:=h',toks:=tk }:=I.turned (fun b o hb e=>kk b o (by simpa using hb) e) f0 f1 f3 f4 f5
  refine ⟨_,rfl,Ue (s:={ s with heap:=h',toks:=tk }) (n:="range_iterator") st' rfl rfl (by decide) ⟨.int (lo+i),H,I1,⟨t, ?_⟩,⟨rfl,rfl⟩,st',fun b hb=>(hf b hb).1⟩⟩
  rw [Int.mul_one]
 done:=by
  intro X hP hw hK hc i pins s σ H E I hf st hg
  subst hP hw hK
  obtain ⟨f0,f1,f2,f3,f4,f5⟩:=hf it (by simp)
  exact wpAny_pyNext_range_end (I.ok.hd hc) st (by have:n<=i:=hg; omega) fun h' eb=>⟨rfl,I.turned (t' :=s.toks) (fun b o hb e=>eb b o hb e) f0 f1 f3 f4 f5⟩
 self:=fun _ _ _ _ _ st h=>wpAny_pyIter_rangeiter st h
end L2
namespace L2
open PySem PySem.Spec PyProof.Rows
section
variable {X:Cx} {tg:Expr}
theorem ur {pins:List (Addr×Obj)} {σ:St} {H:Hp} {s:Shared} {R:It->Hp->Prop} {E:Value->Shared->Prop} {lo hi:Int} {t u v:Tok} {tk:Nat} (I:Inv X pins σ H s) (h1: -(2 ^ 62)<=lo) (h2:lo < 2 ^ 62) (h3: -(2 ^ 62)<=hi) (h4:hi < 2 ^ 62)
  (q:R (Itr lo (hi - lo).toNat) H):wpAny (model X.prog X.w) X.A (pyIter (.ref s.heap.objs.size)) (PIE X pins σ tg R) E { s with heap:=s.heap.push { cls:= .type "range",data:= .fields #[.int lo t, .int hi u, .int 1 v] },toks:=tk }:=by
 refine wpAny_pyIter_range (IsRange.new ..) (small_one h1 h2 h3 h4) ?_
 have I1:Inv X pins σ H { s with heap:=s.heap.push { cls:= .type "range",data:= .fields #[.int lo t, .int hi u, .int 1 v] },toks:=tk }:=I.kept fun b o e=>Heap.get?_push_of_some _ e
 refine ⟨(s.heap.push { cls:= .type "range",data:= .fields #[.int lo t, .int hi u, .int 1 v] }).objs.size,[(s.heap.push { cls:= .type "range",data:= .fields #[.int lo t, .int hi u, .int 1 v] }).objs.size],_,_,H,rfl,
  I1.kept (t' :=tk) fun b o e=>Heap.get?_push_of_some _ e,Ug _ lo (hi - lo).toNat, ?_,fun b hb=> ?_,q⟩
 ·have e1:lo+((0:Nat):Int)*1=lo:=by simp
  have e2:(((hi - lo).toNat:Nat):Int) - ((0:Nat):Int)=Builtin.Range.rangeSize lo hi 1:=by rw [rangeSize_one]; split <;> omega
  show IsRangeIter _ _ (lo+((0:Nat):Int)*1) ((((hi - lo).toNat:Nat):Int) - ((0:Nat):Int)) 1
  rw [e1,e2]
  exact Heap.get?_push_size _ rfl
 ·have e:b=(s.heap.push { cls:= .type "range",data:= .fields #[.int lo t, .int hi u, .int 1 v] }).objs.size:=by simpa using hb
  subst e
  exact I1.fpOk (Nat.le_refl _) (I1.hok.fresh (Nat.le_refl _))
def Km (ta:TA):TI:=fun σ H R=>ta σ H fun vs H1=>∃ j:Int,vs=[.int j]/\ -(2 ^ 62)<=j/\j < 2 ^ 62/\R (Itr 0 j.toNat) H1
def Kn (ta:TA):TI:=fun σ H R=>ta σ H fun vs H1=>∃ i j:Int,vs=[.int i, .int j]/\(-(2 ^ 62)<=i/\i < 2 ^ 62/\ -(2 ^ 62)<=j/\j < 2 ^ 62)/\R (Itr i (j - i).toNat) H1
theorem UX {a:Expr} {ta:TA} {p pos:Pos} (hg:Gl X "range") (hm:X.mg "range"=none) (ha:PA X [a] ta) (hs:starEach [a] X.env=[(false,eval a X.env)]:=by rfl):PI X tg (.Call (.Name "range" p) [a] [] pos) (Km ta):=by
 intro pins s σ H R I h
 refine Call_ (jd I hg hm boot_range (PyProof.Rows.callWith_type1 (thn (ha pos pins s σ H _ I h) fun us s1 ⟨vs,H1,I1,r1,q1⟩=> ?_) hs rfl))
 obtain ⟨j,e,q1,q2,q⟩:=q1
 subst e
 cases r1 with
 | cons r rr=>
  cases rr
  obtain ⟨t,rfl⟩:=r
  exact call_range_1 (ur I1 (by omega) (by omega) q1 q2 (by simpa using q))
theorem UY {a b:Expr} {ta:TA} {p pos:Pos} (hg:Gl X "range") (hm:X.mg "range"=none) (ha:PA X [a,b] ta) (hs:starEach [a,b] X.env=[(false,eval a X.env),(false,eval b X.env)]:=by rfl) (hs2:starEach [b] X.env=[(false,eval b X.env)]:=by rfl):
  PI X tg (.Call (.Name "range" p) [a,b] [] pos) (Kn ta):=by
 intro pins s σ H R I h
 refine Call_ (jd I hg hm boot_range (PyProof.Rows.callWith_type1 (thn (ha pos pins s σ H _ I h) fun us s1 ⟨vs,H1,I1,r1,q1⟩=> ?_) (by rw [hs,hs2]) (by rw [hs2]; rfl)))
 obtain ⟨i,j,e,⟨q1,q2,q3,q4⟩,q⟩:=q1
 subst e
 cases r1 with
 | cons r rr=>
  cases rr with
  | cons r' rr=>
   cases rr
   obtain ⟨t,rfl⟩:=r
   obtain ⟨t',rfl⟩:=r'
   exact call_range_2 (ur I1 q1 q2 q3 q4 q)
def tFor (wi:TI) (g:TG) (tb:TS):TS:=fun D σ H=>wi σ H fun J H1=>∃ W:Nat->Nat->St->Hp->Prop,(∃ m,W 0 m σ H1)/\∀ i m σ H,W i m σ H->
 (J.stop i H/\D.nx σ H)\/(J.go i H/\∃ N:St->Hp->Prop,(∀ σ' H',N σ' H' ->∃ m',m' < m/\W (i+1) m' σ' H')/\∀ x H',J.yld i H x H' ->g x σ H' fun σ2 H2=>tb { D with nx:=N,ct:=N,bk:=D.nx } σ2 H2)
def Wb (fp:List Addr) (h:Heap):List (Addr×Obj):=fp.filterMap fun b=>(h.get? b).map fun o=>(b,o)
theorem jB {fp:List Addr} {h:Heap} {b:Addr} {o:Obj} (hb:b∈fp) (e:h.get? b=some o):(b,o)∈Wb fp h:=List.mem_filterMap.mpr ⟨b,hb,by rw [e]; rfl⟩
theorem UZ {fp:List Addr} {h:Heap} {p:Addr×Obj} (hp:p∈Wb fp h):p.1∈fp/\h.get? p.1=some p.2:=by
 obtain ⟨b,hb,e⟩:=List.mem_filterMap.mp hp
 cases q:h.get? b with
 | none=>rw [q] at e; cases e
 | some o=>
  rw [q] at e
  have e' :(b,o)=p:=Option.some.inj e
  subst e'
  exact ⟨hb,q⟩
theorem Inv.pinned {pins:List (Addr×Obj)} {σ:St} {H:Hp} {s:Shared} {fp:List Addr} (I:Inv X pins σ H s) (hf:∀ b∈fp,W2 X pins H b) (ho:∀ b∈fp,∃ o,s.heap.get? b=some o/\∀ v,o.data ≠ .cell v):Inv X (pins++Wb fp s.heap) σ H s:=
 I.pins_of fun p hp=>(List.mem_append.mp hp).elim (fun z=>I.pin p (List.mem_append_right _ z)) fun z=>by
  obtain ⟨hb,e⟩:=UZ z
  obtain ⟨f0,f1,f2,_⟩:=hf p.1 hb
  obtain ⟨o,e',d⟩:=ho p.1 hb
  rw [e] at e'; cases e'
  exact ⟨e,f0,f1,f2,d⟩
theorem Inv.unpinned {pins pl:List (Addr×Obj)} {σ:St} {H:Hp} {s:Shared} (I:Inv X (pins++pl) σ H s):Inv X pins σ H s:=I.pins_of fun p hp=>I.pin p (List.mem_append_right _ (List.mem_append_left _ hp))
theorem xy {iter:Expr} {body:List Stmt} {wi:TI} {g:TG} {tb:TS} {pos:Pos} (hp:PassesOwn (model X.prog X.w) X.A X.env X.xe) (hc:X.calm=true) (hi:PI X tg iter wi) (hg:PG X tg g) (hb:PSs X body tb)
  (hs:∀ x,foldedSetIterable iter X.env x=pure x:=by intro _; rfl):PS X (.For tg iter body [] pos) (tFor wi g tb):=by
 intro pins s σ H D I h
 refine wpAny_For (thn (hi pins s σ H _ I h) fun v s1 h1=>thn h1 fun itv s2 h2=> ?_) hs
 obtain ⟨it,fp,tn,J,H2,e,I2,T,st2,f2,W,⟨m0,w0⟩,turn⟩:=h2
 subst e
 have stat:∀ {H' :Hp},(∀ b∈fp,H' b=none)->∀ b∈fp,W2 X pins H' b:=fun hn b hb=>⟨hn b hb,(f2 b hb).2⟩
 refine codeAny_forLoop_any (fun n s' =>∃ i σ' H',Inv X pins σ' H' s' /\tn i s'.heap/\(∀ b∈fp,H' b=none)/\W i n σ' H') ?_ m0 ⟨0,σ,H2,I2,st2,fun b hb=>(f2 b hb).1,w0⟩
 rintro n s3 ⟨i,σ3,H3,I3,st3,fr3,w3⟩
 rcases turn i n σ3 H3 w3 with ⟨stop,qn⟩ | ⟨go,N,hN,step⟩
 ·refine wpAny_passesOwn hp (thn (T.done X rfl rfl rfl hc i pins s3 σ3 H3 X.xe I3 (stat fr3) st3 stop) fun r s4 ⟨hr,I4⟩=> ?_)
  subst hr
  exact wpAny_execs_nil ⟨σ3,H3,I4,qn⟩
 ·refine wpAny_passesOwn hp (thn (T.item X rfl rfl rfl hc i pins s3 σ3 H3 X.xe I3 (stat fr3) st3 go) fun r s4 ⟨u,hr,h4⟩=> ?_)
  subst hr
  refine wpAny_passesOwn hp (thn h4 fun _ s5 ⟨x,H5,I5,r5,y5,st5,fr5⟩=> ?_)
  have I5' :=I5.pinned (stat fr5) (T.obj _ _ st5)
  refine wpAny_passesOwn hp (thn (hg _ s5 σ3 H5 x u _ I5' r5 (step x H5 y5)) fun _ s6 ⟨σ6,H6,I6,q6⟩=> ?_)
  refine wpAny_passesOwn hp (thn (hb _ s6 σ6 H6 _ I6 q6) fun f s7 q7=> ?_)
  have again:∀ {σ7:St} {H7:Hp},Inv X (pins++Wb fp s5.heap) σ7 H7 s7->N σ7 H7->∃ m,m < n/\∃ i σ' H',Inv X pins σ' H' s7/\tn i s7.heap/\(∀ b∈fp,H' b=none)/\W i m σ' H' :=fun {σ7 H7} I7 n7=>by
   obtain ⟨m',hm,w7⟩:=hN σ7 H7 n7
   refine ⟨m',hm,i+1,σ7,H7,I7.unpinned,T.keep _ _ _ st5 fun b hb o e=>(I7.pin (b,o) (List.mem_append_right _ (List.mem_append_right _ (jB hb e)))).1,fun b hb=> ?_,w7⟩
   obtain ⟨o,e,d⟩:=T.obj _ _ st5 b hb
   exact (I7.pin (b,o) (List.mem_append_right _ (List.mem_append_right _ (jB hb e)))).2.1
  cases f with
  | next=>obtain ⟨σ7,H7,I7,n7⟩:=q7; exact again I7 n7
  | cont=>obtain ⟨σ7,H7,I7,n7⟩:=q7; exact again I7 n7
  | brk=>obtain ⟨σ7,H7,I7,q7⟩:=q7; exact ⟨σ7,H7,I7.unpinned,q7⟩
  | ret v=>obtain ⟨x7,σ7,H7,I7,r7,q7⟩:=q7; exact ⟨x7,σ7,H7,I7.unpinned,r7,q7⟩
end
end L2
namespace L2
open PySem PySem.Spec PyProof.Rows
abbrev R2:=V->V->Hp->VK->Prop
def OpR (X:Cx) (f:Value->Value->Sem Value) (r:R2):Prop:=
 ∀ (pins:List (Addr×Obj)) (s:Shared) (σ:St) (H:Hp) (x y:V) (v u:Value) (Q:VK),Inv X pins σ H s->Zx x v->Zx y u->r x y H Q->
  wpAny (model X.prog X.w) X.A (f v u) (EP X pins σ Q) X.xe s
def UnR (X:Cx) (f:Value->Sem Value) (r:V->Hp->VK->Prop):Prop:=
 ∀ (pins:List (Addr×Obj)) (s:Shared) (σ:St) (H:Hp) (x:V) (v:Value) (Q:VK),Inv X pins σ H s->Zx x v->r x H Q->
  wpAny (model X.prog X.w) X.A (f v) (EP X pins σ Q) X.xe s
def ZS (X:Cx) (f:Value) (r:List V->Hp->VK->Prop):Prop:=
 ∀ (pins:List (Addr×Obj)) (s:Shared) (σ:St) (H:Hp) (xs:List V) (us:List Value) (Q:VK),Inv X pins σ H s->Ze xs us->r xs H Q->
  wpAny (model X.prog X.w) X.A (call f us) (EP X pins σ Q) X.xe s
def TruR (X:Cx) (r:V->Hp->(Bool->Hp->Prop)->Prop):Prop:=
 ∀ (pins:List (Addr×Obj)) (s:Shared) (σ:St) (H:Hp) (x:V) (v:Value) (Q:Bool->Hp->Prop),Inv X pins σ H s->Zx x v->r x H Q->
  wpAny (model X.prog X.w) X.A (truthy v) (TP X pins σ Q) X.xe s
def tOp (r:R2) (ta tb:TE):TE:=fun σ H Q=>ta σ H fun x H1=>tb σ H1 fun y H2=>r x y H2 Q
def tUn (r:V->Hp->VK->Prop) (ta:TE):TE:=fun σ H Q=>ta σ H fun x H1=>r x H1 Q
def rI (C:Int->Int->Prop) (g:Int->Int->V):R2:=fun x y H Q=>∃ i j,x= .int i/\y= .int j/\C i j/\Q (g i j) H
def rI0 (g:Int->Int->V):R2:=fun x y H Q=>∃ i j,x= .int i/\y= .int j/\Q (g i j) H
def rU (g:Int->V):V->Hp->VK->Prop:=fun x H Q=>∃ i,x= .int i/\Q (g i) H
section
variable {X:Cx} {a b c:Expr} {ta tb tc:TE} {pos:Pos}
theorem Ko (ha:PE X a ta) (hb:PE X b tb) {pins:List (Addr×Obj)} {s:Shared} {σ:St} {H:Hp} {R:V->V->Hp->Prop} (I:Inv X pins σ H s)
  (h:ta σ H fun x H1=>tb σ H1 fun y H2=>R x y H2) {Q:Value->Shared->Prop} {f:Value->Value->Sem Value}
  (hf:∀ v u s2 x y H2,Inv X pins σ H2 s2->Zx x v->Zx y u->R x y H2->wpAny (model X.prog X.w) X.A (f v u) Q X.xe s2):
  wpAny (model X.prog X.w) X.A (eval a X.env) (fun v s₁=>wpAny (model X.prog X.w) X.A (eval b X.env) (fun u s₂=>wpAny (model X.prog X.w) X.A (f v u) Q X.xe s₂) X.xe s₁) X.xe s:=by
 refine thn (ha pins s σ H _ I h) fun v s1 ⟨x,H1,I1,r1,q1⟩=> ?_
 refine thn (hb pins s1 σ H1 _ I1 q1) fun u s2 ⟨y,H2,I2,r2,q2⟩=> ?_
 exact hf v u s2 x y H2 I2 r1 r2 q2
theorem Kp {op:Operator} {r:R2} (ho:OpR X (binaryOp op) r) (ha:PE X a ta) (hb:PE X b tb):PE X (.BinOp a op b pos) (tOp r ta tb):=by
 intro pins s σ H Q I h
 exact wpAny_BinOp (Ko ha hb I h fun v u s2 x y H2 I2 rx ry q=>ho pins s2 σ H2 x y v u Q I2 rx ry q)
theorem Kq {op:UnaryOp} {r:V->Hp->VK->Prop} (ho:UnR X (unaryOp op) r) (ha:PE X a ta):PE X (.UnaryOp op a pos) (tUn r ta):=by
 intro pins s σ H Q I h
 exact UnaryOp_ (thn (ha pins s σ H _ I h) fun v s1 ⟨x,H1,I1,r1,q1⟩=>ho pins s1 σ H1 x v Q I1 r1 q1)
theorem opI {f:Value->Value->Sem Value} {C:Int->Int->Prop} {g:Int->Int->Int}
  (rule:∀ (i j:Int) (t u:Tok) (s:Shared) (Q:Value->Shared->Prop) (E:Value->Shared->Prop),C i j->Q (.int (g i j) s.toks) { s with toks:=s.toks+1 }->wpAny (model X.prog X.w) X.A (f (.int i t) (.int j u)) Q E s):
  OpR X f (rI C fun i j=> .int (g i j)):=by
 intro pins s σ H x y v u Q I rx ry h
 obtain ⟨i,j,rfl,rfl,hc,q⟩:=h
 obtain ⟨t,rfl⟩:=rx
 obtain ⟨t',rfl⟩:=ry
 exact rule i j t t' s _ _ hc ⟨.int (g i j),H,I.tok _,⟨_,rfl⟩,q⟩
theorem Gz {f:Value->Value->Sem Value} {g:Int->Int->Int}
  (rule:∀ (i j:Int) (t u:Tok) (s:Shared) (Q:Value->Shared->Prop) (E:Value->Shared->Prop),Q (.int (g i j) s.toks) { s with toks:=s.toks+1 }->wpAny (model X.prog X.w) X.A (f (.int i t) (.int j u)) Q E s):
  OpR X f (rI0 fun i j=> .int (g i j)):=by
 intro pins s σ H x y v u Q I rx ry h
 obtain ⟨i,j,rfl,rfl,q⟩:=h
 obtain ⟨t,rfl⟩:=rx
 obtain ⟨t',rfl⟩:=ry
 exact rule i j t t' s _ _ ⟨.int (g i j),H,I.tok _,⟨_,rfl⟩,q⟩
theorem Kr {f:Value->Value->Sem Value} {g:Int->Int->Bool}
  (rule:∀ (i j:Int) (t u:Tok) (s:Shared) (Q:Value->Shared->Prop) (E:Value->Shared->Prop),Q (.bool (g i j)) s->wpAny (model X.prog X.w) X.A (f (.int i t) (.int j u)) Q E s):
  OpR X f (rI0 fun i j=> .bl (g i j)):=by
 intro pins s σ H x y v u Q I rx ry h
 obtain ⟨i,j,rfl,rfl,q⟩:=h
 obtain ⟨t,rfl⟩:=rx
 obtain ⟨t',rfl⟩:=ry
 exact rule i j t t' s _ _ ⟨.bl (g i j),H,I,rfl,q⟩
def CDiv (i j:Int):Prop:=0 < j/\j < 1073741824
def W3 (i j:Int):Prop:=(-(2 ^ 64) < i/\i < 2 ^ 64)\/(-(2 ^ 64) < j/\j < 2 ^ 64)
theorem W3.ok {i j:Int} (h:W3 i j):IntMulOk i j:=by
 rcases h with ⟨h1,h2⟩ | ⟨h1,h2⟩
 ·exact .of_left (intBits_le_64 h1 h2)
 ·exact .of_right (intBits_le_64 h1 h2)
theorem xz:OpR X (binaryOp .Add) (rI0 fun i j=> .int (i+j)):=Gz fun _ _ _ _ _ _ _ q=>add_int q
theorem xA:OpR X (binaryOp .Sub) (rI0 fun i j=> .int (i - j)):=Gz fun _ _ _ _ _ _ _ q=>sub_int q
theorem xB:OpR X (binaryOp .Mult) (rI W3 fun i j=> .int (i*j)):=opI fun _ _ _ _ _ _ _ hc q=>mul_int q hc.ok
theorem vh:OpR X (binaryOp .FloorDiv) (rI CDiv fun i j=> .int (i / j)):=opI fun i j _ _ _ _ _ hc q=>by
 have h1:(0:Int) < j:=hc.1
 have h2:j < 1073741824:=hc.2
 exact floordiv_int (by omega) (by rw [Int.fdiv_eq_ediv_of_nonneg i (by omega)]; exact q) (.inl (PyProof.noPylong_small (by omega)))
theorem xC:OpR X (binaryOp .Mod) (rI (fun _ j=>0 < j) fun i j=> .int (i % j)):=opI fun i j _ _ _ _ _ hc q=>by
 have h1:(0:Int) < j:=hc
 exact mod_int' (by omega) (by rw [Int.fmod_eq_emod_of_nonneg i (by omega)]; exact q)
theorem unI {f:Value->Sem Value} {g:Int->Int}
  (rule:∀ (i:Int) (t:Tok) (s:Shared) (Q:Value->Shared->Prop) (E:Value->Shared->Prop),Q (.int (g i) s.toks) { s with toks:=s.toks+1 }->wpAny (model X.prog X.w) X.A (f (.int i t)) Q E s):
  UnR X f (rU fun i=> .int (g i)):=by
 intro pins s σ H x v Q I rx h
 obtain ⟨i,rfl,q⟩:=h
 obtain ⟨t,rfl⟩:=rx
 exact rule i t s _ _ ⟨.int (g i),H,I.tok _,⟨_,rfl⟩,q⟩
theorem xD:UnR X (unaryOp .USub) (rU fun i=> .int (-i)):=unI fun _ _ _ _ _ q=>neg_int q
theorem y0:OpR X (binaryOp .Add) (fun x y H Q=>∃ i k,x= .int i/\y= .bl k/\Q (.int (i+b2i k)) H):=by
 intro pins s σ H x y v u Q I rx ry h
 obtain ⟨i,k,rfl,rfl,q⟩:=h
 obtain ⟨t,rfl⟩:=rx
 cases ry
 exact add_int_bool ⟨.int (i+b2i k),H,I.tok _,⟨_,rfl⟩,q⟩
end
section
variable {X:Cx} {a b c:Expr} {ta tb tc:TE} {pos:Pos}
theorem Ks:OpR X (compareOp .Lt) (rI0 fun i j=> .bl (decide (i < j))):=Kr fun _ _ _ _ _ _ _ q=>lt_int q
theorem Kt:OpR X (compareOp .LtE) (rI0 fun i j=> .bl (decide (i<=j))):=Kr fun _ _ _ _ _ _ _ q=>le_int q
theorem Ku:OpR X (compareOp .Gt) (rI0 fun i j=> .bl (decide (j < i))):=Kr fun _ _ _ _ _ _ _ q=>gt_int q
theorem zl (b:Expr) {op:CmpOp} (h:op ≠ .In:=by decide) (h2:op ≠ .NotIn:=by decide):behindInMarks op b=false:=by
 have e1:(op == CmpOp.In)=false:=by cases op <;> first | rfl | exact absurd rfl h
 have e2:(op == CmpOp.NotIn)=false:=by cases op <;> first | rfl | exact absurd rfl h2
 cases b <;> simp [behindInMarks,e1,e2]
theorem vi {op:CmpOp} {r:R2} (ho:OpR X (compareOp op) r) (ha:PE X a ta) (hb:PE X b tb) (hm:behindInMarks op b=false):PE X (.Compare a [op] [b] pos) (tOp r ta tb):=by
 intro pins s σ H Q I h
 exact wpAny_Compare1 (Ko ha hb I h fun v u s2 x y H2 I2 rx ry q=>ho pins s2 σ H2 x y v u Q I2 rx ry q) hm
def xE (t:TE):TT:=fun σ H Q=>t σ H fun x H' =>∃ k,x= .bl k/\Q k H'
theorem vj {op:CmpOp} {r:R2} (ho:OpR X (compareOp op) r) (ha:PE X a ta) (hb:PE X b tb) (hm:behindInMarks op b=false):PT X (.Compare a [op] [b] pos) (xE (tOp r ta tb)):=by
 intro pins s σ H Q I h
 refine wpAny_isTrue_Compare1 (thn (ha pins s σ H _ I h) fun v s1 ⟨x,H1,I1,r1,q1⟩=>thn (hb pins s1 σ H1 _ I1 q1) fun u s2 ⟨y,H2,I2,r2,q2⟩=>
  thn (ho pins s2 σ H2 x y v u _ I2 r1 r2 q2) fun c s3 ⟨z,H3,I3,r3,k,e,q3⟩=> ?_) hm
 subst e
 cases r3
 exact wpAny_truthy_bool ⟨H3,I3,q3⟩
def Qi (r r' :R2) (ta tb tc:TE):TE:=fun σ H Q=>ta σ H fun x H1=>tb σ H1 fun y H2=>r x y H2 fun z H3=>∃ k,z= .bl k/\
 (if k=true then tc σ H3 fun w' H4=>r' y w' H4 Q else Q (.bl false) H3)
theorem qi {op op' :CmpOp} {r r' :R2} (ho:OpR X (compareOp op) r) (ho' :OpR X (compareOp op') r') (ha:PE X a ta) (hb:PE X b tb) (hc:PE X c tc)
  (hm:lastMarks [op,op'] [b,c]=false:=by with_unfolding_all rfl):PE X (.Compare a [op,op'] [b,c] pos) (Qi r r' ta tb tc):=by
 intro pins s σ H Q I h
 refine Compare_chain (thn (ha pins s σ H _ I h) fun v s1 ⟨x,H1,I1,r1,q1⟩=>chain_link (thn (hb pins s1 σ H1 _ I1 q1) fun u s2 ⟨y,H2,I2,r2,q2⟩=>
  thn (ho pins s2 σ H2 x y v u _ I2 r1 r2 q2) fun d s3 ⟨z,H3,I3,r3,k,e,q3⟩=> ?_)) hm
 subst e
 cases r3
 refine wpAny_truthy_bool ?_
 cases k with
 | false=>exact ite_ff ⟨.bl false,H3,I3,rfl,q3⟩
 | true=>exact ite_tt (chain_last (thn (hc pins s3 σ H3 _ I3 q3) fun w' s4 ⟨z',H4,I4,r4,q4⟩=>ho' pins s4 σ H4 y z' u w' Q I4 r2 r4 q4))
theorem qj {op op' :CmpOp} {r r' :R2} (ho:OpR X (compareOp op) r) (ho' :OpR X (compareOp op') r') (ha:PE X a ta) (hb:PE X b tb) (hc:PE X c tc)
  (hm:lastMarks [op,op'] [b,c]=false:=by with_unfolding_all rfl):PT X (.Compare a [op,op'] [b,c] pos) (xE (Qi r r' ta tb tc)):=by
 intro pins s σ H Q I h
 refine isTrue_chain (thn (ha pins s σ H _ I h) fun v s1 ⟨x,H1,I1,r1,q1⟩=>test_link (thn (hb pins s1 σ H1 _ I1 q1) fun u s2 ⟨y,H2,I2,r2,q2⟩=>
  thn (ho pins s2 σ H2 x y v u _ I2 r1 r2 q2) fun d s3 ⟨z,H3,I3,r3,k,e,q3⟩=> ?_)) hm
 subst e
 cases r3
 refine wpAny_truthy_bool ?_
 cases k with
 | false=>
  obtain ⟨k',e',q'⟩:=q3
  cases e'
  exact ite_ff ⟨H3,I3,q'⟩
 | true=>
  refine ite_tt (test_last (thn (hc pins s3 σ H3 _ I3 q3) fun w' s4 ⟨z',H4,I4,r4,q4⟩=>thn (ho' pins s4 σ H4 y z' u w' _ I4 r2 r4 q4) fun d' s5 ⟨z2,H5,I5,r5,k2,e2,q5⟩=> ?_))
  subst e2
  cases r5
  exact wpAny_truthy_bool ⟨H5,I5,q5⟩
def GA (K:PySem.W.Frag) (x:V) (H:Hp) (k:Bool):Prop:=
 match x with
 | .non=>k=false
 | .bl b=>k=b
 | .int i=>k=(i != 0)
 | .str y=>y.length<=sizeLine/\k=((y.length:Int) != 0)
 | .byt y=>y.size<=sizeLine/\k=((y.size:Int) != 0)
 | .ref p=>(∃ xs,SqL K H p xs/\k= !xs.isEmpty)\/(∃ xs,SqT K H p xs/\k= !xs.isEmpty)\/∃ kvs,H p=some (.dK kvs)/\k= !kvs.isEmpty
 | _=>False
theorem Uh {κ:Type} {kvs:List (κ×V)} {vs:List (κ×Value)} (r:KV kvs vs):(!vs.isEmpty)= !kvs.isEmpty:=by
 cases r <;> rfl
theorem wf {xs:List V} {its:List Value} (r:Ze xs its):(!its.toArray.isEmpty)= !xs.isEmpty:=by
 cases r <;> simp
theorem wg:(sizeLine:Nat) < 2 ^ 63:=by rw [sizeLine_eq]; decide
theorem xF:TruR X (fun x H Q=>∃ k,GA X.K x H k/\Q k H):=by
 intro pins s σ H x v Q I rx h
 obtain ⟨k,e,q⟩:=h
 have hl:=wg
 have hs:sizeLine=16777216:=sizeLine_eq
 cases x with
 | non=>
  cases rx
  have e' :k=false:=e
  subst e'
  exact truthy_none ⟨H,I,q⟩
 | bl b=>
  cases rx
  have e' :k=b:=e
  subst e'
  exact wpAny_truthy_bool ⟨H,I,q⟩
 | int i=>
  obtain ⟨t,rfl⟩:=rx
  have e' :k=(i != 0):=e
  subst e'
  exact PySem.P.truthy_int ⟨H,I,q⟩
 | str y=>
  obtain ⟨t,rfl⟩:=rx
  obtain ⟨hy,e'⟩:y.length<=sizeLine/\k=((y.length:Int) != 0):=e
  subst e'
  exact PySem.P.truthy_str (by omega) ⟨H,I.tok _,q⟩
 | byt y=>
  obtain ⟨t,rfl⟩:=rx
  obtain ⟨hy,e'⟩:y.size<=sizeLine/\k=((y.size:Int) != 0):=e
  subst e'
  exact PySem.W.truthy_bytes (by omega) ⟨H,I.tok _,q⟩
 | ref p=>
  cases rx
  have e' :(∃ xs,SqL X.K H p xs/\k= !xs.isEmpty)\/(∃ xs,SqT X.K H p xs/\k= !xs.isEmpty)\/∃ kvs,H p=some (.dK kvs)/\k= !kvs.isEmpty:=e
  rcases e' with ⟨xs,hx,e'⟩ | ⟨xs,hx,e'⟩ | ⟨kvs,hx,e'⟩
  ·subst e'
   obtain ⟨its,r,pl,hz⟩:=I.list hx
   have hlen:=r.length
   exact wpAny_truthy_list pl.isList (by simp only [List.size_toArray]; omega) ⟨H,I.tok _,by rw [wf r]; exact q⟩
  ·subst e'
   obtain ⟨its,r,pl,hz⟩:=I.tuple hx
   have hlen:=r.length
   exact truthy_tuple pl (by simp only [List.size_toArray]; omega) ⟨H,I.tok _,by rw [wf r]; exact q⟩
  ·subst e'
   obtain ⟨hz,hS,vs,r,m⟩:kvs.length<=sizeLine/\(p == sysModules)=false/\∃ vs,KV kvs vs/\s.heap.DictOf (WW X.prog X.w) p vs:=I.hok p _ hx
   have hlen:kvs.length=vs.length:=Paired.length r
   exact wpAny_truthy_dict hS m (by omega) ⟨H,I.tok _,by rw [Uh r]; exact q⟩
 | _=>exact (show False from e).elim
theorem qk (ha:PE X a ta) (he:∀ whole,isTrue a X.env whole=(do let v ← whole; standAt a.pos; holding [v] (truthy v))):
  PT X a (fun σ H Q=>ta σ H fun x H' =>∃ k,GA X.K x H' k/\Q k H'):=by
 intro pins s σ H Q I h
 exact isTrue_plain (thn (ha pins s σ H _ I h) fun v s1 ⟨x,H1,I1,r1,q1⟩=>xF pins s1 σ H1 x v Q I1 r1 q1) (he _)
theorem Ui:OpR X (binaryOp .Add) (fun x y H Q=>∃ i j,x= .str i/\y= .str j/\i.length+j.length<=sizeLine/\Q (.str (i++j)) H):=by
 intro pins s σ H x y v u Q I rx ry h
 obtain ⟨i,j,rfl,rfl,hz,q⟩:=h
 obtain ⟨t,rfl⟩:=rx
 obtain ⟨t',rfl⟩:=ry
 exact add_str (fun t' tk=>⟨.str (i++j),H,I.tok _,⟨_,rfl⟩,q⟩) hz
theorem ZT {x:V} {us:List Value} (r:Ze [x] us):∃ u,us=[u]/\Zx x u:=by
 cases r with
 | cons r1 r2=>cases r2; exact ⟨_,rfl,r1⟩
theorem y6 {x y:V} {us:List Value} (r:Ze [x,y] us):∃ u w',us=[u,w']/\Zx x u/\Zx y w' :=by
 cases r with
 | cons r1 r2=>
  cases r2 with
  | cons r3 r4=>cases r4; exact ⟨_,_,rfl,r1,r3⟩
theorem y7 (hc:X.calm=true):ZS X (.builtin "min") (fun xs H Q=>∃ i j,xs=[.int i, .int j]/\Q (.int (if j < i then j else i)) H):=by
 intro pins s σ H xs us Q I r h
 obtain ⟨i,j,rfl,q⟩:=h
 obtain ⟨u,w',rfl,⟨t,rfl⟩,⟨t',rfl⟩⟩:=y6 r
 refine min_two_ints (I.ok.hd hc) fun h' tk k=>⟨_,H,I.kept k, ?_,q⟩
 by_cases hj:j < i
 ·rw [if_pos hj,if_pos hj]; exact ⟨_,rfl⟩
 ·rw [if_neg hj,if_neg hj]; exact ⟨_,rfl⟩
theorem y8:ZS X (.type "int") (fun xs H Q=>(∃ i,xs=[.int i]/\Q (.int i) H)\/∃ k,xs=[.bl k]/\Q (.int (if k then 1 else 0)) H):=by
 intro pins s σ H xs us Q I r h
 rcases h with ⟨i,rfl,q⟩ | ⟨k,rfl,q⟩
 ·obtain ⟨u,rfl,t,rfl⟩:=ZT r
  exact call_int_int ⟨.int i,H,I,⟨_,rfl⟩,q⟩
 ·obtain ⟨u,rfl,r1⟩:=ZT r
  cases r1
  exact call_int_bool ⟨.int (if k then 1 else 0),H,I.tok _,⟨_,rfl⟩,q⟩
end
end L2
namespace L2
open PySem PySem.Spec PyProof.Rows
structure Kv (h:Heap) (x dx C:Addr) (mA:Str->Option Value):Prop where
 obj:h.get? x=some (PySem.W.instObj C dx)
 ns:h.Ns1 dx mA
 ne:dx ≠ x
theorem y9 {h:Heap} {dx:Addr} {mA:Str->Option Value} (n:h.Ns1 dx mA):∃ od,h.get? dx=some od/\∀ name,PySem.W.lookIn name od=some (mA name):=by
 obtain ⟨o,es,ep,ho,hd,hk,_,hm⟩:=n
 refine ⟨o,ho,fun name=> ?_⟩
 have e:=hm name
 unfold nsFind findBy at e
 rw [← Array.find?_toList] at e
 unfold PySem.W.lookIn
 rw [hd]
 dsimp only
 split
 ·rename_i y q
  rw [q] at e
  exact congrArg some e
 ·rename_i q
  rw [q] at e
  have a:es.toList.any (·.refKey)=false:=by
   rw [List.any_eq_false]
   intro y hy
   obtain ⟨z,t,hkey⟩:=hk y (Array.mem_toList_iff.mp hy)
   simp [DictEntry.refKey,hkey]
  have a' :¬ es.toList.any (·.refKey)=true:=by rw [a]; exact Bool.false_ne_true
  rw [if_neg a']
  exact congrArg some e
theorem Kv.look {h:Heap} {x dx C:Addr} {mA:Str->Option Value} (I:Kv h x dx C mA):∃ od,PySem.W.InstAt h x (PySem.W.instObj C dx) C (some od)/\∀ name,PySem.W.lookIn name od=some (mA name):=
 let ⟨od,ho,hl⟩:=y9 I.ns
 ⟨od,⟨I.obj,rfl,rfl,ho⟩,hl⟩
section
variable {prog:Program} {w:World} {A:Around} {E:Value->Shared->Prop} {s:Shared} {K:PySem.W.Frag} {x dx C f:Addr} {mA:Str->Option Value} {name:Str} {v:Value}
end
section
variable {P:Program} {w:World} {H H' :Hp} {h h' :Heap} {a C dx:Addr} {fs fs' :List (Str×V)}
theorem vk (hok:HOk P w H h) (e:H a=some (.ins C dx fs)):∃ mA,Kv h a dx C mA/\(∀ f,Ka (fs.lookup f) (mA f))/\PySem.Within mA (fs.map (·.1))/\fs.length<=1000/\H dx=some (.own a):=by
 obtain ⟨d,z,ne,ob,mA,n,r,q⟩:=(show ZF P w H h a (.ins C dx fs) from hok a _ e)
 exact ⟨mA,⟨ob,n,ne⟩,r,q,z,d⟩
end
structure Cls (K:PySem.W.Frag) (C:Addr):Prop where
 pg:PySem.W.plainGet K C Str.empty=true
 hd:PySem.W.hasDictIn K C=true
 po:PySem.W.plainOver K C=true
 sa:PySem.W.findIn K (.ref C) "__setattr__"=some (some (.builtin "object.__setattr__"))
theorem Cls.get {K:PySem.W.Frag} {C:Addr} (c:Cls K C) (f:Str):PySem.W.plainGet K C f=true:=c.pg
section
variable {X:Cx} {pins:List (Addr×Obj)} {σ:St} {H:Hp} {s:Shared} {a C dx:Addr} {fs:List (Str×V)} {f:Str} {v:V} {A:Around} {E:Value->Shared->Prop}
end
section
variable {X:Cx} {o e value:Expr} {f:Str} {pos pos' tpos:Pos} {ta tv:TE}
end
section
variable {X:Cx} {pins:List (Addr×Obj)} {σ:St} {H:Hp} {s:Shared} {A:Around} {E:Value->Shared->Prop} {Q:Value->Shared->Prop} {c:Value} {b:Bool}
inductive Uj (K:PySem.W.Frag) (H:Hp):V->Value->Prop where
 | non:Uj K H .non (.type "NoneType")
 | bl (x:Bool):Uj K H (.bl x) (.type "bool")
 | int (i:Int):Uj K H (.int i) (.type "int")
 | str (x:Str):Uj K H (.str x) (.type "str")
 | flt (x:UInt64):Uj K H (.flt x) (.type "float")
 | lst {a:Addr} {xs:List V} (e:H a=some (.lst xs)):Uj K H (.ref a) (.type "list")
 | frz {a:Addr} {o:Obj} {xs:List V} (e:H a=some (.frz o (.lst xs))):Uj K H (.ref a) (.type "list")
 | tup {a:Addr} {xs:List V} (e:H a=some (.tup xs)):Uj K H (.ref a) (.type "tuple")
 | dK {a:Addr} {kvs:List (Key×V)} (e:H a=some (.dK kvs)):Uj K H (.ref a) (.type "dict")
 | dT {a:Addr} {kvs:List (List Key×V)} (e:H a=some (.dT kvs)):Uj K H (.ref a) (.type "dict")
 | ins {a C dx:Addr} {fs:List (Str×V)} (e:H a=some (.ins C dx fs)) (cl:Cls K C) (ha:PySem.W.findIn K (.ref C) "__class__"=some (some (.builtin "object.__class__")))
   (hn:PySem.W.specialIn K (.builtin "object.__class__") "__get__"=some (some (.builtin "getset_descriptor.__get__"))) (htk:PySem.W.takesIn K (.builtin "object.__class__")=some true)
   (hm:PySem.W.mroIn K C (.type "object")=some true):Uj K H (.ref a) (.ref C)
theorem ya {x:V} {u t:Value} (I:Inv X pins σ H s) (rx:Zx x u) (ty:Uj X.K H x t) (e:PySem.W.kitOne X.K t c=some b) (h:∀ tk,Q (.bool b) { s with toks:=tk }):
  wpAny (model X.prog X.w) A (call (.builtin "isinstance") [u,c]) Q E s:=by
 cases ty with
 | non=>cases (show u=Value.none from rx); exact PySem.W.kia_one PySem.W.kitx_none I.kIn True.intro e (fun z=>nomatch z) h
 | bl y=>cases (show u=Value.bool y from rx); exact PySem.W.kia_one PySem.W.kitx_bool I.kIn True.intro e (fun z=>nomatch z) h
 | int i=>obtain ⟨t,q⟩:=(show ∃ t,u=Value.int i t from rx); cases q; exact PySem.W.kia_one PySem.W.kitx_int I.kIn True.intro e (fun z=>nomatch z) h
 | str y=>obtain ⟨t,q⟩:=(show ∃ t,u=Value.str y t from rx); cases q; exact PySem.W.kia_one PySem.W.kitx_str I.kIn True.intro e (fun z=>nomatch z) h
 | flt y=>obtain ⟨t,q⟩:=(show ∃ t,u=Value.float y t from rx); cases q; exact PySem.W.kia_one PySem.W.kitx_float I.kIn True.intro e (fun z=>nomatch z) h
 | @lst a xs ea=>
  cases (show u=Value.ref a from rx)
  obtain ⟨_,_,n,_,h1⟩:=(show ZF X.prog X.w H s.heap a (.lst xs) from I.hok a _ ea)
  exact PySem.W.kia_one PySem.W.kitx_list I.kIn ⟨_,h1,rfl⟩ e (fun z=>nomatch z) h
 | @frz a ob xs ea=>
  cases (show u=Value.ref a from rx)
  obtain ⟨_,_,_,n,_,h1⟩:=(show ZF X.prog X.w H s.heap a (.frz ob (.lst xs)) from I.hok a _ ea)
  exact PySem.W.kia_one PySem.W.kitx_list I.kIn ⟨_,h1,rfl⟩ e (fun z=>nomatch z) h
 | @tup a xs ea=>
  cases (show u=Value.ref a from rx)
  obtain ⟨_,_,_,p,_⟩:=(show ZF X.prog X.w H s.heap a (.tup xs) from I.hok a _ ea)
  obtain ⟨o,h1,h2,_⟩:=p
  exact PySem.W.kia_one PySem.W.kitx_tuple I.kIn ⟨o,h1,h2⟩ e (fun z=>nomatch z) h
 | @dK a kvs ea=>
  cases (show u=Value.ref a from rx)
  obtain ⟨_,_,vs,_,p⟩:=(show ZF X.prog X.w H s.heap a (.dK kvs) from I.hok a _ ea)
  obtain ⟨o,es,ep,h1,h2,_⟩:=p
  exact PySem.W.kia_one PySem.W.kitx_dict I.kIn ⟨o,h1,h2.1⟩ e (fun z=>nomatch z) h
 | @dT a kvs ea=>
  cases (show u=Value.ref a from rx)
  obtain ⟨_,_,xs,_,o,es,ep,h1,h2,_⟩:=(show ZF X.prog X.w H s.heap a (.dT kvs) from I.hok a _ ea)
  exact PySem.W.kia_one PySem.W.kitx_dict I.kIn ⟨o,h1,h2.1⟩ e (fun z=>nomatch z) h
 | @ins a C dx fs ea cl ha hn htk hm=>
  cases (show u=Value.ref a from rx)
  obtain ⟨mA,O,_⟩:=vk I.hok ea
  obtain ⟨od,J,_⟩:=O.look
  exact PySem.W.kia_one (PySem.W.kitx_own (cl.get _) cl.hd ha hn htk hm) I.kIn J e (fun z=>nomatch z) h
end
end L2
namespace L2
open PySem PySem.Spec PyProof.Rows
structure Jl (k:Nat) (A:Around):Prop where
 hd:A.handled=none
 dp:A.depth+3*k+5 < recursionLimit
 un:A.units+16*k+200 < cLine
theorem Jl.mono {j k:Nat} {A:Around} (r:Jl k A) (h:j<=k):Jl j A:=⟨r.hd,by have:=r.dp; omega,by have:=r.un; omega⟩
theorem Jl.deeper {k:Nat} {A:Around} (r:Jl (k+1) A) (env:Env):Jl k (A.deeper env):=
 ⟨r.hd,by have:=r.dp; show A.depth+1+3*k+5 < _; omega,by have:=r.un; show A.units+3+16*k+200 < _; omega⟩
theorem Jl.depth {k:Nat} {A:Around} (r:Jl k A):A.depth < recursionLimit:=by have:=r.dp; omega
theorem Jl.units {k:Nat} {A:Around} (r:Jl k A):A.units+64 < cLine:=by have:=r.un; omega
def tNil:TA:=fun _ H Q=>Q [] H
def Kw (ta:TE) (tr:TA):TA:=fun σ H Q=>ta σ H fun x H1=>tr σ H1 fun xs H2=>Q (x :: xs) H2
section
variable {X:Cx} {e:Expr} {es:List Expr} {te:TE} {t:TA} {pos:Pos}
theorem Z8:PA X [] tNil:=fun _ _ _ _ H Q I h=>Calls.spliced_nil ⟨[],H,I, .nil,h⟩
theorem zD (ha:PE X e te) (hr:PA X es t) (hs:starEach (e :: es) X.env=(false,eval e X.env) :: starEach es X.env:=by rfl):PA X (e :: es) (Kw te t):=by
 intro pos pins s σ H Q I h
 rw [hs]
 show wpAny _ _ (spliced ((false,eval e X.env) :: backTo pos (starEach es X.env))) _ _ s
 refine Calls.spliced_cons (thn (ha pins s σ H _ I h) fun u s1 ⟨x,H1,I1,r1,q1⟩=> ?_)
 exact thn (hr pos pins s1 σ H1 _ I1 q1) fun us s2 ⟨xs,H2,I2,r2,q2⟩=>⟨x :: xs,H2,I2, .cons r1 r2,q2⟩
def tTup (t:TA):TE:=fun σ H Q=>t σ H fun xs H1=>xs.length<=sizeLine/\∀ p,H1 p=none->Q (.ref p) (upd H1 p (.tup xs))
def tLst (t:TA):TE:=fun σ H Q=>t σ H fun xs H1=>xs.length<=sizeLine/\∀ p,H1 p=none->Q (.ref p) (upd H1 p (.lst xs))
theorem xG {x1} (h:PA X es t):PE X (.Tuple es x1 pos) (tTup t):=by
 intro pins s σ H Q I hq
 refine wpAny_Tuple_spliced (thn (h pos pins s σ H _ I hq) fun us s1 ⟨xs,H1,I1,r,z,q⟩=>⟨by rw [← r.length]; exact z, ?_⟩)
 have hf:H1 s1.heap.objs.size=none:=I1.hok.fresh (Nat.le_refl _)
 refine ⟨.ref s1.heap.objs.size,upd H1 s1.heap.objs.size (.tup xs),I1.laid (t' :=s1.toks) (fun b u e=>Heap.get?_push_of_some _ e) (Nat.le_refl _) ?_,rfl,q _ hf⟩
 exact ⟨z,us,r,⟨_,Heap.get?_push_size _ rfl,rfl,_,rfl⟩, .inr ⟨_,Heap.get?_push_size _ rfl,rfl⟩⟩
theorem Qj (h:PA X es t):PE X (.List es pos) (tLst t):=by
 intro pins s σ H Q I hq
 refine wpAny_List_spliced (thn (h pos pins s σ H _ I hq) fun us s1 ⟨xs,H1,I1,r,z,q⟩=>⟨by rw [← r.length]; exact z, ?_⟩)
 have hf:H1 s1.heap.objs.size=none:=I1.hok.fresh (Nat.le_refl _)
 refine ⟨.ref s1.heap.objs.size,upd H1 s1.heap.objs.size (.lst xs),I1.laid (t' :=s1.toks) (fun b u e=>Heap.get?_push_of_some _ e) (Nat.le_refl _) ?_,rfl,q _ hf⟩
 exact ⟨z,us,0,r,Heap.get?_push_size _ rfl⟩
end
abbrev Sp:=List V->Hp->VK->XK->Prop
abbrev CXT:=List Env->Hp->Shared->XK->Value->Shared->Prop
structure kw (P:Program) (w:World) (K:PySem.W.Frag) (mg:Str->Option Value) (base:Heap) (A:Around) (outer:List Env) (s:Shared) (H:Hp):Prop where
 frames:A.frames=some outer
 mod:Mod K mg base
 bs:∀ b o,base.get? b=some o->s.heap.get? b=some o/\H b=none
 bsz:base.objs.size<=s.heap.objs.size
 funs:s.heap.FunFrames base outer
 frf:∀ b∈frs outer,H b=none
 hok:HOk P w H s.heap
 bare:AllBare s.gens
def CE (outer:List Env) (P:Program) (w:World) (H:Hp) (s:Shared) (Q:VK) (u:Value) (s' :Shared):Prop:=
 ∃ v H',s'.os=s.os/\AllBare s'.gens/\Un (frs outer) [] H H' s.heap s'.heap/\HOk P w H' s'.heap/\Zx v u/\Q v H'
def CR (CX:CXT) (outer:List Env) (P:Program) (w:World) (H:Hp) (s:Shared) (Q:VK) (E:XK) (r:Result) (s' :Shared):Prop:=
 match r with
 | .ok (.ret u)=>CE outer P w H s Q u s'
 | .ok _=>False
 | .error e=>CX outer H s E e s'
structure Zf (P:Program) (w:World) (K:PySem.W.Frag) (mg:Str->Option Value) (base:Heap) (CX:CXT) (k:Nat) (f:Addr) (fd:FuncData) (ps:List Str) (sp:Sp):Prop where
 len:∀ vs H Q E,sp vs H Q E->vs.length=ps.length
 run:∀ (A:Around) (outer:List Env) (s:Shared) (H:Hp) (args:Args) (us:List Value) (vs:List V) (Q:VK) (E:XK),Jl k A->kw P w K mg base A outer s H->BindsTo s fd args (ps.zip us)->Ze vs us->sp vs H Q E->
  codeAny (model P w) A (.call (.ref f) args) (CR CX outer P w H s Q E) s
section
variable {X:Cx} {pins:List (Addr×Obj)} {σ:St} {H:Hp} {s s' :Shared}
theorem Inv.env0 (I:Inv X pins σ H s):kw X.prog X.w X.K X.mg X.base X.A X.stack s H:=
 ⟨I.ok.frames,I.ok.mod,I.bs,Nat.le_trans I.ok.bsz I.sz,I.stack,I.stkFree,I.hok,I.bare⟩
theorem Inv.after {Q:VK} {u:Value} (I:Inv X pins σ H s) (h:CE X.stack X.prog X.w H s Q u s'):EP X pins σ Q u s' :=by
 obtain ⟨v,H',os,bare,un,hok,r,q⟩:=h
 obtain ⟨hh,g,d,t,os'⟩:=s'
 obtain rfl:os' =s.os:=os
 exact ⟨v,H',I.call (h' :=hh) (g' :=g) (d' :=d) (t' :=t) (ch:=[]) un hok bare (fun b z=>absurd z (by simp)),r,q⟩
end
def Kx (sp:Sp) (dvs:List V) (E:XK) (t:TA):TE:=fun σ H Q=>t σ H fun vs H1=>sp (vs++dvs) H1 Q E
def Binds (K:PySem.W.Frag) (fd:FuncData) (ps:List Str) (ds:List Value):Prop:=
 ∀ (s:Shared) (us:List Value),K.In s.heap->(us++ds).length=ps.length->BindsTo s fd ⟨us,[]⟩ (ps.zip (us++ds))
theorem Binds.all {K:PySem.W.Frag} {fd:FuncData} {ps:List Str} (h:∀ us:List Value,us.length=ps.length->bindArgs fd ⟨us,[]⟩=pure (ps.zip us)):Binds K fd ps []:=fun s us _ hl=>by
 rw [List.append_nil] at hl ⊢
 exact .of_eq (h us hl)
def JB (CX:CXT) (X:Cx) (E:XK):Prop:=∀ (pins:List (Addr×Obj)) (σ:St) (H:Hp) (s:Shared) (e:Value) (s' :Shared),Inv X pins σ H s->CX X.stack H s E e s' ->X.xe e s'
section
variable {X:Cx} {CX:CXT} {k:Nat} {f C:Addr} {fd:FuncData} {ps:List Str} {sp:Sp} {dvs:List V} {ds:List Value} {E:XK} {x m:Str} {p pos apos:Pos} {e o:Expr} {es:List Expr} {ta:TE} {t:TA}
theorem xH {pins:List (Addr×Obj)} {σ:St} {H:Hp} {s:Shared} {Q:VK} {us:List Value} {vs:List V} (F:Zf X.prog X.w X.K X.mg X.base CX k f fd ps sp) (hr:Jl k X.A) (hb:Binds X.K fd ps ds) (hd:Ze dvs ds) (hx:JB CX X E)
  (I:Inv X pins σ H s) (r:Ze vs us) (h:sp (vs++dvs) H Q E):wpAny (model X.prog X.w) X.A (call (.ref f) us) (EP X pins σ Q) X.xe s:=by
 have r2:Ze (vs++dvs) (us++ds):=r.append hd
 have hl:(us++ds).length=ps.length:=by rw [← r2.length]; exact F.len _ _ _ _ h
 refine wpAny_call (codeAny_mono (F.run X.A X.stack s H ⟨us,[]⟩ (us++ds) (vs++dvs) Q E hr I.env0 (hb s us I.kIn hl) r2 h) fun r s' hq=> ?_)
 cases r with
 | error e=>exact hx pins σ H s e s' I hq
 | ok fl=>
  cases fl with
  | ret u=>exact I.after hq
  | next=>exact False.elim hq
  | brk=>exact False.elim hq
  | cont=>exact False.elim hq
theorem vm (F:Zf X.prog X.w X.K X.mg X.base CX k f fd ps sp) (hr:Jl k X.A) (hg:Gl X x) (hm:X.mg x=some (.ref f)) (hk:PySem.W.keepIn X.K (.ref f)=true) (hb:Binds X.K fd ps ds) (hd:Ze dvs ds) (hx:JB CX X E)
  (ha:PA X (e :: es) t) (hdb:(x == ("__debug__":Str))=false:=by decide) (he:starEach (e :: es) X.env=(false,eval e X.env) :: starEach es X.env:=by rfl) (hpl:(backTo pos (starEach es X.env)).any (·.1)=false:=by rfl):
  PE X (.Call (.Name x p) (e :: es) [] pos) (Kx sp dvs E t):=by
 intro pins s σ H Q I h
 refine wpAny_Call_Name_kw (WX I hg hm ?_ hdb)
 refine PySem.W.callWith_K (h₀:=X.base) I.ok.mod.kin hk (thn (ha pos pins s σ H _ I h) fun us s1 ⟨vs,H1,I1,r,q⟩=>⟨I1.kIn, ?_⟩) he hpl
 exact xH F hr hb hd hx I1 r q
end
section
variable {X:Cx} {CX:CXT} {k:Nat} {f C:Addr} {fd:FuncData} {ps ks:List Str} {sp:Sp} {E:XK} {x m:Str} {p pos apos kpos:Pos} {e o:Expr} {es:List Expr} {kws:List Keyword} {te ta:TE} {t tk:TA} {nm:Option Str}
variable {g:List Value->List Value->List Value} {gV:List V->List V->List V}
end
structure zm (N P:List Str) (sc:Scope):Prop where
 kind:sc.kind= .function
 co:sc.isCoroutine=false
 gen:sc.isGenerator=false
 nd:N.Nodup
 pre:N.take P.length=P
 par:∀ x∈P,sc.names.lookup x=some .local\/sc.names.lookup x=some .cell
 nofree:∀ y∈sc.names,y.2 ≠ .free
theorem Wc {kindOf:Str->Option NameKind} {x:Str}:∀ {binds:List (Str×Value)} {m:Str->Option Value},(∀ v,(x,v) ∉ binds)->bindL kindOf binds m x=m x
 | [],_,_=>rfl
 | (n,v) :: r,m,h=>by
  unfold bindL
  rw [Wc fun w hw=>h w (List.mem_cons_of_mem _ hw)]
  split
  ·have:x ≠ n:=by rintro rfl; exact h v List.mem_cons_self
   simp [this]
  ·rfl
theorem Wd {kindOf:Str->Option NameKind} {x:Str}:∀ {binds:List (Str×Value)} {m:Str->Option Value},(∀ v,(x,v) ∉ binds)->bindC kindOf binds m x=m x
 | [],_,_=>rfl
 | (n,v) :: r,m,h=>by
  unfold bindC
  rw [Wd fun w hw=>h w (List.mem_cons_of_mem _ hw)]
  split
  ·rfl
  ·have:x ≠ n:=by rintro rfl; exact h v List.mem_cons_self
   simp [this]
theorem We {kindOf:Str->Option NameKind} {x:Str} {v:Value}:∀ {P:List Str} {vs:List Value} {i:Nat} {m:Str->Option Value},P.Nodup->P[i]? =some x->vs[i]? =some v->kindOf x=some .local->
  bindL kindOf (P.zip vs) m x=some v
 | [],_,_,_,_,h,_,_=>by simp at h
 | _ :: _,[],_,_,_,_,h,_=>by simp at h
 | p :: P,w :: vs,0,m,nd,h1,h2,hk=>by
  simp at h1 h2; subst h1; subst h2
  show bindL kindOf ((p,w) :: P.zip vs) m p=_
  unfold bindL
  rw [Wc fun v hv=>(List.nodup_cons.mp nd).1 (List.of_mem_zip hv).1,if_pos hk]
  simp
 | p :: P,w :: vs,i+1,m,nd,h1,h2,hk=>by
  show bindL kindOf ((p,w) :: P.zip vs) m x=_
  unfold bindL
  exact We (i:=i) (List.nodup_cons.mp nd).2 (by simpa using h1) (by simpa using h2) hk
theorem Wf {kindOf:Str->Option NameKind} {x:Str} {v:Value}:∀ {P:List Str} {vs:List Value} {i:Nat} {m:Str->Option Value},P.Nodup->P[i]? =some x->vs[i]? =some v->kindOf x ≠ some .local->
  bindC kindOf (P.zip vs) m x=some v
 | [],_,_,_,_,h,_,_=>by simp at h
 | _ :: _,[],_,_,_,_,h,_=>by simp at h
 | p :: P,w :: vs,0,m,nd,h1,h2,hk=>by
  simp at h1 h2; subst h1; subst h2
  show bindC kindOf ((p,w) :: P.zip vs) m p=_
  unfold bindC
  rw [Wd fun v hv=>(List.nodup_cons.mp nd).1 (List.of_mem_zip hv).1,if_neg hk]
  simp
 | p :: P,w :: vs,i+1,m,nd,h1,h2,hk=>by
  show bindC kindOf ((p,w) :: P.zip vs) m x=_
  unfold bindC
  exact Wf (i:=i) (List.nodup_cons.mp nd).2 (by simpa using h1) (by simpa using h2) hk
def start (N:List Str) (vs:List V):St:=vs.map some++List.replicate (N.length - vs.length) none
def JY (CX:CXT) (P:Program) (w:World) (K:PySem.W.Frag) (mg:Str->Option Value) (base:Heap) (N:List Str) (qual:Str) (scope:Scope) (f:Addr) (cd:Value) (A:Around) (outer:List Env) (s:Shared) (H:Hp) (E:XK):Cx where
 prog:=P
 w:=w
 K:=K
 mg:=mg
 base:=base
 A:=A.deeper (envOfC qual scope s.heap.objs.size f cd)
 N:=N
 s₀:=s
 H₀:=H
 env:=envOfC qual scope s.heap.objs.size f cd
 outer:=outer
 stack:=envOfC qual scope s.heap.objs.size f cd :: outer
 ex:=[]
 calm:=true
 fn:=fun _=>true
 pn:=[]
 xe:=fun e s' =>wpAny (model P w) (A.deeper (envOfC qual scope s.heap.objs.size f cd)) (leaving (envOfC qual scope s.heap.objs.size f cd) e) (fun _ s'' =>CX outer H s E e s'') (fun e' s'' =>CX outer H s E e' s'') s'
theorem ut {sc:Scope} {n:Nat} {x:Str} (h:sc.names.lookup x=some .cell):∃ c,(cellsFrom n sc.names []).lookup x=some c:=by
 have q:=PySem.W.cellsFrom_some sc.names n [] (.inl h)
 exact Option.isSome_iff_exists.mp q
theorem yb {CX:CXT} {P:Program} {w:World} {K:PySem.W.Frag} {mg:Str->Option Value} {base:Heap} {N ps:List Str} {qual:Str} {scope:Scope} {f:Addr} {cd:Value} {A:Around} {outer:List Env} {s s1:Shared} {H:Hp} {E:XK} {us:List Value} {vs:List V}
  (S:zm N ps scope) (hd:A.handled=none) (e0:kw P w K mg base A outer s H) (hl:vs.length=ps.length) (r:Ze vs us)
  (x:InCallC s s.heap.objs.size (bindL (envOfC qual scope s.heap.objs.size f cd).kindOf (ps.zip us) fun _=>none) (cellsFrom (s.heap.objs.size+1) scope.names []) (bindC (envOfC qual scope s.heap.objs.size f cd).kindOf (ps.zip us) fun _=>none) s1):
  Inv (JY CX P w K mg base N qual scope f cd A outer s H E) [] (start N vs) H s1:=by
 have hpl:ps.length<=N.length:=by have:=congrArg List.length S.pre; rw [List.length_take] at this; omega
 obtain ⟨h1,tk,rfl,hk⟩:=x.done
 have noA:∀ b:Addr,b ∉ (JY CX P w K mg base N qual scope f cd A outer s H E).ex:=fun b z=>absurd (show b∈([]:List Addr) from z) (by simp)
 refine ⟨⟨e0.mod,S.kind,rfl,rfl,Nat.le_refl _,fun y z c h1 h2=> ?_,fun y hy=> ?_,fun y c _ h=> ?_,fun _=>hd,Around.frames_deeper e0.frames, .inr ⟨rfl,rfl⟩,fun b z=>absurd z (noA b),e0.bs,e0.bsz,fun b _ _=>noA b,fun b z=>absurd z (noA b),e0.funs,e0.frf⟩,
  rfl,e0.bare,Un.kept hk,⟨_,x.toInCall.ns,fun i y v h1 h2 h3=> ?_⟩,fun y c h=>⟨_,x.cell y c h⟩,e0.hok.fresh (Nat.le_refl _),fun y c h=> ?_,fun p hp=>absurd (show p∈([]:List (Addr×Obj)) from hp) (by simp),e0.hok.kept hk, ?_⟩
 ·exact name_of_addr x.apart (PySem.mem_of_lookup h1) (PySem.mem_of_lookup h2)
 ·have hy:scope.names.lookup y=some .cell\/scope.names.lookup y=some .free:=hy
  rcases hy with hy | hy
  ·exact ut hy
  ·exact absurd rfl (S.nofree _ (PySem.mem_of_lookup hy))
 ·exact Nat.le_of_lt (x.above y c (PySem.mem_of_lookup h))
 ·have hi:i < vs.length:=by
   unfold start at h2
   by_cases hi:i < vs.length
   ·exact hi
   ·rw [List.getElem?_append_right (by simpa using hi)] at h2
    rw [List.getElem?_replicate] at h2
    split at h2 <;> cases h2
  have ha:vs[i]? =some v:=by
   unfold start at h2
   rw [List.getElem?_append_left (by simpa using hi),List.getElem?_map] at h2
   cases e:vs[i]? with
   | none=>rw [e] at h2; cases h2
   | some a=>rw [e] at h2; cases h2; rfl
  obtain ⟨u,hu,rv⟩:=r.get ha
  have hp:ps[i]? =some y:=by
   rw [← S.pre,List.getElem?_take_of_lt (by omega)]; exact h1
  have ndP:ps.Nodup:=by rw [← S.pre]; exact S.nd.sublist (List.take_sublist _ _)
  refine ⟨u,rv, ?_⟩
  rcases S.par y (List.mem_of_getElem? hp) with k | k
  ·exact .inl ⟨k,We ndP hp hu k⟩
  ·obtain ⟨c,e⟩:=ut (n:=s.heap.objs.size+1) k
   refine .inr ⟨.inl k,c,e, ?_⟩
   have q:=x.cell y c e
   rw [Wf ndP hp hu (by show scope.names.lookup y ≠ _; rw [k]; decide)] at q
   exact q
 ·exact e0.hok.fresh (Nat.le_of_lt (x.above y c (PySem.mem_of_lookup h)))
 ·unfold start
  show _=N.length
  rw [List.length_append,List.length_map,List.length_replicate]
  omega
theorem xI {CX:CXT} {P:Program} {w:World} {K:PySem.W.Frag} {mg:Str->Option Value} {base:Heap} {k:Nat} {f:Addr} {name qual:Str} {params:Arguments} {body:List Stmt} {scope:Scope} {dV kV doc pm cdv ct oc:Value} {an od:Option Addr}
  {osl:Array (Option Value)} {N ps:List Str} {sp:Sp} (lk:K.lookup f=some ⟨oc,od, .func (PySem.W.fnOf name qual params body scope dV kV doc pm an cdv ct),osl⟩) (hcd:PySem.W.codeIn K cdv qual=true) (S:zm N ps scope)
  (len:∀ vs H Q E,sp vs H Q E->vs.length=ps.length)
  (hbody:∀ (A:Around) (outer:List Env) (s:Shared) (H:Hp) (vs:List V) (Q:VK) (E:XK),Jl k (A.deeper (envOfC qual scope s.heap.objs.size f cdv))->sp vs H Q E->
   ∃ t,PSs (JY CX P w K mg base N qual scope f cdv A outer s H E) body t/\t { nx:=fun _ H' =>Q .non H',rt:=Q } (start N vs) H):
  Zf P w K mg base CX (k+1) f (PySem.W.fnOf name qual params body scope dV kV doc pm an cdv ct) ps sp:=by
 refine ⟨len,fun A outer s H args us vs Q E hr e0 hb r hsp=> ?_⟩
 have hl:=len _ _ _ _ hsp
 have KX:K.In s.heap:=e0.mod.kin.keeps fun b o e=>(e0.bs b o e).1
 have lim:s.heap.NoLimit:=e0.mod.nolimit.keeps fun b o e=>(e0.bs b o e).1
 have hkind:∀ y∈ps.zip us,scope.names.lookup y.1=some .local\/(scope.names.lookup y.1=some .cell/\((cellsFrom (s.heap.objs.size+1) scope.names []).lookup y.1).isSome=true):=fun ⟨n,v⟩ hy=>by
  rcases S.par n (List.of_mem_zip hy).1 with q | q
  ·exact .inl q
  ·exact .inr ⟨q,PySem.W.cellsFrom_some _ _ _ (.inl q)⟩
 refine codeAny_call_function hr.depth (KX _ _ lk) rfl S.co S.gen rfl (PySem.W.codeRec_of KX hcd) (hb _ _ _ _ ?_)
 refine wpAny_newFunctionEnv_cells S.kind hkind fun env he s1 x=> ?_
 subst he
 refine ⟨lim.keeps x.toInCall.keep,codeAny_func ?_⟩
 obtain ⟨t,ht,hq⟩:=hbody A outer s H vs Q E (hr.deeper _) hsp
 have I:Inv (JY CX P w K mg base N qual scope f cdv A outer s H E) [] (start N vs) H s1:=yb S hr.hd e0 hl r x
 refine wpAny_mono (ht [] s1 (start N vs) H _ I hq) (fun fl s' hs=> ?_) fun e s' hs=>hs
 have fin:∀ {σ' :St} {H' :Hp} {v:V} {u:Value},Inv (JY CX P w K mg base N qual scope f cdv A outer s H E) [] σ' H' s' ->Zx v u->Q v H' ->CE outer P w H s Q u s' :=
  fun {σ' H' v u} J rv q=>⟨v,H',J.os,J.bare,J.base,J.hok,rv,q⟩
 cases fl with
 | ret u=>
  obtain ⟨v,σ',H',J,rv,q⟩:=hs
  exact fin J rv q
 | next=>
  obtain ⟨σ',H',J,q⟩:=hs
  exact fin (v:=V.non) (u:=Value.none) J rfl q
 | brk=>
  obtain ⟨_,_,_,q⟩:=hs
  exact False.elim q
 | cont=>
  obtain ⟨_,_,_,q⟩:=hs
  exact False.elim q
end L2
namespace L2
open PySem PySem.Spec PyProof.Rows
section
variable {X:Cx} {x:Str} {p pos:Pos} {e:Expr} {es:List Expr} {t:TA} {id T:String} {r:List V->Hp->VK->Prop}
def tCB (r:List V->Hp->VK->Prop) (t:TA):TE:=fun σ H Q=>t σ H fun vs H1=>r vs H1 Q
theorem Jo (hc:ZS X (.builtin id) r) (hg:Gl X x) (hm:X.mg x=none) (hv:bootBuiltins x=some (.builtin id)) (ha:PA X (e :: es) t) (hn:x ≠ "__name__":=by decide) (hdb:(x == ("__debug__":Str))=false:=by decide)
  (he:starEach (e :: es) X.env=(false,eval e X.env) :: starEach es X.env:=by rfl) (hpl:(backTo pos (starEach es X.env)).any (·.1)=false:=by rfl):PE X (.Call (.Name x p) (e :: es) [] pos) (tCB r t):=by
 intro pins s σ H Q I h
 refine wpAny_Call_Name_kw (jd I hg hm hv ?_ hn hdb)
 exact PyProof.Rows.callWith_builtin1 (thn (ha pos pins s σ H _ I h) fun us s1 ⟨vs,H1,I1,r1,q1⟩=>hc pins s1 σ H1 vs us Q I1 r1 q1) he hpl
theorem jS (hc:ZS X (.type T) r) (hg:Gl X x) (hm:X.mg x=none) (hv:bootBuiltins x=some (.type T)) (ha:PA X (e :: es) t) (hn:x ≠ "__name__":=by decide) (hdb:(x == ("__debug__":Str))=false:=by decide)
  (he:starEach (e :: es) X.env=(false,eval e X.env) :: starEach es X.env:=by rfl) (hpl:(backTo pos (starEach es X.env)).any (·.1)=false:=by rfl):PE X (.Call (.Name x p) (e :: es) [] pos) (tCB r t):=by
 intro pins s σ H Q I h
 refine wpAny_Call_Name_kw (jd I hg hm hv ?_ hn hdb)
 exact PyProof.Rows.callWith_type1 (thn (ha pos pins s σ H _ I h) fun us s1 ⟨vs,H1,I1,r1,q1⟩=>hc pins s1 σ H1 vs us Q I1 r1 q1) he hpl
end
end L2
namespace HT
open PySem PyProof.Rows
section
open PySem.SeqAt
open PySem.AutoSeq1 (wpAny_loadPart')
open PySem.MeetsSeq PySem.MeetsSeq2 PySem.MeetsSeq3
end
section
variable {prog:Program} {w:World} {A:Around} {E:Value->Shared->Prop} {s:Shared}
theorem cat_tup {t b:Addr} {vs ws:List Value} {Q:Value->Shared->Prop} (ht:IsTup s.heap t vs.toArray) (hb:IsTup s.heap b ws.toArray) (hv:vs ≠ [])
  (h1:ws=[]->Q (.ref t) s) (h2:ws ≠ []->Q (.ref s.heap.objs.size) { s with heap:=s.heap.push { cls:= .type "tuple",data:= .seq (vs++ws).toArray } })
  (hsz:vs.length+ws.length<=sizeLine):wpAny (model prog w) A (binaryOp .Add (.ref t) (.ref b)) Q E s:=by
 obtain ⟨⟨cls,dd,data,sl⟩,ho,hc,n,hd⟩:=id ht
 obtain ⟨⟨cls2,dd2,data2,sl2⟩,ho2,hc2,n2,hd2⟩:=id hb
 simp only at hc hd hc2 hd2
 subst hc hd hc2 hd2
 have e:vs.toArray++ws.toArray=(vs++ws).toArray:=by simp
 by_cases hw:ws=[]
 ·exact concat_meets ⟨_,ho,rfl⟩ ⟨_,ho2,rfl⟩ noFill_tuple_add seq_tuple_add PySem.F.slot_tuple_add PySem.F.entry_tuple_add (PySem.F.args_tuple_add_2 _ _)
   (tuple_addW1 t b vs.toArray ws.toArray n n2 dd dd2 sl sl2 (by simpa using hv) (by simp [hw])) ⟨ho,ho2,h1 hw⟩
 ·refine concat_meets ⟨_,ho,rfl⟩ ⟨_,ho2,rfl⟩ noFill_tuple_add seq_tuple_add PySem.F.slot_tuple_add PySem.F.entry_tuple_add (PySem.F.args_tuple_add_2 _ _)
   (tuple_addW2 t b vs.toArray ws.toArray n n2 dd dd2 sl sl2 (by simpa using hv) (by simpa using hw) (by rw [List.size_toArray,List.size_toArray]; exact hsz)) ⟨ho,ho2, ?_⟩
  rw [e]
  exact h2 hw
def sIx (n d:Nat):Option Int->Nat
 | none=>d
 | some v=>if v < 0 then (v+(n:Int)).toNat else min v.toNat n
theorem sIx_none (n d:Nat):sIx n d none=d:=rfl
theorem sIx_nat (n d k:Nat):sIx n d (some (k:Int))=min k n:=by
 show (if (k:Int) < 0 then ((k:Int)+(n:Int)).toNat else min (k:Int).toNat n)=min k n
 rw [if_neg (by omega),Int.toNat_natCast]
theorem xJ (n d:Nat) (hd:d<=n) (o:Option Int):sIx n d o<=n:=by
 cases o with
 | none=>exact hd
 | some v=>
  show (if v < 0 then (v+(n:Int)).toNat else min v.toNat n)<=n
  by_cases hv:v < 0
  ·rw [if_pos hv]; omega
  ·rw [if_neg hv]; exact Nat.min_le_right _ _
theorem yc (v:Int) (n d:Nat):(if v < 0 then max (v+(n:Int)) 0 else min v (n:Int))=((sIx n d (some v):Nat):Int):=by
 show (if v < 0 then max (v+(n:Int)) 0 else min v (n:Int))=(((if v < 0 then (v+(n:Int)).toNat else min v.toNat n):Nat):Int)
 by_cases hv:v < 0
 ·simp only [if_pos hv]; omega
 ·simp only [if_neg hv]; omega
theorem Uk (lo hi:Option Int) (n:Nat):Builtin.Slice.sliceAdjust lo hi 1 (n:Int)=(((sIx n 0 lo:Nat):Int),((sIx n n hi:Nat):Int)):=by
 have h1:¬ ((1:Int) < 0):=by omega
 unfold Builtin.Slice.sliceAdjust
 simp only [h1,if_false]
 refine Prod.ext ?_ ?_
 ·cases lo with
  | none=>rfl
  | some v=>exact yc v n 0
 ·cases hi with
  | none=>rfl
  | some v=>exact yc v n n
theorem Ul (i j:Nat):Builtin.Slice.slicePlaces (i:Int) (j:Int) 1=j - i:=by
 unfold Builtin.Slice.slicePlaces
 have h1:(1:Int) > 0:=by omega
 simp only [h1,if_true,Int.ediv_one]
 split <;> omega
theorem wj {v:Value} {o:Option Int} {Q:Option Int->Shared->Prop} (p:IsPart v o) (h:Q o s):wpAny (model prog w) A (Builtin.Slice.slicePartIndex v) Q E s:=by
 cases p with
 | none=>exact slicePart_none h
 | int i t=>exact slicePart_int h
theorem sliceApplied_gen {sl:Addr} {vl vu:Value} {lo hi:Option Int} {n:Nat} {Q:Int×Int×Nat->Shared->Prop} (hs:s.heap.IsSliceOf sl vl vu .none) (pl:IsPart vl lo) (pu:IsPart vu hi)
  (h:Q (((sIx n 0 lo:Nat):Int),1,sIx n n hi - sIx n 0 lo) s):wpAny (model prog w) A (Builtin.Slice.sliceApplied (.ref sl) (pure (n:Int))) Q E s:=by
 obtain ⟨os,hos,hcs,hds⟩:=id hs
 unfold Builtin.Slice.sliceApplied Builtin.Slice.sliceFields
 refine wpAny_bind (wpAny_bind (wpAny_field hos hds (x:=vl) rfl (wpAny_bind (wpAny_field hos hds (x:=vu) rfl (wpAny_bind (wpAny_field hos hds (x:= .none) rfl (wpAny_pure ?_)))))))
 refine wpAny_bind (slicePart_none ?_)
 show wpAny _ _ (if ((1:Int) == 0)=true then _ else _) _ _ s
 rw [if_neg (by decide)]
 refine wpAny_bind (wj pl (wpAny_bind (wj pu (wpAny_bind (wpAny_pure ?_)))))
 show wpAny _ _ (match Builtin.Slice.sliceAdjust lo hi 1 (n:Int) with | (lo,hi)=>pure (lo,(1:Int),Builtin.Slice.slicePlaces lo hi 1)) _ _ s
 rw [Uk lo hi n]
 show wpAny _ _ (pure (((sIx n 0 lo:Nat):Int),(1:Int),Builtin.Slice.slicePlaces ((sIx n 0 lo:Nat):Int) ((sIx n n hi:Nat):Int) 1)) _ _ s
 rw [Ul]
 exact wpAny_pure h
theorem ql (xs:Array Value) (i k:Nat):((List.range k).filterMap fun (m:Nat)=>xs[((i:Int)+(m:Int)*1).toNat]?).toArray=((xs.toList.drop i).take k).toArray:=by
 have e:(fun (m:Nat)=>xs[((i:Int)+(m:Int)*1).toNat]?)=fun m=>xs[i+m]? :=by
  funext m
  have:((i:Int)+(m:Int)*1).toNat=i+m:=by omega
  rw [this]
 rw [e]
 have:=pick_run xs i k
 rw [List.filterMap_map] at this
 have e2:((fun x=>xs[x]?) ∘ fun x=>i+x)=fun m=>xs[i+m]? :=rfl
 rw [e2] at this
 rw [this]
theorem getItem_tuple_cut {t sl:Addr} {items:Array Value} {vl vu:Value} {lo hi:Option Int} {Q:Value->Shared->Prop} (ht:IsTup s.heap t items) (hs:s.heap.IsSliceOf sl vl vu .none) (pl:IsPart vl lo) (pu:IsPart vu hi)
  (hw:¬ (sIx items.size 0 lo=0/\sIx items.size items.size hi=items.size))
  (h:Q (.ref s.heap.objs.size) { s with heap:=s.heap.push { cls:= .type "tuple",data:= .seq ((items.toList.drop (sIx items.size 0 lo)).take (sIx items.size items.size hi - sIx items.size 0 lo)).toArray } })
  (hsz:items.size<=sizeLine):wpAny (model prog w) A (getItem (.ref t) (.ref sl)) Q E s:=by
 have htake:sizeOk (.seq ((items.toList.drop (sIx items.size 0 lo)).take (sIx items.size items.size hi - sIx items.size 0 lo)).toArray):=by
  show ((items.toList.drop (sIx items.size 0 lo)).take (sIx items.size items.size hi - sIx items.size 0 lo)).toArray.size<=sizeLine
  rw [List.size_toArray,List.length_take,List.length_drop,Array.length_toList]
  omega
 have hj:sIx items.size items.size hi<=items.size:=xJ _ _ (Nat.le_refl _) hi
 obtain ⟨os,hos,hcs,hds⟩:=id hs
 have hTs:s.TypeIs (.ref sl) "slice":=⟨os,hos,hcs⟩
 unfold getItem
 try with_reducible refine wpAny_holding ?_
 first | refine wpAny_bind (wpAny_pure ?_) | skip
 refine wpAny_bind (wpAny_sequenceKey ht.typeIs (by decide) ?_)
 refine wpAny_bind (wpAny_callSpecial?_slot (name:=Str.ofString "__getitem__") ht.typeIs PyProof.Rows.slot_tuple_getitem
  (wpAny_call_entry PyProof.Rows.slot_tuple_getitem ht.typeIs entry_tuple_getitem ?_ (args_tuple_getitem _ _)))
 show wpAny _ _ (Builtin.Tuple.tupleItemsOf (.ref t) >>= _) _ _ s
 refine wpAny_bind (tupleItemsOf_ ht ?_)
 refine wpAny_bind (wpAny_typeOf hTs ?_)
 rw [if_pos (by decide)]
 refine wpAny_bind (sliceApplied_gen hs pl pu ?_)
 have hno:¬ ((((sIx items.size 0 lo:Nat):Int) == 0 && (1:Int) == 1 && (sIx items.size items.size hi - sIx items.size 0 lo) == items.size)=true):=by
  intro q
  rw [Bool.and_eq_true,Bool.and_eq_true] at q
  have q1:((sIx items.size 0 lo:Nat):Int)=0:=eq_of_beq q.1.1
  have q2:sIx items.size items.size hi - sIx items.size 0 lo=items.size:=eq_of_beq q.2
  exact hw ⟨by omega,by omega⟩
 show wpAny _ _ (if (((sIx items.size 0 lo:Nat):Int) == 0 && (1:Int) == 1 && (sIx items.size items.size hi - sIx items.size 0 lo) == items.size)=true then _ else _) _ _ s
 rw [if_neg hno,ql]
 first
  | exact wpAny_bind (m:=Builtin.Tuple.tupleExact _) (wpAny_newObj_type (wpAny_pure ⟨_,rfl,wpAny_pure h⟩) htake)
  | exact wpAny_bind (m:=Builtin.Tuple.tupleExact _) (wpAny_newObj_type (wpAny_bind (wpAny_pure (wpAny_pure ⟨_,rfl,wpAny_pure h⟩))) htake)
  | exact wpAny_bind (wpAny_bind (m:=Builtin.Tuple.tupleExact _) (wpAny_newObj_type (wpAny_pure (wpAny_pure ⟨_,rfl,wpAny_pure h⟩)) htake))
  | exact wpAny_bind (wpAny_bind (m:=Builtin.Tuple.tupleExact _) (wpAny_newObj_type (wpAny_pure ⟨_,rfl,wpAny_pure h⟩) htake))
end
end HT
namespace L2
open PySem PySem.Spec PyProof.Rows
abbrev TO:=St->Hp->(Option Int->Hp->Prop)->Prop
def PO (X:Cx) (e:Option Expr) (t:TO):Prop:=
 ∀ (pins:List (Addr×Obj)) (s:Shared) (σ:St) (H:Hp) (Q:Option Int->Hp->Prop),Inv X pins σ H s->t σ H Q->
  wpAny (model X.prog X.w) X.A (evalPart e X.env) (fun u s' =>∃ o H',Inv X pins σ H' s' /\IsPart u o/\Q o H') X.xe s
def vn:TO:=fun _ H Q=>Q none H
def Ky (t:TE):TO:=fun σ H Q=>t σ H fun x H1=>∃ i,x= .int i/\Q (some i) H1
section
variable {X:Cx} {e:Expr} {te:TE} {lo hi:Option Expr} {tl th:TO} {pos p2:Pos}
theorem vo:PO X none vn:=by
 intro pins s σ H Q I h
 rw [evalPart_none]
 exact wpAny_pure ⟨none,H,I, .none,h⟩
theorem vp (h:PE X e te):PO X (some e) (Ky te):=by
 intro pins s σ H Q I hw
 rw [evalPart_some]
 refine thn (h pins s σ H _ I hw) fun u s1 ⟨x,H1,I1,r1,q1⟩=> ?_
 obtain ⟨i,rfl,q⟩:=q1
 obtain ⟨t,rfl⟩:=r1
 exact ⟨some i,H1,I1, .int i t,q⟩
def SlR (X:Cx) (r:V->Option Int->Option Int->Hp->VK->Prop):Prop:=
 ∀ (pins:List (Addr×Obj)) (s:Shared) (σ:St) (H:Hp) (x:V) (v vl vu:Value) (lo hi:Option Int) (sl:Addr) (Q:VK),Inv X pins σ H s->Zx x v->s.heap.IsSliceOf sl vl vu .none->IsPart vl lo->IsPart vu hi->r x lo hi H Q->
  ∃ T id,typeLookup (.type T) "__getitem__"=pure (some (.builtin id))/\s.TypeIs v T/\wpAny (model X.prog X.w) X.A (getItem v (.ref sl)) (EP X pins σ Q) X.xe s
theorem SlR.or {r r' :V->Option Int->Option Int->Hp->VK->Prop} (h:SlR X r) (h' :SlR X r'):SlR X (fun x lo hi H Q=>r x lo hi H Q\/r' x lo hi H Q):=by
 intro pins s σ H x v vl vu lo hi sl Q I rx hs pl pu q
 rcases q with q | q
 ·exact h pins s σ H x v vl vu lo hi sl Q I rx hs pl pu q
 ·exact h' pins s σ H x v vl vu lo hi sl Q I rx hs pl pu q
def tSl (r:V->Option Int->Option Int->Hp->VK->Prop) (te:TE) (tl th:TO):TE:=fun σ H Q=>te σ H fun x H1=>tl σ H1 fun l H2=>th σ H2 fun u H3=>r x l u H3 Q
theorem uu {r:V->Option Int->Option Int->Hp->VK->Prop} (hr:SlR X r) (he:PE X e te) (hl:PO X lo tl) (hu:PO X hi th):PE X (.Subscript e (.Slice lo hi none p2) pos) (tSl r te tl th):=by
 intro pins s σ H Q I h
 refine Subscript_ (thn (he pins s σ H _ I h) fun v s1 ⟨x,H1,I1,r1,q1⟩=> ?_)
 refine wpAny_Slice (thn (hl pins s1 σ H1 _ I1 q1) fun vl s2 ⟨l,H2,I2,pl,q2⟩=>thn (hu pins s2 σ H2 _ I2 q2) fun vu s3 ⟨u,H3,I3,pu,q3⟩=> ?_)
 rw [evalPart_none]
 refine wpAny_pure ?_
 have I4:Inv X pins σ H3 { s3 with heap:=s3.heap.push { cls:= .type "slice",data:= .fields #[vl,vu, .none] } }:=I3.kept (t' :=s3.toks) fun b ob q=>Heap.get?_push_of_some _ q
 obtain ⟨T,id,hT,ht,hg⟩:=hr pins { s3 with heap:=s3.heap.push { cls:= .type "slice",data:= .fields #[vl,vu, .none] } } σ H3 x v vl vu l u s3.heap.objs.size Q I4 r1 (Heap.IsSliceOf.new ..) pl pu q3
 show wpAny (model X.prog X.w) X.A (subscriptTail e (.Slice lo hi none p2) v (.ref s3.heap.objs.size)) (EP X pins σ Q) X.xe { s3 with heap:=s3.heap.push { cls:= .type "slice",data:= .fields #[vl,vu, .none] } }
 exact tail_any (ops:=[.ref s3.heap.objs.size,v]) ht hT hg (by with_unfolding_all rfl)
def Qk (xs:List V) (lo hi:Option Int):List V:=(xs.drop (HT.sIx xs.length 0 lo)).take (HT.sIx xs.length xs.length hi - HT.sIx xs.length 0 lo)
theorem JC (xs:List V) (lo hi:Option Int):(Qk xs lo hi).length<=xs.length:=by
 unfold Qk
 rw [List.length_take,List.length_drop]
 omega
def rSlT (K:PySem.W.Frag):V->Option Int->Option Int->Hp->VK->Prop:=fun x lo hi H Q=>∃ a xs,x= .ref a/\SqT K H a xs/\
 ¬ (HT.sIx xs.length 0 lo=0/\HT.sIx xs.length xs.length hi=xs.length)/\∀ p,H p=none->Q (.ref p) (upd H p (.tup (Qk xs lo hi)))
theorem xK:SlR X (rSlT X.K):=by
 intro pins s σ H x v vl vu lo hi sl Q I rx hs pl pu h
 obtain ⟨a,xs,rfl,hx,hw,q⟩:=h
 cases rx
 obtain ⟨its,r,ht,hz⟩:=I.tuple hx
 have hlen:its.toArray.size=xs.length:=by rw [List.size_toArray]; exact r.length.symm
 refine ⟨"tuple",_,PyProof.Rows.slot_tuple_getitem.lookup,ht.typeIs, ?_⟩
 refine HT.getItem_tuple_cut ht hs pl pu (by rw [hlen]; exact hw) ?_ (by rw [hlen]; exact hz)
 rw [hlen]
 refine ⟨.ref s.heap.objs.size,_,I.laid (t' :=s.toks) (o:= .tup (Qk xs lo hi)) (fun b ob q=>Heap.get?_push_of_some _ q) (Nat.le_refl _) ?_,rfl,q _ (I.hok.fresh (Nat.le_refl _))⟩
 exact ⟨Nat.le_trans (JC xs lo hi) hz,_,(r.drop (HT.sIx xs.length 0 lo)).take (HT.sIx xs.length xs.length hi - HT.sIx xs.length 0 lo),ITN.new _ _⟩
def Kz (K:PySem.W.Frag):R2:=fun x y H Q=>∃ a b xs ys,x= .ref a/\y= .ref b/\SqT K H a xs/\SqT K H b ys/\xs ≠ []/\xs.length+ys.length<=sizeLine/\
 (ys=[]->Q (.ref a) H)/\(ys ≠ []->∀ p,H p=none->Q (.ref p) (upd H p (.tup (xs++ys))))
theorem Ze.nil_iff {xs:List V} {us:List Value} (r:Ze xs us):us=[]↔xs=[]:=by
 cases r with
 | nil=>simp
 | cons _ _=>simp
theorem vq:OpR X (binaryOp .Add) (Kz X.K):=by
 intro pins s σ H x y v u Q I rx ry h
 obtain ⟨a,b,xs,ys,rfl,rfl,ha,hb,hx,hz,q1,q2⟩:=h
 cases rx
 cases ry
 obtain ⟨its,r1,p1,_⟩:=I.tuple ha
 obtain ⟨its2,r2,p2,_⟩:=I.tuple hb
 refine HT.cat_tup p1 p2 (fun z=>hx (r1.nil_iff.mp z)) (fun z=>⟨.ref a,H,I,rfl,q1 (r2.nil_iff.mp z)⟩) (fun z=> ?_) (by rw [← r1.length,← r2.length]; exact hz)
 refine ⟨.ref s.heap.objs.size,_,I.laid (t' :=s.toks) (o:= .tup (xs++ys)) (fun b ob q=>Heap.get?_push_of_some _ q) (Nat.le_refl _) ?_,rfl,q2 (fun w=>z (r2.nil_iff.mpr w)) _ (I.hok.fresh (Nat.le_refl _))⟩
 exact ⟨by rw [List.length_append]; exact hz,_,r1.append r2,ITN.new _ _⟩
end
end L2
namespace L2
open PySem PySem.Spec PyProof.Rows
def ixN (n:Nat) (i:Int):Option Nat:=if 0<=i then (if i < n then some i.toNat else none) else if -(n:Int)<=i then some (i+n).toNat else none
def atI {α:Type} (xs:List α) (i:Int):Option α:=(ixN xs.length i).bind fun j=>xs[j]?
theorem vt {n:Nat} {i:Int} {j:Nat} (h:ixN n i=some j):seqIndex? i n=some j/\j < n/\ -(n:Int)<=i/\i < n:=by
 unfold ixN at h
 by_cases h0:0<=i
 ·rw [if_pos h0] at h
  by_cases h1:i < n
  ·rw [if_pos h1] at h
   have e:i.toNat=j:=Option.some.inj h
   exact ⟨by rw [seqIndex_of h0 h1,e],by omega,by omega,h1⟩
  ·rw [if_neg h1] at h; cases h
 ·rw [if_neg h0] at h
  by_cases h1: -(n:Int)<=i
  ·rw [if_pos h1] at h
   have e:(i+n).toNat=j:=Option.some.inj h
   exact ⟨by rw [seqIndex_neg (by omega) h1,e],by omega,h1,by omega⟩
  ·rw [if_neg h1] at h; cases h
theorem WZ {α:Type} {xs:List α} {i:Int} {v:α} (h:atI xs i=some v):∃ j,seqIndex? i xs.length=some j/\xs[j]? =some v/\j < xs.length/\ -(xs.length:Int)<=i/\i < xs.length:=by
 unfold atI at h
 cases e:ixN xs.length i with
 | none=>rw [e] at h; cases h
 | some j=>
  rw [e] at h
  obtain ⟨h1,h2,h3,h4⟩:=vt e
  exact ⟨j,h1,h,h2,h3,h4⟩
theorem jM {α:Type} {xs:List α} {j:Nat} {v:α} (h:xs[j]? =some v):atI xs (j:Int)=some v:=by
 have hj:j < xs.length:=(List.getElem?_eq_some_iff.mp h).1
 have e:ixN xs.length (j:Int)=some j:=by
  unfold ixN
  rw [if_pos (by omega),if_pos (by omega)]; simp
 unfold atI; rw [e]; exact h
def yd (b:Expr):Prop:=∀ o i,subscripted b false o i=operate [o,i] (getItem o i)
def IxR (X:Cx) (r:R2):Prop:=
 ∀ (value slice:Expr) (pins:List (Addr×Obj)) (s:Shared) (σ:St) (H:Hp) (x y:V) (v u:Value) (Q:VK),Inv X pins σ H s->Zx x v->Zx y u->r x y H Q->
  subscripted slice false v u=operate [v,u] (getItem v u)->wpAny (model X.prog X.w) X.A (subscriptTail value slice v u) (EP X pins σ Q) X.xe s
def MtR (X:Cx) (id:String) (r:V->List V->Hp->VK->Prop):Prop:=
 ∀ (pins:List (Addr×Obj)) (s:Shared) (σ:St) (H:Hp) (x:V) (xs:List V) (v:Value) (us:List Value) (Q:VK),Inv X pins σ H s->Zx x v->Ze xs us->r x xs H Q->
  wpAny (model X.prog X.w) X.A (call (.builtin id) (v :: us)) (EP X pins σ Q) X.xe s
section
variable {X:Cx} {a b:Expr} {ta tb:TE} {pos:Pos}
theorem IxR.or {r r' :R2} (h:IxR X r) (h' :IxR X r'):IxR X (fun x y H Q=>r x y H Q\/r' x y H Q):=by
 intro value slice pins s σ H x y v u Q I rx ry q hs
 rcases q with q | q
 ·exact h value slice pins s σ H x y v u Q I rx ry q hs
 ·exact h' value slice pins s σ H x y v u Q I rx ry q hs
theorem KA {r:R2} (hr:IxR X r) (ha:PE X a ta) (hb:PE X b tb) (hs:yd b):PE X (.Subscript a b pos) (tOp r ta tb):=by
 intro pins s σ H Q I h
 exact Subscript_ (Ko ha hb I h fun v u s2 x y H2 I2 rx ry q=>hr a b pins s2 σ H2 x y v u Q I2 rx ry q (hs _ _))
def GB (K:PySem.W.Frag):R2:=fun x y H Q=>∃ p xs i v,x= .ref p/\y= .int i/\SqL K H p xs/\atI xs i=some v/\Q v H
def GC (K:PySem.W.Frag):R2:=fun x y H Q=>∃ p xs i v,x= .ref p/\y= .int i/\SqT K H p xs/\atI xs i=some v/\Q v H
def GD:R2:=fun x y H Q=>∃ z i c,x= .str z/\y= .int i/\z.length<=sizeLine/\atI z.cps.toList i=some c/\Q (.str ⟨#[c]⟩) H
theorem vv:IxR X (GB X.K):=by
 intro value slice pins s σ H x y v u Q I rx ry h hs
 obtain ⟨p,xs,i,z,rfl,rfl,hq,he,q⟩:=h
 cases rx
 obtain ⟨t,rfl⟩:=ry
 obtain ⟨its,r,pl,hz⟩:=I.list hq
 obtain ⟨j,h1,h2,h3,h4,h5⟩:=WZ he
 obtain ⟨w,ew,rw'⟩:=r.get h2
 have hl:=r.length
 have hn:=wg
 have fin:EP X pins σ Q w s:=⟨z,H,I,rw',q⟩
 by_cases h0:0<=i
 ·have hj:i.toNat=j:=by
   rw [seqIndex_of h0 h5] at h1
   exact Option.some.inj h1
  exact item_listR pl.isList h0 (by omega) (by rw [hj]; simpa using ew) fin hs
 ·have hj:(i+(its.toArray.size:Int)).toNat=j:=by
   rw [seqIndex_neg (by omega) h4] at h1
   rw [List.size_toArray,← hl]
   exact Option.some.inj h1
  exact subscriptTail_builtinR (x:=w) pl.isList.typeIs slot_list_getitem.lookup
   (wpAny_getItem_list_neg (Q:=fun r s' =>r=w/\EP X pins σ Q r s') pl.isList (by omega) (by rw [List.size_toArray] <;> omega) (by omega) (by rw [hj]; simpa using ew) ⟨rfl,fin⟩) hs
theorem xL:IxR X (GC X.K):=by
 intro value slice pins s σ H x y v u Q I rx ry h hs
 obtain ⟨p,xs,i,z,rfl,rfl,hq,he,q⟩:=h
 cases rx
 obtain ⟨t,rfl⟩:=ry
 obtain ⟨its,r,pl,hz⟩:=I.tuple hq
 obtain ⟨j,h1,h2,h3,h4,h5⟩:=WZ he
 obtain ⟨w,ew,rw'⟩:=r.get h2
 have hl:=r.length
 have hn:=wg
 have fin:EP X pins σ Q w s:=⟨z,H,I,rw',q⟩
 exact subscriptTail_builtinR (x:=w) pl.typeIs slot_tuple_getitem.lookup
  (getItem_tuple (j:=j) (Q:=fun r s' =>r=w/\EP X pins σ Q r s') pl (by omega) (by omega) (by rw [List.size_toArray,← hl]; exact h1) (by simpa using ew) ⟨rfl,fin⟩) hs
theorem xM:IxR X GD:=by
 intro value slice pins s σ H x y v u Q I rx ry h hs
 obtain ⟨z,i,c,rfl,rfl,hz,he,q⟩:=h
 obtain ⟨t,rfl⟩:=rx
 obtain ⟨t',rfl⟩:=ry
 obtain ⟨j,h1,h2,h3,h4,h5⟩:=WZ he
 have hl:z.cps.toList.length=z.length:=by simp [Str.length]
 rw [hl] at h1 h4 h5
 have hn:=wg
 exact tail_any (typeIs_str s z t) slot_str_getitem.lookup (getItem_str (c:=c) (by
  have e1:decide (i < -(2 ^ 63:Int))=false:=decide_eq_false (by omega)
  have e2:decide (i ≥ 2 ^ 63)=false:=decide_eq_false (by omega)
  rw [e1,e2,Bool.or_false]) (by rw [h1]; simpa using h2) ⟨.str ⟨#[c]⟩,H,I.tok _,⟨_,rfl⟩,q⟩) hs
def rIx (K:PySem.W.Frag):R2:=fun x y H Q=>GB K x y H Q\/GC K x y H Q\/GD x y H Q
theorem xN:IxR X (rIx X.K):=vv.or (xL.or xM)
theorem Wg (lo hi:Option Int) (n:Nat):(sliceBounds lo hi none n).1=((HT.sIx n 0 lo:Nat):Int)/\(sliceBounds lo hi none n).2.1=((HT.sIx n n hi:Nat):Int)/\(sliceBounds lo hi none n).2.2=1:=by
 refine ⟨?_, ?_,rfl⟩
 ·cases lo with
  | none=>simp [sliceBounds,HT.sIx]
  | some i=>
   simp only [sliceBounds,HT.sIx,Option.getD_none,show (1:Int) > 0 by decide,if_true]
   by_cases h:i < 0
   ·simp only [h,if_true] <;> omega
   ·simp only [h,if_false] <;> omega
 ·cases hi with
  | none=>simp [sliceBounds,HT.sIx]
  | some i=>
   simp only [sliceBounds,HT.sIx,Option.getD_none,show (1:Int) > 0 by decide,if_true]
   by_cases h:i < 0
   ·simp only [h,if_true] <;> omega
   ·simp only [h,if_false] <;> omega
theorem wB (its:List Value) (lo hi:Option Int):slicePick its.toArray lo hi none=((its.drop (HT.sIx its.length 0 lo)).take (HT.sIx its.length its.length hi - HT.sIx its.length 0 lo)).toArray:=by
 obtain ⟨h1,h2,h3⟩:=Wg lo hi its.toArray.size
 unfold slicePick
 rw [h1,h2,h3]
 simp only [sliceRange_one,pick_run,List.size_toArray] <;> rfl
def rSlL (K:PySem.W.Frag):V->Option Int->Option Int->Hp->VK->Prop:=fun x lo hi H Q=>∃ a xs,x= .ref a/\SqL K H a xs/\∀ p,H p=none->Q (.ref p) (upd H p (.lst (Qk xs lo hi)))
theorem vw:SlR X (rSlL X.K):=by
 intro pins s σ H x v vl vu lo hi sl Q I rx hs pl pu h
 obtain ⟨a,xs,rfl,hx,q⟩:=h
 cases rx
 obtain ⟨its,r,ht,hz⟩:=I.list hx
 have hlen:=r.length
 refine ⟨"list",_,slot_list_getitem.lookup,ht.isList.typeIs, ?_⟩
 refine wpAny_getItem_list_slice ht.isList hs pl pu .none (by simp) ?_ (by rw [List.size_toArray] <;> omega)
 rw [wB,← hlen]
 refine ⟨.ref s.heap.objs.size,_,I.laid (t' :=s.toks) (o:= .lst (Qk xs lo hi)) (fun b ob q=>Heap.get?_push_of_some _ q) (Nat.le_refl _) ?_,rfl,q _ (I.hok.fresh (Nat.le_refl _))⟩
 exact ⟨Nat.le_trans (JC xs lo hi) hz,_,0,(r.drop (HT.sIx xs.length 0 lo)).take (HT.sIx xs.length xs.length hi - HT.sIx xs.length 0 lo),Heap.get?_push_size _ rfl⟩
theorem Wh:ZS X (.builtin "len") (fun xs H Q=>∃ p ys,xs=[.ref p]/\(SqL X.K H p ys\/SqT X.K H p ys)/\Q (.int ys.length) H):=by
 intro pins s σ H xs us Q I r h
 obtain ⟨p,ys,rfl,hq,q⟩:=h
 obtain ⟨u,rfl,rx⟩:=ZT r
 cases rx
 have hn:=wg
 rcases hq with hq | hq
 ·obtain ⟨its,r',pl,hz⟩:=I.list hq
  have hlen:=r'.length
  exact Calls.call_len_list pl.isList (by simp only [List.size_toArray] <;> omega) ⟨.int ys.length,H,I.tok _,⟨s.toks+1,by rw [List.size_toArray,hlen]⟩,q⟩
 ·obtain ⟨its,r',pl,hz⟩:=I.tuple hq
  have hlen:=r'.length
  exact len_tuple pl (by simp only [List.size_toArray] <;> omega) ⟨.int ys.length,H,I.tok _,⟨s.toks+1,by rw [List.size_toArray,hlen]⟩,q⟩
theorem Wi:ZS X (.builtin "len") (fun xs H Q=>∃ z,xs=[.str z]/\z.length<=sizeLine/\Q (.int z.length) H):=by
 intro pins s σ H xs us Q I r h
 obtain ⟨z,rfl,hz,q⟩:=h
 obtain ⟨u,rfl,t,rfl⟩:=ZT r
 have hn:=wg
 exact len_str (by omega) ⟨.int z.length,H,I.tok _,⟨_,rfl⟩,q⟩
theorem ZS.or {f:Value} {r r' :List V->Hp->VK->Prop} (h:ZS X f r) (h' :ZS X f r'):ZS X f (fun xs H Q=>r xs H Q\/r' xs H Q):=by
 intro pins s σ H xs us Q I rs q
 rcases q with q | q
 ·exact h pins s σ H xs us Q I rs q
 ·exact h' pins s σ H xs us Q I rs q
theorem wC:ZS X (.type "tuple") (fun xs H Q=>∃ p ys,xs=[.ref p]/\((SqL X.K H p ys/\∀ l,H l=none->Q (.ref l) (upd H l (.tup ys)))\/(SqT X.K H p ys/\Q (.ref p) H))):=by
 intro pins s σ H xs us Q I r h
 obtain ⟨p,ys,rfl,h⟩:=h
 obtain ⟨u,rfl,rx⟩:=ZT r
 cases rx
 rcases h with ⟨hq,q⟩ | ⟨hq,q⟩
 ·obtain ⟨its,r',pl,hz⟩:=I.list hq
  have hlen:=r'.length
  refine call_tuple_list pl.isList (fun h' kp=> ?_) (by simp only [List.size_toArray] <;> omega)
  have I1:Inv X pins σ H { s with heap:=h' }:=I.kept (t' :=s.toks) kp
  have I2:Inv X pins σ (upd H h'.objs.size (.tup ys)) { s with heap:=h'.push { cls:= .type "tuple",data:= .seq its.toArray } }:=
   I1.laid (t' :=s.toks) (fun b o e=>Heap.get?_push_of_some _ e) (Nat.le_refl _) (show ZF X.prog X.w _ _ _ (.tup ys) from ⟨hz,its,r',ITN.new _ _⟩)
  exact ⟨.ref h'.objs.size,_,I2,rfl,q _ (I1.hok.fresh (Nat.le_refl _))⟩
 ·obtain ⟨its,r',pl,hz⟩:=I.tuple hq
  exact call_tuple_same pl ⟨.ref p,H,I,rfl,q⟩
def tyV (K:PySem.W.Frag) (T:String) (x:V) (H:Hp):Prop:=match x with
 | .str _=>T="str"
 | .int _=>T="int"
 | .ref p=>(T="list"/\∃ xs,SqL K H p xs)\/(T="tuple"/\∃ o,K.lookup p=some o/\o.cls= .type "tuple"/\o.dict=none)\/
   (T="dict"/\((∃ kvs,H p=some (.dK kvs))\/∃ kvs,H p=some (.dT kvs)))\/(T="set"/\∃ S n,H p=some (.set S n))
 | _=>False
theorem xO {pins:List (Addr×Obj)} {σ:St} {H:Hp} {s:Shared} {T:String} {x:V} {v:Value} (I:Inv X pins σ H s) (r:Zx x v) (ty:tyV X.K T x H):
  s.TypeIs v T/\∀ a,v= .ref a->∃ ob,s.heap.get? a=some ob/\ob.dict=none:=by
 cases x with
 | str z=>
  obtain ⟨t,rfl⟩:=r
  cases (show T="str" from ty)
  exact ⟨typeIs_str s z t,fun _ e=>nomatch e⟩
 | int i=>
  obtain ⟨t,rfl⟩:=r
  cases (show T="int" from ty)
  exact ⟨typeIs_int s i t,fun _ e=>nomatch e⟩
 | ref p=>
  cases r
  rcases ty with ⟨rfl,xs,hq⟩ | ⟨rfl,o,hk,hc,hd⟩ | ⟨rfl,hk⟩ | ⟨rfl,S,n,hk⟩
  ·obtain ⟨its,_,pl,_⟩:=I.list hq
   refine ⟨pl.isList.typeIs,fun a e=> ?_⟩
   cases e
   obtain ⟨o,n,e,c,hd,_⟩:=pl
   exact ⟨o,e,hd⟩
  ·refine ⟨⟨o,I.kIn p o hk,hc⟩,fun a e=> ?_⟩
   cases e
   exact ⟨o,I.kIn _ o hk,hd⟩
  ·have z:∃ o,s.heap.get? p=some o/\o.ExactDict:=by
    rcases hk with ⟨kvs,hk⟩ | ⟨kvs,hk⟩
    ·obtain ⟨_,_,_,_,o,_,_,e,ex,_⟩:=I.hok p _ hk
     exact ⟨o,e,ex⟩
    ·obtain ⟨_,_,_,_,o,_,_,e,ex,_⟩:=I.hok p _ hk
     exact ⟨o,e,ex⟩
   obtain ⟨o,e,ex⟩:=z
   refine ⟨⟨o,e,ex.1⟩,fun a e2=> ?_⟩
   cases e2
   exact ⟨o,e,ex.2.1⟩
  ·obtain ⟨o,_,_,_,e,ex,_⟩:=I.hok p _ hk
   refine ⟨⟨o,e,ex.1⟩,fun a e2=> ?_⟩
   cases e2
   exact ⟨o,e,ex.2.1⟩
 | _=>exact False.elim ty
def tBM (K:PySem.W.Frag) (T:String) (r:V->List V->Hp->VK->Prop) (to:TE) (t:TA):TE:=fun σ H Q=>to σ H fun x H1=>tyV K T x H1/\t σ H1 fun xs H2=>r x xs H2 Q
variable {o e:Expr} {es:List Expr} {to:TE} {t:TA} {name:Str} {apos cpos:Pos} {T id:String} {r:V->List V->Hp->VK->Prop}
theorem Wj (pa:PlainAttrs T) (slot:Slot T name id) (hty:typeOf (.builtin id)=pure (.type "method_descriptor")) (hm:MtR X id r) (ho:PE X o to) (ha:PA X (e :: es) t)
  (hbase:attributeBase o name X.env (eval o X.env)=eval o X.env:=by rfl)
  (hfew:((backTo cpos (starEach (e :: es) X.env)).all (fun x=> !x.1) && (backToKw cpos (keywordEach [] X.env)).all (fun x=>x.1.isSome)
   && decide ((e :: es).length+([]:List Keyword).length+(if ([]:List Keyword).isEmpty then 0 else 1) < 30))=true:=by rfl)
  (hline:(apos.endLine == cpos.line)=true:=by rfl) (hs:starEach (e :: es) X.env=(false,eval e X.env) :: starEach es X.env:=by rfl) (hplain:(backTo cpos (starEach es X.env)).any (·.1)=false:=by rfl):
  PE X (.Call (.Attribute o name apos) (e :: es) [] cpos) (tBM X.K T r to t):=by
 intro pins s σ H Q I h
 refine wpAny_Call_method_late hbase hfew hline rfl (thn (ho pins s σ H _ I h) fun v s1 ⟨x,H1,I1,r1,ty,q1⟩=> ?_)
 obtain ⟨h1,h2⟩:=xO I1 r1 ty
 refine ⟨T,id,pa,slot,hty,h1,h2, ?_⟩
 have hA:=ha cpos pins s1 σ H1 _ I1 q1
 rw [hs] at hA ⊢
 refine Calls.callWith_builtin (by show (false || (backTo cpos (starEach es X.env)).any (·.1))=false; rw [hplain] <;> rfl) (Calls.evalArgs_plain ?_)
 exact thn hA fun us s2 ⟨vs,H2,I2,r2,q2⟩=>hm pins s2 σ H2 x vs v us Q I2 r1 r2 q2
end
end L2
namespace L2
open PySem PySem.Spec PyProof.Rows
def MtM (X:Cx) (id:String) (r:V->List V->Hp->VK->Prop):Prop:=
 ∀ (pins:List (Addr×Obj)) (s:Shared) (σ:St) (H:Hp) (x:V) (xs:List V) (v:Value) (us:List Value) (Q:VK),Inv X pins σ H s->Zx x v->Ze xs us->r x xs H Q->
  wpAny (model X.prog X.w) X.A (call (.builtin id) (v :: us)) (EP X pins σ Q) X.xe s
theorem Ze.one:∀ {x:V} {us:List Value},Ze [x] us->∃ u,us=[u]/\Zx x u
 | _,_, .cons r .nil=>⟨_,rfl,r⟩
theorem Ze.rep {xs:List V} {us:List Value} (h:Ze xs us):∀ k:Nat,Ze (List.replicate k xs).flatten (List.replicate k us).flatten
 | 0=> .nil
 | k+1=>by
  rw [List.replicate_succ,List.replicate_succ,List.flatten_cons,List.flatten_cons]
  exact Ze.append h (Ze.rep h k)
theorem jT (its:List Value):∀ (k:Nat) (acc:List Value),
  List.foldl (fun x1 x2=>x1++x2) acc.toArray (List.replicate k its.toArray)=(acc++(List.replicate k its).flatten).toArray
 | 0,acc=>by simp
 | k+1,acc=>by
  have e:acc.toArray++its.toArray=(acc++its).toArray:=by simp
  have e2:(acc++its)++(List.replicate k its).flatten=acc++(List.replicate (k+1) its).flatten:=by
   rw [List.replicate_succ,List.flatten_cons,List.append_assoc]
  rw [← e2,← jT its k (acc++its),← e,List.replicate_succ,List.foldl_cons]
section
variable {X:Cx} {pins:List (Addr×Obj)} {σ:St} {H:Hp} {s:Shared} {l b:Addr} {xs ys zs:List V}
theorem Inv.lset {its its' :List Value} {n:Nat} {f:Array Value->Array Value} {t' :Nat} (I:Inv X pins σ H s) (hH:H l=some (.lst xs))
  (e:s.heap.get? l=some { cls:= .type "list",data:= .seq its.toArray n }) (hf:f its.toArray=its'.toArray) (hv:Ze ys its') (hz:ys.length<=sizeLine):
  Inv X pins σ (upd H l (.lst ys)) { s with heap:=s.heap.update l (Obj.mapSeq f),toks:=t' }:=by
 have q:=PySem.IsL.update e f
 rw [hf] at q
 refine I.write (x:=l) (e:=l) (by rw [hH]; exact trivial) (.inl rfl) (fun b' u hb hu=>(Heap.get?_update_other s.heap (Obj.mapSeq f) (Ne.symm hb)).trans hu) ⟨_,q⟩ ?_
 exact ⟨hz,its',_,hv,q⟩
theorem Inv.lnew {its:List Value} {t' :Nat} (I:Inv X pins σ H s) (hv:Ze ys its) (hz:ys.length<=sizeLine):
  Inv X pins σ (upd H s.heap.objs.size (.lst ys)) { s with heap:=s.heap.push { cls:= .type "list",data:= .seq its.toArray },toks:=t' }:=
 I.laid (fun _ _ q=>Heap.get?_push_of_some _ q) (Nat.le_refl _) ⟨hz,its,0,hv,Heap.get?_push_size _ rfl⟩
theorem Inv.fresh (I:Inv X pins σ H s):H s.heap.objs.size=none:=I.hok.fresh (Nat.le_refl _)
theorem Inv.lstM (I:Inv X pins σ H s) (hH:H l=some (.lst xs)):xs.length<=sizeLine/\∃ (its:List Value) (n:Nat),Ze xs its/\xs.length=its.length/\s.heap.get? l=some { cls:= .type "list",data:= .seq its.toArray n }:=by
 obtain ⟨z,its,n,r,e⟩:=I.hok l _ hH
 exact ⟨z,its,n,r,r.length,e⟩
theorem uv {n:Nat} (h:n<=sizeLine):Builtin.List.listTooLong n=false:=by
 unfold Builtin.List.listTooLong
 exact decide_eq_false (by omega)
end
section
variable {X:Cx}
def vx:V->List V->Hp->VK->Prop:=fun x vs H Q=>∃ l xs y,x= .ref l/\vs=[y]/\H l=some (.lst xs)/\xs.length < sizeLine/\Q .non (upd H l (.lst (xs++[y])))
theorem Wk:MtM X "list.append" vx:=by
 intro pins s σ H x vs v us Q I rx rv h
 obtain ⟨l,xs,y,rfl,rfl,hH,hz,q⟩:=h
 cases rx
 obtain ⟨u,rfl,ru⟩:=rv.one
 obtain ⟨z,its,n,r,hl,e⟩:=I.lstM hH
 refine call_meets F.slot_list_append ⟨_,e,rfl⟩ F.entry_list_append (F.args_list_append_2 _ _) (PySem.list_append l its.toArray n u (by rw [List.size_toArray]; omega)) ⟨e, ?_⟩
 refine ⟨.non,_,I.lset (its' :=its++[u]) hH e (by simp) (r.append (.cons ru .nil)) ?_,rfl,q⟩
 rw [List.length_append,List.length_singleton]
 omega
def vy:V->List V->Hp->VK->Prop:=fun x vs H Q=>∃ l b xs zs,x= .ref l/\vs=[.ref b]/\H l=some (.lst xs)/\H b=some (.lst zs)/\xs.length+zs.length<=sizeLine/\Q .non (upd H l (.lst (xs++zs)))
theorem ye:MtM X "list.extend" vy:=by
 intro pins s σ H x vs v us Q I rx rv h
 obtain ⟨l,b,xs,zs,rfl,rfl,hH,hB,hz,q⟩:=h
 cases rx
 obtain ⟨u,rfl,ru⟩:=rv.one
 cases ru
 obtain ⟨z,its,n,r,hl,e⟩:=I.lstM hH
 obtain ⟨z2,its2,n2,r2,hl2,e2⟩:=I.lstM hB
 have hsz:its.toArray.size+its2.toArray.size<=sizeLine:=by rw [List.size_toArray,List.size_toArray]; omega
 have hlong:¬ (!its.toArray.isEmpty && Builtin.List.listTooLong (its.toArray.size+its2.toArray.size))=true:=by
  rw [uv hsz,Bool.and_false]
  exact Bool.false_ne_true
 refine call_meets F.slot_list_extend ⟨_,e,rfl⟩ F.entry_list_extend (F.args_list_extend_2 _ _)
  (AutoSeq1.list_extend_list_list_0 l its.toArray n b its2.toArray n2 hlong (by rw [List.size_toArray]; omega) (by omega)) ⟨e,e2, ?_⟩
 refine ⟨.non,_,I.lset (its' :=its++its2) hH e (by simp) (r.append r2) ?_,rfl,q⟩
 rw [List.length_append]
 omega
def rCat:R2:=fun x y H Q=>∃ l b xs zs,x= .ref l/\y= .ref b/\H l=some (.lst xs)/\H b=some (.lst zs)/\xs.length+zs.length<=sizeLine/\∀ p,H p=none->Q (.ref p) (upd H p (.lst (xs++zs)))
theorem xP:OpR X (binaryOp .Add) rCat:=by
 intro pins s σ H x y v u Q I rx ry h
 obtain ⟨l,b,xs,zs,rfl,rfl,hH,hB,hz,q⟩:=h
 cases rx
 cases ry
 obtain ⟨z,its,n,r,hl,e⟩:=I.lstM hH
 obtain ⟨z2,its2,n2,r2,hl2,e2⟩:=I.lstM hB
 refine PySem.P.add_list e e2 ?_ (by rw [List.size_toArray,List.size_toArray]; omega)
 have ea:its.toArray++its2.toArray=(its++its2).toArray:=by simp
 rw [ea]
 exact ⟨.ref _,_,I.lnew (t' :=s.toks) (r.append r2) (by rw [List.length_append]; omega),rfl,q _ I.fresh⟩
def rRep:R2:=fun x y H Q=>∃ l k xs,x= .ref l/\y= .int k/\H l=some (.lst xs)/\ -(2 ^ 63)<=k/\k < 2 ^ 63/\xs.length*k.toNat<=sizeLine/\
 ∀ p,H p=none->Q (.ref p) (upd H p (.lst (List.replicate k.toNat xs).flatten))
theorem J4 {α:Type} (xs:List α) (k:Nat):(List.replicate k xs).flatten.length=k*xs.length:=by
 induction k with
 | zero=>simp
 | succ k ih=>rw [List.replicate_succ,List.flatten_cons,List.length_append,ih,Nat.succ_mul,Nat.add_comm]
theorem xQ:OpR X (binaryOp .Mult) rRep:=by
 intro pins s σ H x y v u Q I rx ry h
 obtain ⟨l,k,xs,rfl,rfl,hH,h1,h2,hz,q⟩:=h
 cases rx
 obtain ⟨t,rfl⟩:=ry
 obtain ⟨z,its,n,r,hl,e⟩:=I.lstM hH
 have hlen:its.toArray.size*k.toNat<=sizeLine:=by rw [List.size_toArray,← hl]; exact hz
 have hcap:¬ its.toArray.size*k.toNat > (2 ^ 63 - 1) / 8:=by
  have:(sizeLine:Nat)<=(2 ^ 63 - 1) / 8:=by decide
  omega
 have hfit:¬ (!Builtin.List.listFitsIndex k)=true:=by
  rw [fitsIndex_both h1 h2]
  exact Bool.false_ne_true
 have hlong:¬ Builtin.List.listTooLong (its.toArray.size*k.toNat)=true:=by
  rw [uv hlen]
  exact Bool.false_ne_true
 have hnew:List.foldl (fun x1 x2=>x1++x2) #[] (List.replicate (if its.toArray.isEmpty=true then 0 else k.toNat) its.toArray)=(List.replicate k.toNat its).flatten.toArray:=by
  have f0:∀ m:Nat,List.foldl (fun x1 x2=>x1++x2) #[] (List.replicate m its.toArray)=(List.replicate m its).flatten.toArray:=fun m=>by
   have:=jT its m []
   rw [List.nil_append] at this
   exact this
  rw [f0]
  cases its with
  | nil=>simp
  | cons a r' =>rw [if_neg (by simp)]
 refine wpAny_binaryOp_repeat_ref (T:="list") (U:="int") (by decide) ⟨_,e,rfl⟩ (fun s' =>typeIs_int s' k t) noFill_list_mul F.fills_int_mul F.slot_int_rmul repeat_list F.slot_int_index.lookup
  (call_meets F.slot_int_rmul (typeIs_int s k t) F.entry_int_rmul (F.args_int_rmul_2 _ _) (int___rmul___int_list k t l its.toArray n)
   ⟨e,rfl,⟨_,e,rfl⟩,call_meets F.slot_list_mul ⟨_,e,rfl⟩ F.entry_list_mul (F.args_list_mul_2 _ _) (AutoListH.list___mul___list_int_3 l its.toArray n k t hfit hcap hlong) ⟨e, ?_⟩⟩)
 rw [hnew]
 exact ⟨.ref _,_,I.lnew (t' :=s.toks) (r.rep k.toNat) (by rw [J4,Nat.mul_comm]; exact hz),rfl,q _ I.fresh⟩
end
section
variable {prog:Program} {w:World} {A:Around} {E:Value->Shared->Prop} {s:Shared}
end
section
variable {X:Cx}
end
end L2
namespace Att
open PySem PySem.W PySem.Calls PyProof.Rows
theorem JD {P:Params} {h:Heap}:∀ (ns:List Int) (vs:List Value),WellAll P h vs (ns.map WData.int)->IntsAre vs ns:=by
 intro ns
 induction ns with
 | nil=>
  intro vs w
  rw [List.map_nil] at w
  cases w
  exact .nil
 | cons n ns ih=>
  intro vs w
  rw [List.map_cons] at w
  cases w with
  | cons a b=>
   cases a
   exact .cons _ _ (ih _ b)
theorem yf {l:OpenLaw} {n:Nat} (hn:l.most=some n) {P:Params} {h:Heap} {args:List WData} {vals:List Value}
  (hpre:l.row.toRowW.claim.pre args=true) (hwl:WellAll P h vals args):
  ∃ a vs ns,vals=[Value.ref a]/\args=[WData.list (ns.map WData.int)]/\h.get? a=some { cls:= .type "list",data:= .seq vs.toArray }/\IntsAre vs ns/\ns.length<=n:=by
 have hsh:WShape.hasAll [] args [.list .int]=true:=(pre_splitW hpre).1
 have hc:l.pre.holds [] { args:=args }=true:=(pre_splitW hpre).2
 obtain ⟨d,r,rfl,h1,h2⟩:=hasAllW_cons hsh
 obtain rfl:=hasAllW_nil h2
 obtain ⟨xs,rfl,h3⟩:=hasW_list h1
 obtain ⟨ns,rfl⟩:=items_int h3
 have hlen:ns.length<=n:=by
  unfold OpenLaw.pre at hc
  have h4:(WTm.not (.lt (.lit (.int (n:Int))) (.len (.arg 0)))).holds [] { args:=[.list (ns.map .int)] }=true:=by
   have h4:=(holds_andW hc).1
   rw [hn] at h4
   exact h4
  have h5:=condW_of h4 (w_not (w_lt w_lit (w_len_list (w_arg rfl))))
  rw [List.length_map] at h5
  refine Nat.le_of_not_lt fun q=> ?_
  have q' :(n:Int) < ((ns.length:Nat):Int):=by omega
  first
   | (rw [decide_eq_true q'] at h5; exact absurd h5 (by decide))
   | (simp at h5; omega)
 cases hwl with
 | cons w1 w2=>
  cases w2
  cases w1 with
  | list ho hall=>exact ⟨_,_,ns,rfl,rfl,ho,JD ns _ hall,hlen⟩
theorem yg (l:OpenLaw) (args:List WData):l.row.toRowW.claim.post args (.bool true) args=true:=
 postW_of (r:=l.row.toRowW) (X:=(true == true))
  (show WShape.has [] (.bool true) .bool=true by first | rfl | decide | simp [WShape.has,WShape.arms,WShape.armsAll])
  (show (WTm.eq .res (.lit (.bool true))).value [] { args:=args,res:=some (.bool true),after:=args }=some (.bool (true == true)) from w_eq_bool (w_res rfl) w_lit) rfl
theorem attach_call {l:OpenLaw} {n:Nat} {q:Program} {loose:List Str} {XP:(Str->Option Value)->Heap->Prop} {YP:World->Heap->Prop} {d:DefRec}
  (hn:l.most=some n) (hdf:d.params.defaults=[])
  (call:∀ (w:World) (s₀ s₁:Shared) (mg mb:Str->Option Value) (fa:Addr) (o:Obj) (pm cd doc:Value) (a:Addr) (vs:List Value) (ns:List Int),
   Ground q loose [] XP w s₀ mg mb s₁.heap->YP w s₁.heap->
   s₁.heap.get? fa=some o->o.data= .func (docDef d.name d.params d.body d.scope pm cd doc)->s₁.heap.CodeRec cd d.name->mg d.name=some (.ref fa)->
   s₁.heap.get? a=some { cls:= .type "list",data:= .seq vs.toArray }->IntsAre vs ns->ns.length<=n->s₁.gens= #[]->
   codeAny (model l.prog w) callerA (.call (.ref fa) ⟨[.ref a],[]⟩) (fun r s' =>r= .ok (.ret (.bool true))/\OldK s₁.heap s'.heap/\s'.os=s₁.os/\AllBare s'.gens) s₁):
  WalkO q loose XP YP l.row.toRowW d [] (fun f vs=>PySem.call f vs):=by
 intro w s₀ s₁ mg mb G Y fa o pm cd doc dV kV ho hd hcd hD hmg hg args vals as hpre hlay hrd hwl hlo
 obtain rfl:dV= .none:=Dflts.none hD hdf
 obtain rfl:kV= .none:=Dflts.noKw hD
 obtain ⟨a,vs,ns,rfl,rfl,hobj,hints,hlen⟩:=yf hn hpre hwl
 refine enter_call (codeAny_mono (call w s₀ s₁ mg mb fa o pm cd doc a vs ns G Y ho (fd_plain hd) hcd hmg hobj hints hlen hg) fun r s' hq=> ?_)
 obtain ⟨rfl,h2,h3,h4⟩:=hq
 exact ⟨.inl ⟨.bool true, .bool true,[],rfl,fun _=>rfl, .bool true,yg l _,fun _=>⟨List.Pairwise.nil,fun _ hm=>(nomatch hm)⟩⟩,h2,h3,h4⟩
section
variable {prog:Program} {w:World} {A:Around} {E:Value->Shared->Prop} {s:Shared} {K:Frag}
end
end Att
namespace L2
open PySem PySem.Spec PyProof.Rows
theorem Wl:∀ {vs:List Value} {ns:List Int},IntsAre vs ns->Ze (ns.map V.int) vs
 | _,_, .nil=> .nil
 | _,_, .cons n t h=> .cons ⟨t,rfl⟩ (Wl h)
def kx (H:Hp):Prop:=∀ b,H b=none\/∃ o xs,H b=some (.frz o (.lst xs))
theorem qm {P:Program} {w:World} {K:PySem.W.Frag} {mg mb:Str->Option Value} {CX:CXT} {k:Nat} {fa a:Addr} {fd:FuncData} {x:Str} {sp:Sp} {s₁:Shared} {vs:List Value} {ns:List Int}
  (KX:K.In s₁.heap) (hns:s₁.heap.Ns mainGlobals mg) (hb:s₁.heap.Ns builtinsNs mb) (hbb:∀ x:Str,x ≠ "__name__"->mb x=bootBuiltins x) (hlim:s₁.heap.NoLimit) (hg:s₁.gens= #[])
  (ha:s₁.heap.get? a=some { cls:= .type "list",data:= .seq vs.toArray }) (hi:IntsAre vs ns) (hl:ns.length<=sizeLine) (hr:Jl k callerA)
  (F:∀ base:Heap,K.In base->base.Ns mainGlobals mg->Zf P w K mg base CX k fa fd [x] sp) (hbind:∀ (s:Shared) (u:Value),BindsTo s fd ⟨[u],[]⟩ [(x,u)])
  (hsp:∀ H:Hp,kx H->SqL K H a (ns.map V.int)->sp [.ref a] H (fun v _=>v= .bl true) fun _ _ _=>False)
  (hCX:∀ H e s',CX [] H s₁ (fun _ _ _=>False) e s' ->False):
  codeAny (model P w) callerA (.call (.ref fa) ⟨[.ref a],[]⟩) (fun r s' =>r= .ok (.ret (.bool true))/\OldK s₁.heap s'.heap/\s'.os=s₁.os/\AllBare s'.gens) s₁:=by
 have rv:=Wl hi
 have lenV:=hi.length
 have core:∀ H:Hp,kx H->SqL K H a (ns.map V.int)->HOk P w H s₁.heap->(∀ b,H b ≠ none->b=a)->(H a ≠ none->K.lookup a=none)->
   codeAny (model P w) callerA (.call (.ref fa) ⟨[.ref a],[]⟩) (fun r s' =>r= .ok (.ret (.bool true))/\OldK s₁.heap s'.heap/\s'.os=s₁.os/\AllBare s'.gens) s₁:=by
  intro H hO hS hok hA hK
  have base_of:∀ {b:Addr} {o:Obj},s₁.heap.get? b=some o->H b=none->(qc s₁.heap H).get? b=some o:=fun e n=>qd e n
  have noA:∀ {b:Addr} {o:Obj} {es:Array DictEntry} {ep:Nat},s₁.heap.get? b=some o->o.data= .dict es ep->H b=none:=fun {b o es ep} e d=>by
   cases q:H b with
   | none=>rfl
   | some u=>
    have e' :b=a:=hA b (by rw [q]; simp)
    subst e'
    rw [ha] at e; cases e
    have d' :Data.seq vs.toArray _=Data.dict es ep:=d
    cases d'
  have nsK:∀ {b:Addr} {m:Str->Option Value},s₁.heap.Ns b m->(qc s₁.heap H).Ns b m:=fun {b m} ⟨o,es,ep,e,d,r⟩=>⟨o,es,ep,base_of e (noA e d),d,r⟩
  have hKb:K.In (qc s₁.heap H):=fun b o e=>base_of (KX b o e) (by
   cases q:H b with
   | none=>rfl
   | some u=>
    have e' :b=a:=hA b (by rw [q]; simp)
    subst e'
    rw [hK (by rw [q]; simp)] at e; cases e)
  have hM:Mod K mg (qc s₁.heap H):=⟨hKb,nsK hns,⟨mb,nsK hb,hbb⟩,let ⟨mc,h1,h2⟩:=hlim; ⟨mc,nsK h1,h2⟩⟩
  have e0:kw P w K mg (qc s₁.heap H) callerA [] s₁ H:=⟨rfl,hM,fun b o e=>va e,Nat.le_of_eq (UT _ _),trivial,fun b hb=>absurd (show b∈([]:List Addr) from hb) (by simp),hok, .of_eq hg⟩
  refine codeAny_mono ((F _ hKb (nsK hns)).run callerA [] s₁ H ⟨[.ref a],[]⟩ [.ref a] [.ref a] _ _ hr e0 (hbind s₁ (.ref a)) (.cons rfl .nil) (hsp H hO hS)) fun r s' h=> ?_
  cases r with
  | error e=>exact (hCX H e s' h).elim
  | ok fl=>
   cases fl with
   | next=>exact False.elim h
   | brk=>exact False.elim h
   | cont=>exact False.elim h
   | ret u=>
    obtain ⟨v,H',os,bare,un,hok',r',q⟩:=h
    have q' :v= .bl true:=q
    subst q'
    obtain rfl:u=Value.bool true:=r'
    refine ⟨rfl,OldK.of_keep fun b o e=> ?_,os,bare⟩
    cases q:H b with
    | none=>exact un.keep b o e q (by intro z; exact absurd (show b∈([]:List Addr) from z) (by simp)) (by simp)
    | some u=>
     rcases hO b with z | ⟨ob,xs,z⟩
     ·rw [q] at z; cases z
     ·have z2:=un.frzs b ob _ z
      obtain ⟨e1,_⟩:=hok b _ z
      obtain ⟨e2,_⟩:=hok' b _ z2
      rw [e] at e1; cases e1
      exact e2
 cases hk:K.lookup a with
 | some o=>
  have e:=KX a o hk
  rw [ha] at e
  cases e
  refine core (fun _=>none) (fun _=> .inl rfl) (.inr ⟨_,vs.toArray,_,hk,rfl,rfl,rfl,by rw [List.size_toArray,lenV]; exact hl,by simpa using rv⟩) (fun b u z=>by have z' :(none:Option HO)=some u:=z; cases z') (fun b z=>absurd rfl z) fun z=>absurd rfl z
 | none=>
  refine core (fun b=>if b=a then some (.frz { cls:= .type "list",data:= .seq vs.toArray } (.lst (ns.map V.int))) else none) (fun b=> ?_) (.inl (.inr ⟨{ cls:= .type "list",data:= .seq vs.toArray },if_pos rfl⟩)) (fun b u z=> ?_) (fun b z=> ?_) fun _=>hk
  ·by_cases hb:b=a
   ·exact .inr ⟨_,_,if_pos hb⟩
   ·exact .inl (if_neg hb)
  ·by_cases hb:b=a
   ·have z' :=(if_pos hb).symm.trans z
    cases z'
    subst hb
    exact ⟨ha,by rw [List.length_map]; exact hl,vs,_,rv,ha⟩
   ·have z' :=(if_neg hb).symm.trans z
    cases z'
  ·by_cases hb:b=a
   ·exact hb
   ·exact absurd (if_neg hb) z
end L2
namespace L2
open PySem PySem.Spec PyProof.Rows
theorem walk_of {l:PySem.W.OpenLaw} {n k:Nat} {q:Program} {loose:List Str} {XP:(Str->Option Value)->Heap->Prop} {YP:World->Heap->Prop} {d:DefRec} {K:Params->PySem.W.Frag} {CX:World->CXT} {sp:World->Sp} {x:Str}
  (hn:l.most=some n) (hn2:n<=sizeLine) (hdf:d.params.defaults=[]) (hr:Jl k callerA)
  (hY:∀ (w:World) (h:Heap),YP w h->(K w.params).In h)
  (F:∀ (w:World) (mg:Str->Option Value) (fa:Addr) (h:Heap),(K w.params).In h->h.Ns mainGlobals mg->mg d.name=some (.ref fa)->
   ∃ fd:FuncData,(∀ (s:Shared) (u:Value),BindsTo s fd ⟨[u],[]⟩ [(x,u)])/\
    ∀ base:Heap,(K w.params).In base->base.Ns mainGlobals mg->Zf l.prog w (K w.params) mg base (CX w) k fa fd [x] (sp w))
  (hsp:∀ (w:World) (H:Hp) (a:Addr) (ns:List Int),ns.length<=n->kx H->SqL (K w.params) H a (ns.map V.int)->sp w [.ref a] H (fun v _=>v= .bl true) fun _ _ _=>False)
  (hCX:∀ (w:World) (H:Hp) (s:Shared) (e:Value) (s' :Shared),CX w [] H s (fun _ _ _=>False) e s' ->False):
  PySem.W.WalkO q loose XP YP l.row.toRowW d [] (fun f vs=>PySem.call f vs):=by
 refine Att.attach_call hn hdf fun w s₀ s₁ mg mb fa o pm cd doc a vs ns G Y ho hd hcd hmg hobj hints hlen hg=> ?_
 have KX:=hY w _ Y
 obtain ⟨fd,hb,hF⟩:=F w mg fa _ KX G.T.g hmg
 exact qm KX G.T.g G.T.b G.T.builtins G.T.nolimit hg hobj hints (Nat.le_trans hlen hn2) hr hF hb (fun H hO hS=>hsp w H a ns hlen hO hS) fun H e s' =>hCX w H s₁ e s'
end L2
namespace L2
open PySem PySem.Spec PyProof.Rows
def jj (s:Stmt):Arguments:=match s with
 | .FunctionDef _ a _ _ _ _ _ _ _ _=>a
 | _=>{ posonlyargs:=[],args:=[],vararg:=none,kwonlyargs:=[],kw_defaults:=[],kwarg:=none,defaults:=[] }
def ZH (s:Stmt):List Stmt:=match s with
 | .FunctionDef _ _ b _ _ _ _ _ _ _=>b
 | _=>[]
def ze (s:Stmt):Scope:=match s with
 | .FunctionDef _ _ _ _ _ _ sc _ _ _=>sc
 | _=>{ kind:= .function,names:=[],isGenerator:=false,isCoroutine:=false }
abbrev CX0:CXT:=fun _ _ _ _ _ _=>False
structure Fun (K:PySem.W.Frag) (x qual:Str) (st:Stmt) (f:Addr) (fd:FuncData):Prop where
 ex:∃ (oc:Value) (od:Option Addr) (kV doc pm:Value) (an:Option Addr) (cdv ct:Value) (osl:Array (Option Value)),
  fd=PySem.W.fnOf x qual (jj st) (ZH st) (ze st) .none kV doc pm an cdv ct/\K.lookup f=some ⟨oc,od, .func fd,osl⟩/\PySem.W.codeIn K cdv qual=true
 kp:PySem.W.keepIn K (.ref f)=true
section
variable {P:Program} {w:World} {K:PySem.W.Frag} {mg:Str->Option Value} {base:Heap}
theorem Fun.ok {x qual:Str} {st:Stmt} {f:Addr} {fd:FuncData} {N ps:List Str} {k:Nat} {sp:Sp} (F:Fun K x qual st f fd) (S:zm N ps (ze st)) (len:∀ vs H Q E,sp vs H Q E->vs.length=ps.length)
  (hbody:∀ (cdv:Value) (A:Around) (outer:List Env) (s:Shared) (H:Hp) (vs:List V) (Q:VK) (E:XK),Jl k (A.deeper (envOfC qual (ze st) s.heap.objs.size f cdv))->sp vs H Q E->
   ∃ t,PSs (JY CX0 P w K mg base N qual (ze st) f cdv A outer s H E).nox (ZH st) t/\t { nx:=fun _ H' =>Q .non H',rt:=Q } (start N vs) H):Zf P w K mg base CX0 (k+1) f fd ps sp:=by
 obtain ⟨oc,od,kV,doc,pm,an,cdv,ct,osl,rfl,lk,hcd⟩:=F.ex
 refine xI lk hcd S len fun A outer s H vs Q E hr hsp=> ?_
 obtain ⟨t,h,q⟩:=hbody cdv A outer s H vs Q E hr hsp
 exact ⟨t,h.nox,q⟩
theorem Fun.binds {x qual:Str} {st:Stmt} {f:Addr} {fd:FuncData} {ps:List Str} (F:Fun K x qual st f fd)
  (h:∀ (kV doc pm:Value) (an:Option Addr) (cdv ct:Value) (us:List Value),us.length=ps.length->bindArgs (PySem.W.fnOf x qual (jj st) (ZH st) (ze st) .none kV doc pm an cdv ct) ⟨us,[]⟩=pure (ps.zip us)):Binds K fd ps []:=by
 obtain ⟨oc,od,kV,doc,pm,an,cdv,ct,osl,rfl,lk,hcd⟩:=F.ex
 exact .all (h kV doc pm an cdv ct)
theorem xR {x qual:Str} {st:Stmt} {f:Addr} {oc:Value} {od an:Option Addr} {osl:Array (Option Value)} {kV doc pm cdv ct:Value} (l:K.lookup f=some ⟨oc,od, .func (PySem.W.fnOf x qual (jj st) (ZH st) (ze st) .none kV doc pm an cdv ct),osl⟩)
  (c:PySem.W.codeIn K cdv qual=true) (k:PySem.W.keepIn K (.ref f)=true):Fun K x qual st f (PySem.W.fnOf x qual (jj st) (ZH st) (ze st) .none kV doc pm an cdv ct):=⟨⟨oc,od,kV,doc,pm,an,cdv,ct,osl,rfl,l,c⟩,k⟩
end
section
variable {X:Cx}
theorem pv (i:Nat) {x:Str} {pos:Pos} (hN:X.N[i]? =some x:=by rfl) (hv:Vis X.env.scope x:=by first | exact Or.inl rfl | exact Or.inr (Or.inl rfl) | exact Or.inr (Or.inr rfl)) (hd:(x == ("__debug__":Str))=false:=by decide)
  (hcd:(x == ("__classdict__":Str))=false:=by decide):PE X (.Name x pos) (vb i):=xn hN hv hd hcd
end
def zK (H H' :Hp):Prop:=∀ b o,H b=some o->H' b=some o
theorem zK.refl (H:Hp):zK H H:=fun _ _ h=>h
theorem zK.trans {H H1 H2:Hp} (a:zK H H1) (b:zK H1 H2):zK H H2:=fun c o h=>b c o (a c o h)
theorem zK.free {H H' :Hp} (e:zK H H') {l:Addr} (h:H' l=Option.none):H l=Option.none:=by
 cases q:H l with
 | none=>rfl
 | some o=>
  rw [e l o q] at h
  cases h
end L2
namespace L2
open PySem PySem.Spec PyProof.Rows PySem.W
theorem uw {env:Env} {outer:List Env} {L:Addr} (h:env.frame=some L):frs (env :: outer)=L :: frs outer:=by
 unfold frs; rw [List.filterMap_cons,h]
structure vz (P:Program) (w:World) (outer:List Env) (H:Hp) (s s' :Shared) (ea:Addr) (cls a0:Value) (B:Heap) (H' :Hp):Prop where
 os:s'.os=s.os
 bare:AllBare s'.gens
 fly:Heap.FlyingW B outer ea cls a0 s'.heap
 hok:HOk P w H' B
 un:Un (frs outer) [] H H' s.heap s'.heap
 inB:∀ b o,s.heap.get? b=some o->b ∉ frs outer->(H b=none->B.get? b=some o)/\∃ o',B.get? b=some o'
def CX1 (P:Program) (w:World):CXT:=fun outer H s E e s' =>∃ ea cls a0 B H',e= .ref ea/\vz P w outer H s s' ea cls a0 B H' /\E cls none H'
section
variable {X:Cx} {pins:List (Addr×Obj)} {σ:St} {H H' :Hp} {s s' :Shared} {ea:Addr} {cls a0:Value} {B:Heap} {h' h'' :Heap}
theorem Inv.frNf (I:Inv X pins σ H s):∀ b∈frs X.stack,H b=none/\∃ o,s.heap.get? b=some o/\∀ vs,o.data ≠ .fields vs:=fun b hb=>⟨I.stkFree b hb,(I.stack.mem hb).2⟩
theorem Inv.old (I:Inv X pins σ H s) {b:Addr} {o:Obj} (hX:X.stack=X.env :: X.outer) (hf:X.env.frame=some X.env.locals) (e:X.s₀.heap.get? b=some o) (hb:b ∉ frs X.outer):b ∉ frs X.stack:=by
 rw [hX,uw hf]
 intro z
 rcases List.mem_cons.mp z with z | z
 ·exact absurd (Nat.lt_of_lt_of_le (Heap.lt_size e) I.ok.above) (by rw [z]; exact Nat.lt_irrefl _)
 ·exact hb z
theorem u1 {X:Cx} (hX:X.stack=X.env :: X.outer) (hf:X.env.frame=some X.env.locals) {b:Addr} (hb:b∈frs X.outer):b∈frs X.stack:=by
 rw [hX,uw hf]; exact List.mem_cons_of_mem _ hb
theorem vz.out (I:Inv X pins σ H s) (hX:X.stack=X.env :: X.outer) (hf:X.env.frame=some X.env.locals) (hex:X.ex=[]) (L:vz X.prog X.w X.stack H s s' ea cls a0 B H')
  (fl:Heap.FlyingW B X.outer ea cls a0 h') (sl:s'.heap.UpToSlots h'):vz X.prog X.w X.outer X.H₀ X.s₀ { s' with heap:=h' } ea cls a0 B H' where
 os:=L.os.trans I.os
 bare:=L.bare
 fly:=fl
 hok:=L.hok
 inB:=fun b o e hb=>by
  have nx:b ∉ X.ex:=by rw [hex]; simp
  obtain ⟨o1,e1⟩:=I.base.there b o e nx
  have hb' :=I.old hX hf e hb
  exact ⟨fun n=>(L.inB b o (I.base.keep b o e n hb nx) hb').1 (I.base.free b o e n nx),(L.inB b o1 e1 hb').2⟩
 un:=by
  have nx:∀ b,b ∉ X.ex:=fun b=>by rw [hex]; simp
  have slot:∀ b o,X.s₀.heap.get? b=some o->X.H₀ b=none->b∈frs X.outer->∃ sl,h'.get? b=some { o with slots:=sl }:=fun b o e n hb=>by
   obtain ⟨sl1,e1⟩:=I.base.slot b o e n hb (nx b)
   have n1:=I.base.free b o e n (nx b)
   obtain ⟨sl2,e2⟩:=L.un.slot b _ e1 n1 (u1 hX hf hb) (by simp)
   obtain ⟨_,o3,e3,nf⟩:=I.frNf b (u1 hX hf hb)
   rw [e1] at e3; cases e3
   obtain ⟨sl4,e4⟩:=sl b _ e2 nf
   exact ⟨sl4,e4⟩
  refine ⟨fun b o e n hb _=> ?_,fun b o e n hb _=>slot b o e n hb,fun b o e n _=> ?_,fun b o e _=> ?_,fun b xs e=>L.un.tups b xs (I.base.tups b xs e),fun b o xs e=>L.un.frzs b o xs (I.base.frzs b o xs e),fun b ps e=> ?_⟩
  ·exact fl.1 b o ((L.inB b o (I.base.keep b o e n hb (nx b)) (I.old hX hf e hb)).1 (I.base.free b o e n (nx b)))
  ·obtain ⟨o1,e1⟩:=I.base.there b o e (nx b)
   exact L.un.free b o1 e1 (I.base.free b o e n (nx b)) (by simp)
  ·by_cases hb:b∈frs X.outer
   ·obtain ⟨sl1,e1⟩:=slot b o e (I.ok.frf b hb) hb
    exact ⟨_,e1⟩
   ·obtain ⟨o1,e1⟩:=I.base.there b o e (nx b)
    obtain ⟨o',e'⟩:=(L.inB b o1 e1 (I.old hX hf e hb)).2
    exact ⟨o',fl.1 b o' e'⟩
  ·obtain ⟨m1,e1⟩:=I.base.tbls b ps e
   obtain ⟨m2,e2⟩:=L.un.tbls b _ e1
   exact ⟨m1++m2,by rw [e2,Array.append_assoc]⟩
theorem vz.made (I:Inv X pins σ H s) (hX:X.stack=X.env :: X.outer) (hf:X.env.frame=some X.env.locals) (hex:X.ex=[]) {vs:List Value} (hx:Heap.MadeExcOf s.heap h' ea cls vs)
  (fl:Heap.FlyingW (hideAll s.heap (frs X.stack)) X.outer ea cls a0 h'') (sl:h'.UpToSlots h''):vz X.prog X.w X.outer X.H₀ X.s₀ { s with heap:=h'' } ea cls a0 (hideAll s.heap (frs X.stack)) H where
 os:=I.os
 bare:=I.bare
 fly:=fl
 hok:=fun a o e=>(I.hok a o e).stay (fun b u hb q=>hideAll_get _ q fun z=>by
   have:=I.stkFree b z
   rcases hb with rfl | hb
   ·rw [e] at this; cases this
   ·rw [hb] at this; cases this) (fun _ q=>q) fun _ _ q=>q
 inB:=fun b o e hb=>by
  have nx:b ∉ X.ex:=by rw [hex]; simp
  obtain ⟨o1,e1⟩:=I.base.there b o e nx
  have hb' :=I.old hX hf e hb
  exact ⟨fun n=>hideAll_get _ (I.base.keep b o e n hb nx) hb',o1,hideAll_get _ e1 hb'⟩
 un:=by
  have nx:∀ b,b ∉ X.ex:=fun b=>by rw [hex]; simp
  have slot:∀ b o,X.s₀.heap.get? b=some o->X.H₀ b=none->b∈frs X.outer->∃ sl,h''.get? b=some { o with slots:=sl }:=fun b o e n hb=>by
   obtain ⟨sl1,e1⟩:=I.base.slot b o e n hb (nx b)
   obtain ⟨_,o3,e3,nf⟩:=I.frNf b (u1 hX hf hb)
   rw [e1] at e3; cases e3
   obtain ⟨sl4,e4⟩:=sl b _ (hx.keeps b _ e1) nf
   exact ⟨sl4,e4⟩
  refine ⟨fun b o e n hb _=> ?_,fun b o e n hb _=>slot b o e n hb,fun b o e n _=>I.base.free b o e n (nx b),fun b o e _=> ?_,I.base.tups,I.base.frzs,I.base.tbls⟩
  ·exact fl.1 b o (hideAll_get _ (I.base.keep b o e n hb (nx b)) (I.old hX hf e hb))
  ·by_cases hb:b∈frs X.outer
   ·obtain ⟨sl1,e1⟩:=slot b o e (I.ok.frf b hb) hb
    exact ⟨_,e1⟩
   ·obtain ⟨o1,e1⟩:=I.base.there b o e (nx b)
    exact ⟨o1,fl.1 b o1 (hideAll_get _ e1 (I.old hX hf e hb))⟩
end
section
variable {P:Program} {w:World} {K:Frag} {mg:Str->Option Value} {base:Heap} {N:List Str} {qual:Str} {scope:Scope} {f:Addr} {cd:Value} {A:Around} {outer:List Env} {s:Shared} {H:Hp} {E:XK}
theorem jU:JB (CX1 P w) (JY (CX1 P w) P w K mg base N qual scope f cd A outer s H E) E:=by
 intro pins σ H1 s1 e s' I ⟨ea,cls,a0,B,H',he,L,hE⟩
 subst he
 exact wpAny_leaves_onW (base:=B) I.ok.frames rfl L.fly fun h' fl sl=>⟨ea,cls,a0,B,H',rfl,L.out I rfl rfl rfl fl sl,hE⟩
theorem yh {x:Str} {C:Addr} {bm bmN:List Value} {Bn Bb newId nid initId inN:String} {np cpos pos:Pos} {e:Expr} {t:TA} (O:OwnCls x C bm newId mg base) (Fn:ExcBaseFacts Bn newId inN bmN) (hBn:bm.contains (.type Bn)=true) (FB:ExcBaseFacts Bb nid initId bm)
  (hg:Gl (JY (CX1 P w) P w K mg base N qual scope f cd A outer s H E) x) (ha:PA (JY (CX1 P w) P w K mg base N qual scope f cd A outer s H E) [e] t)
  (he:starEach [e] (envOfC qual scope s.heap.objs.size f cd)=[(false,eval e (envOfC qual scope s.heap.objs.size f cd))]) (hd:(x == ("__debug__":Str))=false:=by decide):
  PS (JY (CX1 P w) P w K mg base N qual scope f cd A outer s H E) (.Raise (some (.Call (.Name x np) [e] [] cpos)) none pos) (fun _ σ H1=>t σ H1 fun vs H2=>vs.length<=sizeLine/\E (.ref C) none H2):=by
 intro pins s1 σ H1 D I hw
 obtain ⟨tl,N',nm,q,bs,hdct,sn,sub,ab,col,dd,k0,k1,k2,k3,k5,mN,hC,hN,hni,T⟩:=O.obj
 have hp:(backTo cpos (starEach [e] (envOfC qual scope s.heap.objs.size f cd))).any (·.1)=false:=by rw [he]; rfl
 refine wpAny_Raise_call_subU (C:=C) (nm:=nm) (q:=q) (N:=N') (bs:=bs) (bm:=tl) (hdct:=hdct) (sn:=sn) (sub:=sub) (ab:=ab) (col:=col) (dd:=dd) (k0:=k0) (k1:=k1) (k2:=k2) (k3:=k3) (k5:=k5)
  Fn hBn FB (mN:=mN) (T.hasType FB.hasBase) (I.ok.hd rfl) hp hni (WX I hg O.bound ⟨rfl, ?_⟩ hd)
 have h2:=ha cpos pins s1 σ H1 _ I hw
 have he' :starEach [e] (JY (CX1 P w) P w K mg base N qual scope f cd A outer s H E).env=[(false,eval e (JY (CX1 P w) P w K mg base N qual scope f cd A outer s H E).env)]:=he
 rw [he'] at h2 ⊢
 refine Calls.evalArgs_plain (thn h2 fun us s2 ⟨vs,H2,I2,r,hl,hE⟩=>⟨rfl,by rw [← r.length]; exact hl,I2.bk _ _ hC,hN.keeps I2.bk,T.keeps I2.bk,fun h' ea hx=> ?_⟩)
 have hin:∀ env∈(JY (CX1 P w) P w K mg base N qual scope f cd A outer s H E).stack,∀ b,env.frame=some b->b∈frs (JY (CX1 P w) P w K mg base N qual scope f cd A outer s H E).stack:=fun env he b hb=>List.mem_filterMap.mpr ⟨env,he,hb⟩
 exact wpAny_leaves_madeW (base:=hideAll s2.heap (frs (JY (CX1 P w) P w K mg base N qual scope f cd A outer s H E).stack)) (h:=s2.heap) I2.ok.frames rfl (fun b o q=>of_hideAll _ q) (funFrames_hide I2.stack hin) hx fun h'' t' fl _ _ sl=>
  ⟨ea, .ref C, .ref t',_,H2,rfl,vz.made I2 rfl rfl rfl hx fl sl,hE⟩
end
end L2
namespace L2
open PySem PySem.Spec PyProof.Rows PySem.W
def ExAt (cls:Value) (a:Addr) (h:Heap):Prop:=∃ o,h.get? a=some o/\o.cls=cls
abbrev Cx.try' (X:Cx) (pn:List (Addr×Obj)) (xe:Value->Shared->Prop):Cx:={ X with pn:=pn,xe:=xe }
section
variable {X:Cx} {pins pins' :List (Addr×Obj)} {σ:St} {H H' :Hp} {s s' :Shared} {xe:Value->Shared->Prop}
theorem Cx.Ok.try' (ok:X.Ok) {pn:List (Addr×Obj)}:(X.try' pn xe).Ok:=
 ⟨ok.mod,ok.kind,ok.glob,ok.blt,ok.above,ok.inj,ok.has,ok.cab,ok.hd,ok.frames,ok.stk,ok.exf,ok.bs,ok.bsz,ok.noex,ok.exfs,ok.funs,ok.frf⟩
theorem Cx.Ok.untry {pn:List (Addr×Obj)} (ok:(X.try' pn xe).Ok):X.Ok:=
 ⟨ok.mod,ok.kind,ok.glob,ok.blt,ok.above,ok.inj,ok.has,ok.cab,ok.hd,ok.frames,ok.stk,ok.exf,ok.bs,ok.bsz,ok.noex,ok.exfs,ok.funs,ok.frf⟩
theorem Inv.try' (I:Inv X pins σ H s) (xe:Value->Shared->Prop):Inv (X.try' (X.pn++pins) xe) [] σ H s:=
 ⟨I.ok.try',I.os,I.bare,I.base,I.loc,I.cell,I.free,I.freeC,fun p hp=>I.pin p (by simpa using hp),I.hok,I.len⟩
theorem Inv.untry (I:Inv (X.try' (X.pn++pins) xe) pins' σ H s):Inv X pins σ H s:=
 ⟨I.ok.untry,I.os,I.bare,I.base,I.loc,I.cell,I.free,I.freeC,fun p hp=>I.pin p (List.mem_append_left _ hp),I.hok,I.len⟩
theorem SP.untry {D:qe} {f:Flow} {pins' :List (Addr×Obj)} (h:SP (X.try' (X.pn++pins) xe) pins' D f s'):SP X pins D f s' :=by
 cases f with
 | next=>obtain ⟨σ',H',I,q⟩:=h; exact ⟨σ',H',I.untry,q⟩
 | brk=>obtain ⟨σ',H',I,q⟩:=h; exact ⟨σ',H',I.untry,q⟩
 | cont=>obtain ⟨σ',H',I,q⟩:=h; exact ⟨σ',H',I.untry,q⟩
 | ret u=>obtain ⟨v,σ',H',I,r,q⟩:=h; exact ⟨v,σ',H',I.untry,r,q⟩
end
section
variable {prog:Program} {w:World} {A:Around} {E:Value->Shared->Prop} {s:Shared} {env:Env}
end
end L2
namespace L2
open PySem PySem.Spec PyProof.Rows PySem.W
section
variable {X:Cx} {pins:List (Addr×Obj)} {σ:St} {H H' :Hp} {s s' :Shared} {ea:Addr} {cls a0:Value} {B:Heap} {h3:Heap}
end
end L2
namespace L2
open PySem PySem.Spec PyProof.Rows
theorem PE.imp {X:Cx} {e:Expr} {t t' :TE} (h:PE X e t) (i:∀ σ H Q,t' σ H Q->t σ H Q):PE X e t' :=fun pins s σ H Q I q=>h pins s σ H Q I (i σ H Q q)
theorem PT.imp {X:Cx} {e:Expr} {t t' :TT} (h:PT X e t) (i:∀ σ H Q,t' σ H Q->t σ H Q):PT X e t' :=fun pins s σ H Q I q=>h pins s σ H Q I (i σ H Q q)
theorem PA.imp {X:Cx} {e:List Expr} {t t' :TA} (h:PA X e t) (i:∀ σ H Q,t' σ H Q->t σ H Q):PA X e t' :=fun pos pins s σ H Q I q=>h pos pins s σ H Q I (i σ H Q q)
theorem PS.imp {X:Cx} {e:Stmt} {t t' :TS} (h:PS X e t) (i:∀ D σ H,t' D σ H->t D σ H):PS X e t' :=fun pins s σ H D I q=>h pins s σ H D I (i D σ H q)
theorem PSs.imp {X:Cx} {e:List Stmt} {t t' :TS} (h:PSs X e t) (i:∀ D σ H,t' D σ H->t D σ H):PSs X e t' :=fun pins s σ H D I q=>h pins s σ H D I (i D σ H q)
end L2
namespace PV
open PySem
def Wm:Expr->Bool
 | .Starred _ _=>false
 | _=>true
theorem Zg {e:Expr} {rest:List Expr} {env:Env} (h:Wm e=true):starEach (e :: rest) env=(false,eval e env) :: starEach rest env:=by
 cases e <;> first | rfl | cases h
theorem st2 {a b:Expr} {env:Env} (h:Wm a=true) (h' :Wm b=true):starEach [a,b] env=[(false,eval a env),(false,eval b env)]:=by
 rw [Zg h,Zg h']; rfl
theorem st1 {a:Expr} {env:Env} (h:Wm a=true):starEach [a] env=[(false,eval a env)]:=by
 rw [Zg h]; rfl
theorem j9 {pos:Pos} {env:Env}:∀ {es:List Expr},es.all Wm=true->((backTo pos (starEach es env)).any fun x=>x.fst)=false
 | [],_=>rfl
 | e :: es,h=>by
  rw [List.all_cons,Bool.and_eq_true] at h
  rw [Zg h.1]
  have:=j9 (pos:=pos) (env:=env) h.2
  show (false || ((backTo pos (starEach es env)).any fun x=>x.fst))=false
  rw [this]; rfl
open PySem PySem.Spec PyProof.Rows L2
abbrev Sg:=L2.St
inductive T where
 | non | bl (b:Bool) | int (i:Int) | str (x:Str) | tup (xs:List T) | lst (xs:List T) | fz (xs:List T)
inductive R (α:Type) where
 | ok (a:α) | ex (c:Nat) | bad
def R.bind {α β:Type} (r:R α) (f:α->R β):R β:=match r with
 | .ok a=>f a
 | .ex c=> .ex c
 | .bad=> .bad
mutual
inductive Rep (H:Hp):V->T->Prop where
 | non:Rep H .non .non
 | bl (b:Bool):Rep H (.bl b) (.bl b)
 | int (i:Int):Rep H (.int i) (.int i)
 | str (x:Str):Rep H (.str x) (.str x)
 | tup {a:Addr} {xs:List V} {ts:List T}:H a=some (.tup xs)->zR H xs ts->Rep H (.ref a) (.tup ts)
 | lst {a:Addr} {xs:List V} {ts:List T}:H a=some (.lst xs)->zR H xs ts->Rep H (.ref a) (.lst ts)
 | fz {a:Addr} {o:Obj} {xs:List V} {ts:List T}:H a=some (.frz o (.lst xs))->zR H xs ts->Rep H (.ref a) (.fz ts)
inductive zR (H:Hp):List V->List T->Prop where
 | nil:zR H [] []
 | cons {v:V} {t:T} {vs:List V} {ts:List T}:Rep H v t->zR H vs ts->zR H (v :: vs) (t :: ts)
end
mutual
theorem Rep.mono {H H' :Hp} (s:zK H H'):∀ {v:V} {t:T},Rep H v t->Rep H' v t
 | _,_, .non=> .non
 | _,_, .bl b=> .bl b
 | _,_, .int i=> .int i
 | _,_, .str x=> .str x
 | _,_, .tup h r=> .tup (s _ _ h) (zR.mono s r)
 | _,_, .lst h r=> .lst (s _ _ h) (zR.mono s r)
 | _,_, .fz h r=> .fz (s _ _ h) (zR.mono s r)
theorem zR.mono {H H' :Hp} (s:zK H H'):∀ {v:List V} {t:List T},zR H v t->zR H' v t
 | _,_, .nil=> .nil
 | _,_, .cons h r=> .cons (Rep.mono s h) (zR.mono s r)
end
theorem zR.length {H:Hp}:∀ {vs:List V} {ts:List T},zR H vs ts->vs.length=ts.length
 | _,_, .nil=>rfl
 | _,_, .cons _ r=>congrArg (·+1) (zR.length r)
theorem zR.get {H:Hp}:∀ {vs:List V} {ts:List T} {i:Nat} {t:T},zR H vs ts->ts[i]? =some t->∃ v,vs[i]? =some v/\Rep H v t
 | _,_,_,_, .nil,e=>by simp at e
 | _,_,0,_, .cons r _,e=>by simp at e; subst e; exact ⟨_,rfl,r⟩
 | _,_,i+1,t, .cons _ q,e=>by
  obtain ⟨v,h1,h2⟩:=zR.get (i:=i) (t:=t) q (by simpa using e)
  exact ⟨v,by simpa using h1,h2⟩
theorem zR.getV {H:Hp}:∀ {vs:List V} {ts:List T} {i:Nat} {v:V},zR H vs ts->vs[i]? =some v->∃ t,ts[i]? =some t/\Rep H v t
 | _,_,_,_, .nil,e=>by simp at e
 | _,_,0,_, .cons r _,e=>by simp at e; subst e; exact ⟨_,rfl,r⟩
 | _,_,i+1,v, .cons _ q,e=>by
  obtain ⟨t,h1,h2⟩:=zR.getV (i:=i) (v:=v) q (by simpa using e)
  exact ⟨t,by simpa using h1,h2⟩
theorem zR.append {H:Hp}:∀ {vs ws:List V} {ts us:List T},zR H vs ts->zR H ws us->zR H (vs++ws) (ts++us)
 | _,_,_,_, .nil,q=>q
 | _,_,_,_, .cons r t,q=> .cons r (zR.append t q)
theorem zR.take {H:Hp}:∀ {vs:List V} {ts:List T} (n:Nat),zR H vs ts->zR H (vs.take n) (ts.take n)
 | _,_,0,_=> .nil
 | _,_,_+1, .nil=> .nil
 | _,_,n+1, .cons r t=> .cons r (zR.take n t)
theorem zR.drop {H:Hp}:∀ {vs:List V} {ts:List T} (n:Nat),zR H vs ts->zR H (vs.drop n) (ts.drop n)
 | _,_,0,r=>r
 | _,_,_+1, .nil=> .nil
 | _,_,n+1, .cons _ t=>zR.drop n t
theorem zR.rep {H:Hp} {vs:List V} {ts:List T} (h:zR H vs ts):∀ n:Nat,zR H (List.replicate n vs).flatten (List.replicate n ts).flatten
 | 0=> .nil
 | n+1=>by
  rw [List.replicate_succ,List.replicate_succ,List.flatten_cons,List.flatten_cons]
  exact h.append (zR.rep h n)
theorem zR.nil_iff {H:Hp} {vs:List V} {ts:List T} (h:zR H vs ts):vs=[]↔ts=[]:=by
 cases h <;> simp
def zW (B H H' :Hp):Hp:=fun b=>match H b with
 | none=>H' b
 | some _=>B b
theorem Zs {B H H' :Hp} {b:Addr} (h:H b=none):zW B H H' b=H' b:=by unfold zW; rw [h]
theorem Zt {B H H' :Hp} {b:Addr} {o:HO} (h:H b=some o):zW B H H' b=B b:=by unfold zW; rw [h]
theorem zW.ge {B H H' :Hp} (s:zK B H) (s' :zK H H'):zK B (zW B H H'):=fun b o h=>by
 rw [Zt (s b o h)]; exact h
theorem zW.le {B H H' :Hp} (s:zK B H) (s' :zK H H'):zK (zW B H H') H' :=fun b o h=>by
 cases q:H b with
 | none=>rw [Zs q] at h; exact h
 | some u=>rw [Zt q] at h; exact s' b o (s b o h)
theorem zW.self (B H:Hp) (s:zK B H):zW B H H=B:=by
 funext b
 cases q:H b with
 | none=>
  rw [Zs q,q]
  cases z:B b with
  | none=>rfl
  | some o=>rw [s b o z] at q; cases q
 | some u=>rw [Zt q]
theorem zW.trans {B H H1 H2:Hp} (s1:zK H H1) (s2:zK H1 H2):zW (zW B H H1) H1 H2=zW B H H2:=by
 funext b
 cases q:H b with
 | none=>
  rw [Zs q]
  cases z:H1 b with
  | none=>rw [Zs z]
  | some o=>rw [Zt z,Zs q,z,s2 b o z]
 | some u=>rw [Zt q,Zt (s1 b u q),Zt q]
inductive Sl where
 | un | vl (t:T) | ow (ts:List T) | xc (c:Nat)
abbrev En:=List Sl
structure Fx where
 B0:Hp
 H0:Hp
 E:XK
 cl:Nat->Value
structure SI (Y:Fx) (B:Hp) (ρ:En) (σ:Sg) (H:Hp):Prop where
 s0:zK Y.B0 Y.H0
 sH:zK Y.H0 H
 sB:zK B H
 old:∀ b o,Y.H0 b=some o->B b=Y.B0 b
 len:ρ.length=σ.length
 vl:∀ (i:Nat) (t:T),ρ[i]? =some (Sl.vl t)->∃ v:V,σ[i]? =some (some v)/\Rep B v t
 ow:∀ (i:Nat) (ts:List T),ρ[i]? =some (Sl.ow ts)->∃ (a:Addr) (xs:List V),σ[i]? =some (some (V.ref a))/\B a=none/\Y.H0 a=none/\H a=some (.lst xs)/\zR B xs ts/\
  ∀ (j:Nat) (us:List T),j ≠ i->ρ[j]? =some (Sl.ow us)->σ[j]? ≠ some (some (V.ref a))
 xc:∀ (i:Nat) (c:Nat),ρ[i]? =some (Sl.xc c)->∃ a:Addr,σ[i]? =some (some (V.ref a))/\B a=some (.ext (ExAt (Y.cl c) a))
theorem SI.grow {Y:Fx} {B:Hp} {ρ:En} {σ:Sg} {H H' :Hp} (I:SI Y B ρ σ H) (s:zK H H'):SI Y (zW B H H') ρ σ H' where
 s0:=I.s0
 sH:=I.sH.trans s
 sB:=zW.le I.sB s
 old:=fun b o h=>by rw [Zt (I.sH b o h)]; exact I.old b o h
 len:=I.len
 vl:=fun i t h=>let ⟨v,e,r⟩:=I.vl i t h; ⟨v,e,r.mono (zW.ge I.sB s)⟩
 ow:=fun i ts h=>let ⟨a,xs,e,b,h0,hh,r,d⟩:=I.ow i ts h; ⟨a,xs,e,by rw [Zt hh]; exact b,h0,s _ _ hh,r.mono (zW.ge I.sB s),d⟩
 xc:=fun i c h=>let ⟨a,e,r⟩:=I.xc i c h; ⟨a,e,zW.ge I.sB s a _ r⟩
def XP (Y:Fx) (B:Hp) (c:Nat):Prop:=∀ (d:Option Addr) (H' :Hp),zK Y.H0 H' ->zK B H' ->Y.E (Y.cl c) d H'
def Po {α β:Type} (Y:Fx) (rel:Hp->Hp->β->α->Prop) (B H:Hp) (r:R α) (Q:β->Hp->Prop):Prop:=match r with
 | .ok a=>∀ b H',zK H H' ->rel (zW B H H') H' b a->Q b H'
 | .ex c=>XP Y B c
 | .bad=>False
abbrev rC:Hp->Hp->V->T->Prop:=fun B _ v t=>Rep B v t
abbrev rB:Hp->Hp->V->T->Prop:=fun _ H v t=>Rep H v t
abbrev rCs:Hp->Hp->List V->List T->Prop:=fun B _ v t=>zR B v t
abbrev rE {α:Type}:Hp->Hp->α->α->Prop:=fun _ _ a b=>a=b
def tS {α β:Type} (Y:Fx) (rel:Hp->Hp->β->α->Prop) (f:En->R α) (ρ:En):Sg->Hp->(β->Hp->Prop)->Prop:=fun σ H Q=>∃ B,SI Y B ρ σ H/\Po Y rel B H (f ρ) Q
structure Snd (X:Cx) (Y:Fx) (e:Expr) (f:En->R T):Prop where
 mk ::
 go:∀ ρ,PE X e (tS Y rC f ρ)
instance {X:Cx} {Y:Fx} {e:Expr} {f:En->R T}:CoeFun (Snd X Y e f) fun _=>∀ ρ,PE X e (tS Y rC f ρ):=⟨Snd.go⟩
structure J6 (X:Cx) (Y:Fx) (e:Expr) (f:En->R T):Prop where
 mk ::
 go:∀ ρ,PE X e (tS Y rB f ρ)
instance {X:Cx} {Y:Fx} {e:Expr} {f:En->R T}:CoeFun (J6 X Y e f) fun _=>∀ ρ,PE X e (tS Y rB f ρ):=⟨J6.go⟩
structure WS (X:Cx) (Y:Fx) (e:Expr) (f:En->R Bool):Prop where
 mk ::
 go:∀ ρ,PT X e (tS Y rE f ρ)
instance {X:Cx} {Y:Fx} {e:Expr} {f:En->R Bool}:CoeFun (WS X Y e f) fun _=>∀ ρ,PT X e (tS Y rE f ρ):=⟨WS.go⟩
structure ux (X:Cx) (Y:Fx) (es:List Expr) (f:En->R (List T)):Prop where
 mk ::
 go:∀ ρ,PA X es (tS Y rCs f ρ)
instance {X:Cx} {Y:Fx} {es:List Expr} {f:En->R (List T)}:CoeFun (ux X Y es f) fun _=>∀ ρ,PA X es (tS Y rCs f ρ):=⟨ux.go⟩
theorem step {α α' β β' :Type} {Y:Fx} {rel:Hp->Hp->β->α->Prop} {rel' :Hp->Hp->β' ->α' ->Prop} {f:En->R α} {k:α->R α'} {ρ:En} {B:Hp} {σ:Sg} {H:Hp} {Q:β' ->Hp->Prop} {K:β->Hp->Prop}
  (I:SI Y B ρ σ H) (h:Po Y rel' B H ((f ρ).bind k) Q)
  (n:∀ a b H1,f ρ= .ok a->zK H H1->rel (zW B H H1) H1 b a->SI Y (zW B H H1) ρ σ H1->Po Y rel' (zW B H H1) H1 (k a) Q->K b H1):tS Y rel f ρ σ H K:=by
 refine ⟨B,I, ?_⟩
 cases e:f ρ with
 | bad=>rw [e] at h; exact h
 | ex c=>rw [e] at h; exact h
 | ok a=>
  rw [e] at h
  intro b H1 s r
  refine n a b H1 e s r (I.grow s) ?_
  have h' :Po Y rel' B H (k a) Q:=h
  revert h'
  cases k a with
  | bad=>exact fun h' =>h'
  | ex c=>exact fun h' d H' s0 sB' =>h' d H' s0 ((zW.ge I.sB s).trans sB')
  | ok a' =>exact fun h' b' H2 s2 r2=>h' b' H2 (s.trans s2) (by rw [← zW.trans s s2]; exact r2)
theorem j0 {α β:Type} {Y:Fx} {rel:Hp->Hp->β->α->Prop} {ρ:En} {B:Hp} {σ:Sg} {H:Hp} {a:α} {b:β} {Q:β->Hp->Prop} (I:SI Y B ρ σ H) (h:Po Y rel B H (.ok a) Q) (r:rel B H b a):Q b H:=h b H (zK.refl H) (by rw [zW.self B H I.sB]; exact r)
theorem Snd.b {X:Cx} {Y:Fx} {e:Expr} {f:En->R T} (h:Snd X Y e f):J6 X Y e f:= .mk fun ρ=>PE.imp (h ρ) fun σ H Q ⟨B,I,q⟩=>⟨B,I,by
 revert q
 cases f ρ with
 | bad=>exact fun q=>q
 | ex c=>exact fun q=>q
 | ok a=>exact fun q b H' s r=>q b H' s (r.mono (zW.le I.sB s))⟩
section
variable {X:Cx} {Y:Fx} {a b c:Expr} {fa fb fc:En->R T} {pos:Pos}
def vE (i:Nat):En->R T:=fun ρ=>match ρ[i]? with
 | some (.vl t)=> .ok t
 | _=> .bad
def vB (i:Nat):En->R T:=fun ρ=>match ρ[i]? with
 | some (.vl t)=> .ok t
 | some (.ow ts)=> .ok (.lst ts)
 | _=> .bad
def cE (t:T):En->R T:=fun _=> .ok t
theorem zb (i:Nat) {x:Str} (h:PE X (.Name x pos) (vb i)):Snd X Y (.Name x pos) (vE i):= .mk fun ρ=>PE.imp h fun σ H Q ⟨B,I,q⟩=>by
 unfold vE at q
 split at q
 ·rename_i t e
  obtain ⟨v,e1,r⟩:=I.vl i t e
  exact ⟨v,e1,j0 I q r⟩
 ·exact q.elim
theorem zo (i:Nat) {x:Str} (h:PE X (.Name x pos) (vb i)):J6 X Y (.Name x pos) (vB i):= .mk fun ρ=>PE.imp h fun σ H Q ⟨B,I,q⟩=>by
 unfold vB at q
 split at q
 ·rename_i t e
  obtain ⟨v,e1,r⟩:=I.vl i t e
  exact ⟨v,e1,j0 I q (r.mono I.sB)⟩
 ·rename_i ts e
  obtain ⟨a,xs,e1,_,_,hh,r,_⟩:=I.ow i ts e
  exact ⟨.ref a,e1,j0 I q (.lst hh (r.mono I.sB))⟩
 ·exact q.elim
theorem zd {i j}:Snd X Y (.Constant (.int i) j pos) (cE (.int i)):= .mk fun ρ=>PE.imp xo fun σ H Q ⟨B,I,q⟩=>j0 I q (.int i)
theorem Ql {i j}:Snd X Y (.Constant (.bool i) j pos) (cE (.bl i)):= .mk fun ρ=>PE.imp Kb fun σ H Q ⟨B,I,q⟩=>j0 I q (.bl i)
theorem zu {i j}:Snd X Y (.Constant (.str i) j pos) (cE (.str i)):= .mk fun ρ=>PE.imp Qg fun σ H Q ⟨B,I,q⟩=>j0 I q (.str i)
def zj:En->R (List T):=fun _=> .ok []
def z9 (f:En->R T) (g:En->R (List T)):En->R (List T):=fun ρ=>(f ρ).bind fun t=>(g ρ).bind fun ts=> .ok (t :: ts)
theorem zi:ux X Y [] zj:= .mk fun ρ=>PA.imp Z8 fun σ H Q ⟨B,I,q⟩=>j0 I q .nil
theorem za {es:List Expr} {g:En->R (List T)} (h:Snd X Y a fa) (hs:ux X Y es g) (hq:starEach (a :: es) X.env=(false,eval a X.env) :: starEach es X.env:=by exact Zg rfl):ux X Y (a :: es) (z9 fa g):= .mk fun ρ=>
 PA.imp (zD (h ρ) (hs ρ) hq) fun σ H Q ⟨B,I,q⟩=>step I q fun t v H1 _ s1 r1 I1 q1=>step I1 q1 fun ts vs H2 _ s2 r2 I2 q2=>j0 I2 q2 (.cons (r1.mono (zW.ge I1.sB s2)) r2)
theorem zK.new {H:Hp} {p:Addr} (h:H p=none) (o:HO):zK H (upd H p o):=fun b u q=>by rw [zH (zV q h)]; exact q
theorem jk {B H:Hp} {p:Addr} (h:H p=none) (o:HO):zW B H (upd H p o) p=some o:=by rw [Zs h,Zb]
def bnd:Nat:=16777216
theorem ZK {n:Nat} (h:n<=bnd):n<=sizeLine:=by rw [sizeLine_eq]; exact h
def Zy (g:En->R (List T)):En->R T:=fun ρ=>(g ρ).bind fun ts=>if ts.length<=bnd then .ok (.tup ts) else .bad
def J0 (g:En->R (List T)):En->R T:=fun ρ=>(g ρ).bind fun ts=>if ts.length<=bnd then .ok (.lst ts) else .bad
theorem vA {ρ:En} {σ:Sg} {B H:Hp} {xs:List V} {ts:List T} (I:SI Y B ρ σ H) (r:zR B xs ts) {p:Addr} (h:H p=none):Rep (zW B H (upd H p (.tup xs))) (.ref p) (.tup ts):=
 .tup (jk h _) (r.mono (zW.ge I.sB (zK.new h _)))
theorem vC {ρ:En} {σ:Sg} {B H:Hp} {xs:List V} {ts:List T} (I:SI Y B ρ σ H) (r:zR B xs ts) {p:Addr} (h:H p=none):Rep (zW B H (upd H p (.lst xs))) (.ref p) (.lst ts):=
 .lst (jk h _) (r.mono (zW.ge I.sB (zK.new h _)))
theorem ZN {es:List Expr} {g:En->R (List T)} {x1} (h:ux X Y es g):Snd X Y (.Tuple es x1 pos) (Zy g):= .mk fun ρ=>PE.imp (xG (h ρ)) fun σ H Q ⟨B,I,q⟩=>
 step I q fun ts vs H1 _ s1 r1 I1 q1=>by
  split at q1
  ·rename_i hb
   refine ⟨by rw [r1.length]; exact ZK hb,fun p hp=>q1 _ _ (zK.new hp _) (vA I1 r1 hp)⟩
  ·exact q1.elim
theorem JE {es:List Expr} {g:En->R (List T)} (h:ux X Y es g):Snd X Y (.List es pos) (J0 g):= .mk fun ρ=>PE.imp (Qj (h ρ)) fun σ H Q ⟨B,I,q⟩=>
 step I q fun ts vs H1 _ s1 r1 I1 q1=>by
  split at q1
  ·rename_i hb
   refine ⟨by rw [r1.length]; exact ZK hb,fun p hp=>q1 _ _ (zK.new hp _) (vC I1 r1 hp)⟩
  ·exact q1.elim
end
end PV
namespace PV
open PySem PySem.Spec PyProof.Rows L2
def eqL (f:T->T->Option Bool):List T->List T->Option Bool
 | [],[]=>some true
 | [],_ :: _=>some false
 | _ :: _,[]=>some false
 | x :: xs,y :: ys=>match f x y with
  | none=>none
  | some b=>match eqL f xs ys with
   | none=>none
   | some c=>some (b && c)
def b2 (b:Bool):Int:=if b then 1 else 0
def eqF:Nat->T->T->Option Bool
 | _, .non, .non=>some true
 | _, .bl a, .bl b=>some (a == b)
 | _, .bl a, .int j=>some (b2 a == j)
 | _, .int i, .bl b=>some (i == b2 b)
 | _, .int i, .int j=>some (i == j)
 | _, .str x, .str y=>some (x == y)
 | n+1, .tup xs, .tup ys=>eqL (eqF n) xs ys
 | n+1, .lst xs, .lst ys=>eqL (eqF n) xs ys
 | n+1, .fz xs, .lst ys=>eqL (eqF n) xs ys
 | n+1, .lst xs, .fz ys=>eqL (eqF n) xs ys
 | n+1, .fz xs, .fz ys=>eqL (eqF n) xs ys
 | 0, .tup _, .tup _=>none
 | 0, .lst _, .lst _=>none
 | 0, .fz _, .lst _=>none
 | 0, .lst _, .fz _=>none
 | 0, .fz _, .fz _=>none
 | _, .non,_=>some false
 | _, .bl _,_=>some false
 | _, .int _,_=>some false
 | _, .str _,_=>some false
 | _, .tup _,_=>some false
 | _, .lst _,_=>some false
 | _, .fz _,_=>some false
mutual
theorem Rep.fn {H:Hp}:∀ {v:V} {t t' :T},Rep H v t->Rep H v t' ->t=t'
 | _,_,_, .non, .non=>rfl
 | _,_,_, .bl _, .bl _=>rfl
 | _,_,_, .int _, .int _=>rfl
 | _,_,_, .str _, .str _=>rfl
 | _,_,_, .tup h r, .tup h' r' =>by
  rw [h] at h'; cases h'; rw [zR.fn r r']
 | _,_,_, .tup h r, .lst h' r' =>by rw [h] at h'; cases h'
 | _,_,_, .tup h r, .fz h' r' =>by rw [h] at h'; cases h'
 | _,_,_, .lst h r, .tup h' r' =>by rw [h] at h'; cases h'
 | _,_,_, .lst h r, .lst h' r' =>by
  rw [h] at h'; cases h'; rw [zR.fn r r']
 | _,_,_, .lst h r, .fz h' r' =>by rw [h] at h'; cases h'
 | _,_,_, .fz h r, .tup h' r' =>by rw [h] at h'; cases h'
 | _,_,_, .fz h r, .lst h' r' =>by rw [h] at h'; cases h'
 | _,_,_, .fz h r, .fz h' r' =>by
  rw [h] at h'; cases h'; rw [zR.fn r r']
theorem zR.fn {H:Hp}:∀ {v:List V} {t t' :List T},zR H v t->zR H v t' ->t=t'
 | _,_,_, .nil, .nil=>rfl
 | _,_,_, .cons h r, .cons h' r' =>by rw [Rep.fn h h',zR.fn r r']
end
theorem ZB {f:T->T->Option Bool} (hf:∀ x b,f x x=some b->b=true):∀ (xs:List T) (b:Bool),eqL f xs xs=some b->b=true
 | [],b,h=>by
  have h' :some true=some b:=h
  cases h'; rfl
 | x :: xs,b,h=>by
  unfold eqL at h
  cases e:f x x with
  | none=>rw [e] at h; cases h
  | some c=>
   rw [e] at h
   cases e' :eqL f xs xs with
   | none=>rw [e'] at h; cases h
   | some d=>
    rw [e'] at h
    cases h
    rw [hf x c e,ZB hf xs d e']
    rfl
theorem Zk:∀ (n:Nat) (t:T) (b:Bool),eqF n t t=some b->b=true
 | n, .non,b,h=>by unfold eqF at h; cases h; rfl
 | n, .bl x,b,h=>by unfold eqF at h; cases h; simp
 | n, .int x,b,h=>by unfold eqF at h; cases h; simp
 | n, .str x,b,h=>by unfold eqF at h; cases h; simp
 | 0, .tup x,b,h=>by unfold eqF at h; cases h
 | 0, .lst x,b,h=>by unfold eqF at h; cases h
 | 0, .fz x,b,h=>by unfold eqF at h; cases h
 | n+1, .tup x,b,h=>by unfold eqF at h; exact ZB (Zk n) x b h
 | n+1, .lst x,b,h=>by unfold eqF at h; exact ZB (Zk n) x b h
 | n+1, .fz x,b,h=>by unfold eqF at h; exact ZB (Zk n) x b h
theorem yi {f:T->T->Option Bool}:∀ {xs ys:List T} {b:Bool},eqL f xs ys=some b->
  ∃ e:Nat->Bool,(∀ j x y,xs[j]? =some x->ys[j]? =some y->f x y=some (e j))/\((List.range (min xs.length ys.length)).all e && xs.length == ys.length)=b
 | [],[],b,h=>by
  have h' :some true=some b:=h
  cases h'
  exact ⟨fun _=>true,fun j x y h=>by simp at h,by simp⟩
 | [],y :: ys,b,h=>by
  have h' :some false=some b:=h
  cases h'
  exact ⟨fun _=>true,fun j x y h=>by simp at h,by simp⟩
 | x :: xs,[],b,h=>by
  have h' :some false=some b:=h
  cases h'
  exact ⟨fun _=>true,fun j x y h h' =>by simp at h',by simp⟩
 | x :: xs,y :: ys,b,h=>by
  unfold eqL at h
  cases e:f x y with
  | none=>rw [e] at h; cases h
  | some c=>
   rw [e] at h
   cases e' :eqL f xs ys with
   | none=>rw [e'] at h; cases h
   | some d=>
    rw [e'] at h
    cases h
    obtain ⟨g,h1,h2⟩:=yi e'
    refine ⟨fun j=>match j with | 0=>c | j+1=>g j,fun j u v hu hv=> ?_, ?_⟩
    ·cases j with
     | zero=>simp at hu hv; subst hu hv; exact e
     | succ j=>exact h1 j u v (by simpa using hu) (by simpa using hv)
    ·have z:min (x :: xs).length (y :: ys).length=min xs.length ys.length+1:=by simp only [List.length_cons]; omega
     rw [z,List.range_succ_eq_map,List.all_cons,List.all_map]
     have z2:((x :: xs).length == (y :: ys).length)=(xs.length == ys.length):=by simp
     rw [z2,← h2,Bool.and_assoc]
     rfl
section
variable {X:Cx} {pins:List (Addr×Obj)} {σ:Sg} {H:Hp} {s:Shared}
theorem j3 {a:Addr} {xs:List V} {ts:List T} (I:L2.Inv X pins σ H s) (h:H a=some (.tup xs)) (r:zR H xs ts):∃ its:List Value,Ze xs its/\s.heap.IsTuple a its.toArray/\ts.length=its.length/\xs.length<=sizeLine:=by
 obtain ⟨its,rv,p,z⟩:=I.tuple (SqT.of h)
 exact ⟨its,rv,p,by rw [← r.length]; exact rv.length,z⟩
theorem zX {a:Addr} {xs:List V} {ts:List T} (I:L2.Inv X pins σ H s) (h:Rd H a (.lst xs)) (r:zR H xs ts):∃ its:List Value,Ze xs its/\s.heap.IsList a its.toArray/\ts.length=its.length/\xs.length<=sizeLine:=by
 obtain ⟨its,rv,p,z⟩:=I.list (.inl h)
 exact ⟨its,rv,p.isList,by rw [← r.length]; exact rv.length,z⟩
end
abbrev EqN (A:Around) (s:Shared) (u u' :Value) (b:Bool):Prop:=SeqAt.EqAt A s u u' b/\SeqAt.RcAt A s u u' b/\SeqAt.RcNeAt A s u u' (!b)
section
variable {X:Cx} {pins:List (Addr×Obj)} {σ:Sg} {H:Hp} {s:Shared}
theorem yj {xs ys:List V} {ts us:List T} {its its' :List Value} {A:Around} {f:T->T->Option Bool} {e:Nat->Bool} (r:zR H xs ts) (r' :zR H ys us) (v:Ze xs its) (v' :Ze ys its')
  (he:∀ (j:Nat) (x y:T),ts[j]? =some x->us[j]? =some y->f x y=some (e j))
  (ih:∀ (x y:T) (b:Bool) (p q:V) (u w:Value),f x y=some b->Rep H p x->Rep H q y->Zx p u->Zx q w->EqN A s u w b) (j:Nat) (h1:j < its.toArray.size) (h2:j < its'.toArray.size):
  SeqAt.EqAt A s its.toArray[j] its'.toArray[j] (e j):=by
 have l1:=v.length
 have l2:=v'.length
 have m1:=r.length
 have m2:=r'.length
 have k1:j < xs.length:=by simp at h1; omega
 have k2:j < ys.length:=by simp at h2; omega
 obtain ⟨t,et,rt⟩:=r.getV (List.getElem?_eq_getElem k1)
 obtain ⟨t',et',rt'⟩:=r'.getV (List.getElem?_eq_getElem k2)
 obtain ⟨u,eu,ru⟩:=v.get (List.getElem?_eq_getElem k1)
 obtain ⟨u',eu',ru'⟩:=v'.get (List.getElem?_eq_getElem k2)
 have q1:its.toArray[j]=u:=by
  have:its[j]? =some its.toArray[j]:=by simp at h1 ⊢
  rw [eu] at this; exact (Option.some.inj this).symm
 have q2:its'.toArray[j]=u' :=by
  have:its'[j]? =some its'.toArray[j]:=by simp at h2 ⊢
  rw [eu'] at this; exact (Option.some.inj this).symm
 rw [q1,q2]
 exact (ih t t' (e j) _ _ u u' (he j t t' et et') rt rt' ru ru').1
theorem vD {A:Around} {a c:Addr} {xs ys:List V} {ts us:List T} {b:Bool} {f:T->T->Option Bool} (I:L2.Inv X pins σ H s) (hu:A.units < cLine) (ha:H a=some (.tup xs)) (hc:H c=some (.tup ys)) (r:zR H xs ts) (r' :zR H ys us)
  (hb:eqL f ts us=some b) (hr:∀ x b,f x x=some b->b=true)
  (ih:∀ (x y:T) (b:Bool) (p q:V) (u w:Value),f x y=some b->Rep H p x->Rep H q y->Zx p u->Zx q w->EqN A.in1 s u w b):EqN A s (.ref a) (.ref c) b:=by
 obtain ⟨its,v,p,l,_⟩:=j3 I ha r
 obtain ⟨its',v',p',l',_⟩:=j3 I hc r'
 obtain ⟨e,he,hb'⟩:=yi hb
 have hp:=yj (A:=A.in1) r r' v v' he ih
 have z:((List.range (min its.toArray.size its'.toArray.size)).all e && its.toArray.size == its'.toArray.size)=b:=by
  rw [← hb']; simp [l,l']
 have R:=SeqAt.RcAt.tuples p p' hu hp
 have N:=SeqAt.RcNeAt.tuples p p' hu hp
 rw [z] at R
 have N' :SeqAt.RcNeAt A s (.ref a) (.ref c) (!b):=by
  rw [← z]; exact N
 refine ⟨?_,R,N'⟩
 by_cases hac:a=c
 ·subst hac
  rw [ha] at hc; cases hc
  have:=r.fn r'; subst this
  rw [ZB hr ts b hb]
  exact SeqAt.EqAt.same _
 ·exact SeqAt.EqAt.of_refs hac R
theorem wD {A:Around} {a c:Addr} {xs ys:List V} {ts us:List T} {b:Bool} {f:T->T->Option Bool} (I:L2.Inv X pins σ H s) (hu:A.units < cLine) (ha:Rd H a (.lst xs)) (hc:Rd H c (.lst ys)) (r:zR H xs ts) (r' :zR H ys us)
  (hb:eqL f ts us=some b) (hr:∀ x b,f x x=some b->b=true)
  (ih:∀ (x y:T) (b:Bool) (p q:V) (u w:Value),f x y=some b->Rep H p x->Rep H q y->Zx p u->Zx q w->EqN A.in1 s u w b):EqN A s (.ref a) (.ref c) b:=by
 obtain ⟨its,v,p,l,_⟩:=zX I ha r
 obtain ⟨its',v',p',l',_⟩:=zX I hc r'
 obtain ⟨e,he,hb'⟩:=yi hb
 have hp:=yj (A:=A.in1) r r' v v' he ih
 have RN:SeqAt.RcAt A s (.ref a) (.ref c) b/\SeqAt.RcNeAt A s (.ref a) (.ref c) (!b):=by
  by_cases hl:its.toArray.size=its'.toArray.size
  ·have z:(List.range its.toArray.size).all e=b:=by
    rw [← hb']
    have:ts.length=us.length:=by simp at hl; omega
    rw [this]
    have k:its.toArray.size=us.length:=by simp; omega
    rw [k]; simp
   have R:=SeqAt.RcAt.lists p p' hl hu hp
   have N:=SeqAt.RcNeAt.lists p p' hl hu hp
   rw [z] at R
   refine ⟨R, ?_⟩
   rw [← z]; exact N
  ·have hl' :(its.toArray.size != its'.toArray.size)=true:=by simpa using hl
   have z:b=false:=by
    rw [← hb']
    have:¬ ts.length=us.length:=by simp at hl; omega
    simp [this]
   subst z
   exact ⟨SeqAt.RcAt.lists_lengths p p' hl' hu,SeqAt.RcNeAt.lists_lengths p p' hl' hu⟩
 refine ⟨?_,RN.1,RN.2⟩
 by_cases hac:a=c
 ·subst hac
  have hxy:xs=ys:=by
   rcases ha with ha | ⟨o,ha⟩ <;> rcases hc with hc | ⟨o',hc⟩ <;> (rw [ha] at hc; cases hc) <;> rfl
  subst hxy
  have:=r.fn r'; subst this
  rw [ZB hr ts b hb]
  exact SeqAt.EqAt.same _
 ·exact SeqAt.EqAt.of_refs hac RN.1
end
section
variable {X:Cx} {pins:List (Addr×Obj)} {σ:Sg} {H:Hp} {s:Shared}
theorem Wn {A:Around}:A.in1.units=A.units+1:=rfl
set_option maxHeartbeats 2000000 in
theorem yk (I:L2.Inv X pins σ H s):∀ (A:Around),A.units < cLine->∀ (x y:T) (b:Bool) (p q:V) (u w:Value),eqF 0 x y=some b->Rep H p x->Rep H q y->Zx p u->Zx q w->EqN A s u w b:=by
 intro A hu x y b p q u w h rp rq ru rw'
 have hu' :=hu
 cases rp with
 | non=>
  obtain rfl:u=Value.none:=ru
  cases rq with
  | non=>obtain rfl:w=Value.none:=rw'; unfold eqF at h; cases h; exact ⟨.same _, .none_none, .none_none⟩
  | bl c=>obtain rfl:w=Value.bool c:=rw'; unfold eqF at h; cases h; exact ⟨.none_bool _, .none_bool _, .none_bool _⟩
  | int c=>obtain ⟨t,rfl⟩:=rw'; unfold eqF at h; cases h; exact ⟨.none_int _ _, .none_int _ _, .none_int _ _⟩
  | str c=>obtain ⟨t,rfl⟩:=rw'; unfold eqF at h; cases h; exact ⟨.none_str _ _, .none_str _ _, .none_str _ _⟩
  | tup h1 r1=>obtain rfl:w=Value.ref _:=rw'; unfold eqF at h; cases h; obtain ⟨i,_,p,_⟩:=j3 I h1 r1; exact ⟨.none_tuple p hu', .none_tuple p hu', .none_tuple p hu'⟩
  | lst h1 r1=>obtain rfl:w=Value.ref _:=rw'; unfold eqF at h; cases h; obtain ⟨i,_,p,_⟩:=zX I (.inl h1) r1; exact ⟨.none_list p hu', .none_list p hu', .none_list p hu'⟩
  | fz h1 r1=>obtain rfl:w=Value.ref _:=rw'; unfold eqF at h; cases h; obtain ⟨i,_,p,_⟩:=zX I (.inr ⟨_,h1⟩) r1; exact ⟨.none_list p hu', .none_list p hu', .none_list p hu'⟩
 | bl d=>
  obtain rfl:u=Value.bool d:=ru
  cases rq with
  | non=>obtain rfl:w=Value.none:=rw'; unfold eqF at h; cases h; exact ⟨.bool_none _, .bool_none _, .bool_none _⟩
  | bl c=>obtain rfl:w=Value.bool c:=rw'; unfold eqF at h; cases h; exact ⟨.bool_bool _ _, .bool_bool _ _, .bool_bool _ _⟩
  | int c=>obtain ⟨t,rfl⟩:=rw'; unfold eqF at h; cases h; exact ⟨.bool_int _ _ _, .bool_int _ _ _, .bool_int _ _ _⟩
  | str c=>obtain ⟨t,rfl⟩:=rw'; unfold eqF at h; cases h; exact ⟨.bool_str _ _ _, .bool_str _ _ _, .bool_str _ _ _⟩
  | tup h1 r1=>obtain rfl:w=Value.ref _:=rw'; unfold eqF at h; cases h; obtain ⟨i,_,p,_⟩:=j3 I h1 r1; exact ⟨.bool_tuple _ p hu', .bool_tuple _ p hu', .bool_tuple _ p hu'⟩
  | lst h1 r1=>obtain rfl:w=Value.ref _:=rw'; unfold eqF at h; cases h; obtain ⟨i,_,p,_⟩:=zX I (.inl h1) r1; exact ⟨.bool_list _ p hu', .bool_list _ p hu', .bool_list _ p hu'⟩
  | fz h1 r1=>obtain rfl:w=Value.ref _:=rw'; unfold eqF at h; cases h; obtain ⟨i,_,p,_⟩:=zX I (.inr ⟨_,h1⟩) r1; exact ⟨.bool_list _ p hu', .bool_list _ p hu', .bool_list _ p hu'⟩
 | int d=>
  obtain ⟨t0,rfl⟩:=ru
  cases rq with
  | non=>obtain rfl:w=Value.none:=rw'; unfold eqF at h; cases h; exact ⟨.int_none _ _, .int_none _ _, .int_none _ _⟩
  | bl c=>obtain rfl:w=Value.bool c:=rw'; unfold eqF at h; cases h; exact ⟨.int_bool _ _ _, .int_bool _ _ _, .int_bool _ _ _⟩
  | int c=>obtain ⟨t,rfl⟩:=rw'; unfold eqF at h; cases h; exact ⟨.int_int _ _ _ _, .int_int _ _ _ _, .int_int _ _ _ _⟩
  | str c=>obtain ⟨t,rfl⟩:=rw'; unfold eqF at h; cases h; exact ⟨.int_str _ _ _ _, .int_str _ _ _ _, .int_str _ _ _ _⟩
  | tup h1 r1=>obtain rfl:w=Value.ref _:=rw'; unfold eqF at h; cases h; obtain ⟨i,_,p,_⟩:=j3 I h1 r1; exact ⟨.int_tuple _ _ p hu', .int_tuple _ _ p hu', .int_tuple _ _ p hu'⟩
  | lst h1 r1=>obtain rfl:w=Value.ref _:=rw'; unfold eqF at h; cases h; obtain ⟨i,_,p,_⟩:=zX I (.inl h1) r1; exact ⟨.int_list _ _ p hu', .int_list _ _ p hu', .int_list _ _ p hu'⟩
  | fz h1 r1=>obtain rfl:w=Value.ref _:=rw'; unfold eqF at h; cases h; obtain ⟨i,_,p,_⟩:=zX I (.inr ⟨_,h1⟩) r1; exact ⟨.int_list _ _ p hu', .int_list _ _ p hu', .int_list _ _ p hu'⟩
 | str d=>
  obtain ⟨t0,rfl⟩:=ru
  cases rq with
  | non=>obtain rfl:w=Value.none:=rw'; unfold eqF at h; cases h; exact ⟨.str_none _ _, .str_none _ _, .str_none _ _⟩
  | bl c=>obtain rfl:w=Value.bool c:=rw'; unfold eqF at h; cases h; exact ⟨.str_bool _ _ _, .str_bool _ _ _, .str_bool _ _ _⟩
  | int c=>obtain ⟨t,rfl⟩:=rw'; unfold eqF at h; cases h; exact ⟨.str_int _ _ _ _, .str_int _ _ _ _, .str_int _ _ _ _⟩
  | str c=>obtain ⟨t,rfl⟩:=rw'; unfold eqF at h; cases h; exact ⟨.str_str _ _ _ _, .str_str _ _ _ _, .str_str _ _ _ _⟩
  | tup h1 r1=>obtain rfl:w=Value.ref _:=rw'; unfold eqF at h; cases h; obtain ⟨i,_,p,_⟩:=j3 I h1 r1; exact ⟨.str_tuple _ _ p hu', .str_tuple _ _ p hu', .str_tuple _ _ p hu'⟩
  | lst h1 r1=>obtain rfl:w=Value.ref _:=rw'; unfold eqF at h; cases h; obtain ⟨i,_,p,_⟩:=zX I (.inl h1) r1; exact ⟨.str_list _ _ p hu', .str_list _ _ p hu', .str_list _ _ p hu'⟩
  | fz h1 r1=>obtain rfl:w=Value.ref _:=rw'; unfold eqF at h; cases h; obtain ⟨i,_,p,_⟩:=zX I (.inr ⟨_,h1⟩) r1; exact ⟨.str_list _ _ p hu', .str_list _ _ p hu', .str_list _ _ p hu'⟩
 | tup h0 r0=>
  obtain rfl:u=Value.ref _:=ru
  obtain ⟨i0,_,p0,_⟩:=j3 I h0 r0
  cases rq with
  | non=>obtain rfl:w=Value.none:=rw'; unfold eqF at h; cases h; exact ⟨.tuple_none p0 hu', .tuple_none p0 hu', .tuple_none p0 hu'⟩
  | bl c=>obtain rfl:w=Value.bool c:=rw'; unfold eqF at h; cases h; exact ⟨.tuple_bool _ p0 hu', .tuple_bool _ p0 hu', .tuple_bool _ p0 hu'⟩
  | int c=>obtain ⟨t,rfl⟩:=rw'; unfold eqF at h; cases h; exact ⟨.tuple_int _ _ p0 hu', .tuple_int _ _ p0 hu', .tuple_int _ _ p0 hu'⟩
  | str c=>obtain ⟨t,rfl⟩:=rw'; unfold eqF at h; cases h; exact ⟨.tuple_str _ _ p0 hu', .tuple_str _ _ p0 hu', .tuple_str _ _ p0 hu'⟩
  | tup h1 r1=>unfold eqF at h; cases h
  | lst h1 r1=>obtain rfl:w=Value.ref _:=rw'; unfold eqF at h; cases h; obtain ⟨i,_,p,_⟩:=zX I (.inl h1) r1; exact ⟨.tuple_list p0 p hu', .tuple_list p0 p hu', .tuple_list p0 p hu'⟩
  | fz h1 r1=>obtain rfl:w=Value.ref _:=rw'; unfold eqF at h; cases h; obtain ⟨i,_,p,_⟩:=zX I (.inr ⟨_,h1⟩) r1; exact ⟨.tuple_list p0 p hu', .tuple_list p0 p hu', .tuple_list p0 p hu'⟩
 | lst h0 r0=>
  obtain rfl:u=Value.ref _:=ru
  obtain ⟨i0,_,p0,_⟩:=zX I (.inl h0) r0
  cases rq with
  | non=>obtain rfl:w=Value.none:=rw'; unfold eqF at h; cases h; exact ⟨.list_none p0 hu', .list_none p0 hu', .list_none p0 hu'⟩
  | bl c=>obtain rfl:w=Value.bool c:=rw'; unfold eqF at h; cases h; exact ⟨.list_bool _ p0 hu', .list_bool _ p0 hu', .list_bool _ p0 hu'⟩
  | int c=>obtain ⟨t,rfl⟩:=rw'; unfold eqF at h; cases h; exact ⟨.list_int _ _ p0 hu', .list_int _ _ p0 hu', .list_int _ _ p0 hu'⟩
  | str c=>obtain ⟨t,rfl⟩:=rw'; unfold eqF at h; cases h; exact ⟨.list_str _ _ p0 hu', .list_str _ _ p0 hu', .list_str _ _ p0 hu'⟩
  | tup h1 r1=>obtain rfl:w=Value.ref _:=rw'; unfold eqF at h; cases h; obtain ⟨i,_,p,_⟩:=j3 I h1 r1; exact ⟨.list_tuple p0 p hu', .list_tuple p0 p hu', .list_tuple p0 p hu'⟩
  | lst h1 r1=>unfold eqF at h; cases h
  | fz h1 r1=>unfold eqF at h; cases h
 | fz h0 r0=>
  obtain rfl:u=Value.ref _:=ru
  obtain ⟨i0,_,p0,_⟩:=zX I (.inr ⟨_,h0⟩) r0
  cases rq with
  | non=>obtain rfl:w=Value.none:=rw'; unfold eqF at h; cases h; exact ⟨.list_none p0 hu', .list_none p0 hu', .list_none p0 hu'⟩
  | bl c=>obtain rfl:w=Value.bool c:=rw'; unfold eqF at h; cases h; exact ⟨.list_bool _ p0 hu', .list_bool _ p0 hu', .list_bool _ p0 hu'⟩
  | int c=>obtain ⟨t,rfl⟩:=rw'; unfold eqF at h; cases h; exact ⟨.list_int _ _ p0 hu', .list_int _ _ p0 hu', .list_int _ _ p0 hu'⟩
  | str c=>obtain ⟨t,rfl⟩:=rw'; unfold eqF at h; cases h; exact ⟨.list_str _ _ p0 hu', .list_str _ _ p0 hu', .list_str _ _ p0 hu'⟩
  | tup h1 r1=>obtain rfl:w=Value.ref _:=rw'; unfold eqF at h; cases h; obtain ⟨i,_,p,_⟩:=j3 I h1 r1; exact ⟨.list_tuple p0 p hu', .list_tuple p0 p hu', .list_tuple p0 p hu'⟩
  | lst h1 r1=>unfold eqF at h; cases h
  | fz h1 r1=>unfold eqF at h; cases h
set_option maxHeartbeats 2000000 in
theorem vF (I:L2.Inv X pins σ H s):∀ (n:Nat) (A:Around),A.units+n < cLine->∀ (x y:T) (b:Bool) (p q:V) (u w:Value),eqF n x y=some b->Rep H p x->Rep H q y->Zx p u->Zx q w->EqN A s u w b:=by
 intro n
 induction n with
 | zero=>exact fun A hu x y b p q u w h=>yk I A (by omega) x y b p q u w h
 | succ n ih=>
  intro A hu x y b p q u w h rp rq ru rw'
  have low:eqF 0 x y=some b->EqN A s u w b:=fun h=>yk I A (by omega) x y b p q u w h rp rq ru rw'
  have hu' :A.units < cLine:=by omega
  have ih' :=ih A.in1 (by rw [Wn]; omega)
  cases rp with
  | tup h0 r0=>
   cases rq with
   | tup h1 r1=>
    obtain rfl:u=Value.ref _:=ru
    obtain rfl:w=Value.ref _:=rw'
    unfold eqF at h
    exact vD I hu' h0 h1 r0 r1 h (Zk n) ih'
   | _=>exact low (by unfold eqF at h ⊢; exact h)
  | lst h0 r0=>
   cases rq with
   | lst h1 r1=>
    obtain rfl:u=Value.ref _:=ru
    obtain rfl:w=Value.ref _:=rw'
    unfold eqF at h
    exact wD I hu' (.inl h0) (.inl h1) r0 r1 h (Zk n) ih'
   | fz h1 r1=>
    obtain rfl:u=Value.ref _:=ru
    obtain rfl:w=Value.ref _:=rw'
    unfold eqF at h
    exact wD I hu' (.inl h0) (.inr ⟨_,h1⟩) r0 r1 h (Zk n) ih'
   | _=>exact low (by unfold eqF at h ⊢; exact h)
  | fz h0 r0=>
   cases rq with
   | lst h1 r1=>
    obtain rfl:u=Value.ref _:=ru
    obtain rfl:w=Value.ref _:=rw'
    unfold eqF at h
    exact wD I hu' (.inr ⟨_,h0⟩) (.inl h1) r0 r1 h (Zk n) ih'
   | fz h1 r1=>
    obtain rfl:u=Value.ref _:=ru
    obtain rfl:w=Value.ref _:=rw'
    unfold eqF at h
    exact wD I hu' (.inr ⟨_,h0⟩) (.inr ⟨_,h1⟩) r0 r1 h (Zk n) ih'
   | _=>exact low (by unfold eqF at h ⊢; exact h)
  | _=>exact low (by cases rq <;> (unfold eqF at h ⊢; exact h))
end
section
variable {X:Cx} {Y:Fx} {a b c d:Expr} {fa fb fc fd:En->R T} {pos:Pos}
def rG (Y:Fx) (g:T->T->R T):R2:=fun x y H Q=>∃ B t t',zK B H/\Rep B x t/\Rep B y t' /\Po Y rC B H (g t t') Q
def zf (g:T->T->R T) (fa fb:En->R T):En->R T:=fun ρ=>(fa ρ).bind fun x=>(fb ρ).bind fun y=>g x y
theorem yl {op:Operator} {g:T->T->R T} (ho:OpR X (binaryOp op) (rG Y g)) (ha:Snd X Y a fa) (hb:Snd X Y b fb):Snd X Y (.BinOp a op b pos) (zf g fa fb):= .mk fun ρ=>
 PE.imp (Kp ho (ha ρ) (hb ρ)) fun σ H Q ⟨B,I,q⟩=>step I q fun t v H1 _ s1 r1 I1 q1=>step I1 q1 fun t' v' H2 _ s2 r2 I2 q2=>
  ⟨_,t,t',I2.sB,r1.mono (zW.ge I1.sB s2),r2,q2⟩
theorem po0 {g:R T} {B H:Hp} {Q:VK} {t:T} {v:V} (sB:zK B H) (q:Po Y rC B H g Q) (e:g= .ok t) (r:Rep B v t):Q v H:=by
 subst e
 exact q v H (zK.refl H) (by show Rep (zW B H H) v t; rw [zW.self B H sB]; exact r)
theorem x6 {g:R T} {B H:Hp} {Q:VK} {ts:List T} {xs:List V} {p:Addr} (sB:zK B H) (q:Po Y rC B H g Q) (e:g= .ok (.tup ts)) (r:zR B xs ts) (h:H p=none):Q (.ref p) (upd H p (.tup xs)):=by
 subst e
 exact q _ _ (zK.new h _) (.tup (jk h _) (r.mono (zW.ge sB (zK.new h _))))
theorem ky {g:R T} {B H:Hp} {Q:VK} {ts:List T} {xs:List V} {p:Addr} (sB:zK B H) (q:Po Y rC B H g Q) (e:g= .ok (.lst ts)) (r:zR B xs ts) (h:H p=none):Q (.ref p) (upd H p (.lst xs)):=by
 subst e
 exact q _ _ (zK.new h _) (.lst (jk h _) (r.mono (zW.ge sB (zK.new h _))))
def zw:T->T->R T
 | .int i, .int j=> .ok (.int (i+j))
 | .bl x, .int j=> .ok (.int (b2 x+j))
 | .int i, .bl y=> .ok (.int (i+b2 y))
 | .str x, .str y=>if x.length+y.length<=bnd then .ok (.str (x++y)) else .bad
 | .tup xs, .tup ys=>if xs.length+ys.length<=bnd then .ok (.tup (xs++ys)) else .bad
 | .lst xs, .lst ys=>if xs.length+ys.length<=bnd then .ok (.lst (xs++ys)) else .bad
 | _,_=> .bad
theorem qo {prog:Program} {w:World} {A:Around} {E:Value->Shared->Prop} {s:Shared} {t b:Addr} {vs ws:List Value} {Q:Value->Shared->Prop} (ht:IsTup s.heap t vs.toArray) (hb:IsTup s.heap b ws.toArray) (hv:vs=[])
  (h1:Q (.ref b) s):wpAny (model prog w) A (binaryOp .Add (.ref t) (.ref b)) Q E s:=by
 obtain ⟨⟨cls,dd,data,sl⟩,ho,hc,n,hd⟩:=id ht
 obtain ⟨⟨cls2,dd2,data2,sl2⟩,ho2,hc2,n2,hd2⟩:=id hb
 simp only at hc hd hc2 hd2
 subst hc hd hc2 hd2
 exact concat_meets ⟨_,ho,rfl⟩ ⟨_,ho2,rfl⟩ noFill_tuple_add seq_tuple_add PySem.F.slot_tuple_add PySem.F.entry_tuple_add (PySem.F.args_tuple_add_2 _ _)
   (tuple_addW0 t b vs.toArray ws.toArray n n2 dd dd2 sl sl2 (by simp [hv])) ⟨ho,ho2,h1⟩
theorem vG:OpR X (binaryOp .Add) (rG Y zw):=by
 intro pins s σ H x y v u Q I rx ry h
 obtain ⟨B,t,t',sB,r,r',q⟩:=h
 cases r with
 | int i=>
  cases r' with
  | int j=>exact xz pins s σ H _ _ v u Q I rx ry ⟨i,j,rfl,rfl,po0 sB q rfl (.int _)⟩
  | bl y=>exact y0 pins s σ H _ _ v u Q I rx ry ⟨i,y,rfl,rfl,po0 sB q rfl (.int _)⟩
  | _=>exact q.elim
 | bl x=>
  cases r' with
  | int j=>
   obtain rfl:v=Value.bool x:=rx
   obtain ⟨tk,rfl⟩:=ry
   exact IntBool.add_bool_int (⟨.int _,H,I.tok _,⟨_,rfl⟩,po0 sB q rfl (.int _)⟩)
  | _=>exact q.elim
 | str x=>
  cases r' with
  | str y=>
   by_cases hb:x.length+y.length<=bnd
   ·exact Ui pins s σ H _ _ v u Q I rx ry ⟨x,y,rfl,rfl,ZK hb,po0 sB q (if_pos hb) (.str _)⟩
   ·rw [show zw (.str x) (.str y)= .bad from if_neg hb] at q; exact q.elim
  | _=>exact q.elim
 | @tup a xs ts h1 r1=>
  cases r' with
  | @tup a' ys us h2 r2=>
   by_cases hb:ts.length+us.length<=bnd
   ·have eg:zw (.tup ts) (.tup us)= .ok (.tup (ts++us)):=if_pos hb
    have hz:xs.length+ys.length<=sizeLine:=by rw [r1.length,r2.length]; exact ZK hb
    by_cases hx:xs=[]
    ·obtain rfl:v=Value.ref a:=rx
     obtain rfl:u=Value.ref a' :=ry
     obtain ⟨its,rv,p,_⟩:=I.tuple (SqT.of (sB _ _ h1))
     obtain ⟨its',rv',p',_⟩:=I.tuple (SqT.of (sB _ _ h2))
     have et:ts=[]:=r1.nil_iff.mp hx
     refine qo p p' (rv.nil_iff.mpr hx) ⟨.ref a',H,I,rfl,po0 sB q eg ?_⟩
     rw [et]; exact .tup h2 r2
    ·refine vq pins s σ H _ _ v u Q I rx ry ⟨a,a',xs,ys,rfl,rfl,SqT.of (sB _ _ h1),SqT.of (sB _ _ h2),hx,hz,fun hy=> ?_,fun hy p hp=> ?_⟩
     ·refine po0 sB q eg ?_
      rw [r2.nil_iff.mp hy,List.append_nil]
      exact .tup h1 r1
     ·exact x6 sB q eg (r1.append r2) hp
   ·rw [show zw (.tup ts) (.tup us)= .bad from if_neg hb] at q; exact q.elim
  | _=>exact q.elim
 | @lst a xs ts h1 r1=>
  cases r' with
  | @lst a' ys us h2 r2=>
   by_cases hb:ts.length+us.length<=bnd
   ·have eg:zw (.lst ts) (.lst us)= .ok (.lst (ts++us)):=if_pos hb
    have hz:xs.length+ys.length<=sizeLine:=by rw [r1.length,r2.length]; exact ZK hb
    exact xP pins s σ H _ _ v u Q I rx ry ⟨a,a',xs,ys,rfl,rfl,sB _ _ h1,sB _ _ h2,hz,fun p hp=>ky sB q eg (r1.append r2) hp⟩
   ·rw [show zw (.lst ts) (.lst us)= .bad from if_neg hb] at q; exact q.elim
  | _=>exact q.elim
 | _=>cases r' <;> exact q.elim
theorem zE (ha:Snd X Y a fa) (hb:Snd X Y b fb):Snd X Y (.BinOp a .Add b pos) (zf zw fa fb):=yl vG ha hb
def jG:T->T->R T
 | .int i, .int j=> .ok (.int (i - j))
 | _,_=> .bad
def jI:T->T->R T
 | .int i, .int j=>if 0 < j then .ok (.int (i % j)) else .bad
 | _,_=> .bad
def JF:T->T->R T
 | .int i, .int j=>if 0 < j/\j < 1073741824 then .ok (.int (i / j)) else .bad
 | _,_=> .bad
instance (i j:Int):Decidable (W3 i j):=by unfold W3; infer_instance
def Z1:T->T->R T
 | .int i, .int j=>if W3 i j then .ok (.int (i*j)) else .bad
 | .lst xs, .int k=>if 0<=k/\k < 1000000/\xs.length*k.toNat<=bnd then .ok (.lst (List.replicate k.toNat xs).flatten) else .bad
 | .tup xs, .int k=>if 2<=k/\k < 1000000/\xs ≠ []/\xs.length*k.toNat<=bnd then .ok (.tup (List.replicate k.toNat xs).flatten) else .bad
 | _,_=> .bad
theorem vH:OpR X (binaryOp .Sub) (rG Y jG):=by
 intro pins s σ H x y v u Q I rx ry h
 obtain ⟨B,t,t',sB,r,r',q⟩:=h
 cases r with
 | int i=>
  cases r' with
  | int j=>exact xA pins s σ H _ _ v u Q I rx ry ⟨i,j,rfl,rfl,po0 sB q rfl (.int _)⟩
  | _=>exact q.elim
 | _=>cases r' <;> exact q.elim
theorem vI:OpR X (binaryOp .Mod) (rG Y jI):=by
 intro pins s σ H x y v u Q I rx ry h
 obtain ⟨B,t,t',sB,r,r',q⟩:=h
 cases r with
 | int i=>
  cases r' with
  | int j=>
   by_cases hj:0 < j
   ·exact xC pins s σ H _ _ v u Q I rx ry ⟨i,j,rfl,rfl,hj,po0 sB q (if_pos hj) (.int _)⟩
   ·rw [show jI (.int i) (.int j)= .bad from if_neg hj] at q; exact q.elim
  | _=>exact q.elim
 | _=>cases r' <;> exact q.elim
theorem qp:OpR X (binaryOp .FloorDiv) (rG Y JF):=by
 intro pins s σ H x y v u Q I rx ry h
 obtain ⟨B,t,t',sB,r,r',q⟩:=h
 cases r with
 | int i=>
  cases r' with
  | int j=>
   by_cases hj:0 < j/\j < 1073741824
   ·exact vh pins s σ H _ _ v u Q I rx ry ⟨i,j,rfl,rfl,hj,po0 sB q (if_pos hj) (.int _)⟩
   ·rw [show JF (.int i) (.int j)= .bad from if_neg hj] at q; exact q.elim
  | _=>exact q.elim
 | _=>cases r' <;> exact q.elim
theorem Um (l:Addr) (items:Array Value) (n:Nat) (dd:Option Addr) (sl:Array (Option Value)) (x:Int) (u:Tok) (h1:2<=x) (h2:x < 1000000) (hne:items.isEmpty=false) (hsz:items.size*x.toNat<=sizeLine):
  Meets (Builtin.«tuple.__mul__» ⟨[.ref l, .int x u],[]⟩) (fun _ R s=>s.heap.get? l=some { cls:= .type "tuple",dict:=dd,data:= .seq items n,slots:=sl }/\
   R (.ok (.ret (Value.ref s.heap.objs.size))) { s with heap:=s.heap.push { cls:=Value.type "tuple",data:=Data.seq (List.foldl (fun x1 x2=>x1++x2) #[] (List.replicate x.toNat items)) },toks:=s.toks }):=
 .of_wp fun prog w A R s h=>by
  obtain ⟨hp,g,d,tk,os⟩:=s; obtain ⟨hl,h⟩:=h
  have f1:=AutoSeq1.idx_int
  have e0:(items.size:Int)*x=((items.size*x.toNat:Nat):Int):=by
   have:x=((x.toNat:Nat):Int):=by omega
   rw [Int.natCast_mul,← this]
  have sl1:(sizeLine:Nat)=16777216:=sizeLine_eq
  have c1:¬ (decide (x < -(2 ^ 63)) || decide (x ≥ 2 ^ 63))=true:=by simp; omega
  have c2:¬ (items.isEmpty || x == 1)=true:=by simp [hne]; omega
  have c3:¬ (decide (x<=0) || items.isEmpty)=true:=by simp [hne]; omega
  have c4:¬ ((items.size:Int)*x > (2 ^ 63 - 1) / 8):=by rw [e0]; omega
  have c5:¬ Builtin.Tuple.tupleTooMany ((items.size:Int)*x)=true:=by
   unfold Builtin.Tuple.tupleTooMany
   rw [e0]
   intro z
   have:=of_decide_eq_true z
   omega
  unfold Builtin.«tuple.__mul__»
  wp_walk using wpAny_loadPart' hl
  rw [if_neg c1]
  wp_walk using wpAny_loadPart' hl
  rw [if_neg c2]
  try dsimp only
  rw [if_neg c3]
  try dsimp only
  rw [if_neg c4]
  try dsimp only
  rw [if_neg c5]
  try dsimp only
  have hsz' :sizeOk (.seq (List.foldl (fun x1 x2=>x1++x2) #[] (List.replicate x.toNat items))):=by
   show (List.foldl (fun x1 x2=>x1++x2) #[] (List.replicate x.toNat items)).size<=sizeLine
   have:=jT items.toList x.toNat []
   rw [List.nil_append] at this
   have q:List.foldl (fun x1 x2=>x1++x2) #[] (List.replicate x.toNat items)=(List.replicate x.toNat items.toList).flatten.toArray:=by
    simpa using this
   rw [q,List.size_toArray,J4,Array.length_toList,Nat.mul_comm]
   exact hsz
  exact wpAny_bind (m:=Builtin.Tuple.tupleExact _) (wpAny_newObj_type (wpAny_pure ⟨_,rfl,h⟩) hsz')
theorem Wo:seqRepeat? (.type "tuple")=pure (some (.builtin "tuple.__mul__")):=by
 unfold seqRepeat?
 rw [PySem.seqSlot_of (T:="tuple") (name:="__mul__") (id:="tuple.__mul__") F.slot_tuple_mul.lookup (by decide+kernel),PySem.seqSlot_of (T:="tuple") (name:="__rmul__") (id:="tuple.__rmul__") F.slot_tuple_rmul.lookup (by decide+kernel)]
 rfl
theorem Jm:fillsNumberSlot (.type "tuple") "mul"=pure false:=
 PySem.fillsNumberSlot_seq (id:="tuple.__mul__") (r:=some (.builtin "tuple.__rmul__")) F.slot_tuple_mul.lookup (by decide+kernel) F.slot_tuple_rmul.lookup (by decide+kernel)
theorem JZ (a:Int) (t:Tok) (l:Addr) (items:Array Value) (n:Nat) (dd:Option Addr) (sl:Array (Option Value)):
  Meets (Builtin.«int.__rmul__» ⟨[.int a t, .ref l],[]⟩) (fun _ R s=>s.heap.get? l=some { cls:= .type "tuple",dict:=dd,data:= .seq items n,slots:=sl }/\R (.ok (.ret Value.notImplemented)) s):=
 .of_wp fun prog w A R s h=>by obtain ⟨hp,g,d,tk,os⟩:=s; obtain ⟨hl,h⟩:=h; wp_walk; exact ⟨_,rfl,h⟩
theorem vJ {prog:Program} {w:World} {A:Around} {E:Value->Shared->Prop} {s:Shared} {l:Addr} {its:List Value} {k:Int} {t:Tok} {Q:Value->Shared->Prop} (p:IsTup s.heap l its.toArray) (hne:its ≠ []) (h1:2<=k) (h2:k < 1000000)
  (hsz:its.length*k.toNat<=sizeLine) (q:Q (.ref s.heap.objs.size) { s with heap:=s.heap.push { cls:= .type "tuple",data:= .seq (List.replicate k.toNat its).flatten.toArray } }):
  wpAny (model prog w) A (binaryOp .Mult (.ref l) (.int k t)) Q E s:=by
 obtain ⟨⟨cls,dd,data,sl⟩,ho,hc,n,hd⟩:=id p
 simp only at hc hd
 subst hc hd
 refine wpAny_binaryOp_repeat_ref (T:="tuple") (U:="int") (by decide) ⟨_,ho,rfl⟩ (fun s' =>typeIs_int s' k t) Jm F.fills_int_mul F.slot_int_rmul Wo F.slot_int_index.lookup
  (call_meets F.slot_int_rmul (typeIs_int s k t) F.entry_int_rmul (F.args_int_rmul_2 _ _) (JZ k t l its.toArray n dd sl)
   ⟨ho,rfl,⟨_,ho,rfl⟩,call_meets F.slot_tuple_mul ⟨_,ho,rfl⟩ F.entry_tuple_mul (F.args_tuple_mul_2 _ _) (Um l its.toArray n dd sl k t h1 h2 (by simpa using hne) (by simpa using hsz)) ⟨ho, ?_⟩⟩)
 have:=jT its k.toNat []
 rw [List.nil_append] at this
 rw [this]
 exact q
theorem vK:OpR X (binaryOp .Mult) (rG Y Z1):=by
 intro pins s σ H x y v u Q I rx ry h
 obtain ⟨B,t,t',sB,r,r',q⟩:=h
 cases r with
 | int i=>
  cases r' with
  | int j=>
   by_cases hj:W3 i j
   ·exact xB pins s σ H _ _ v u Q I rx ry ⟨i,j,rfl,rfl,hj,po0 sB q (if_pos hj) (.int _)⟩
   ·rw [show Z1 (.int i) (.int j)= .bad from if_neg hj] at q; exact q.elim
  | _=>exact q.elim
 | @lst l xs ts h1 r1=>
  cases r' with
  | int k=>
   by_cases hk:0<=k/\k < 1000000/\ts.length*k.toNat<=bnd
   ·have eg:Z1 (.lst ts) (.int k)= .ok (.lst (List.replicate k.toNat ts).flatten):=if_pos hk
    exact xQ pins s σ H _ _ v u Q I rx ry ⟨l,k,xs,rfl,rfl,sB _ _ h1,by omega,by omega,by rw [r1.length]; exact ZK hk.2.2,fun p hp=>ky sB q eg (r1.rep _) hp⟩
   ·rw [show Z1 (.lst ts) (.int k)= .bad from if_neg hk] at q; exact q.elim
  | _=>exact q.elim
 | @tup l xs ts h1 r1=>
  cases r' with
  | int k=>
   by_cases hk:2<=k/\k < 1000000/\ts ≠ []/\ts.length*k.toNat<=bnd
   ·have eg:Z1 (.tup ts) (.int k)= .ok (.tup (List.replicate k.toNat ts).flatten):=if_pos hk
    obtain rfl:v=Value.ref l:=rx
    obtain ⟨tk,rfl⟩:=ry
    obtain ⟨its,rv,p,_⟩:=I.tuple (SqT.of (sB _ _ h1))
    have ln:ts.length=its.length:=r1.length.symm.trans rv.length
    have hne:its ≠ []:=fun z=>hk.2.2.1 (by rw [z] at ln; exact List.length_eq_zero_iff.mp ln)
    refine vJ p hne hk.1 hk.2.1 (by rw [← ln]; exact ZK hk.2.2.2) ⟨.ref s.heap.objs.size,upd H s.heap.objs.size (.tup (List.replicate k.toNat xs).flatten),I.laid (t' :=s.toks) (fun b u e=>Heap.get?_push_of_some _ e) (Nat.le_refl _) ?_,rfl, ?_⟩
    ·exact ⟨by rw [J4,r1.length,Nat.mul_comm]; exact ZK hk.2.2.2,(List.replicate k.toNat its).flatten,rv.rep _,⟨_,Heap.get?_push_size _ rfl,rfl,_,rfl⟩, .inr ⟨_,Heap.get?_push_size _ rfl,rfl⟩⟩
    ·exact x6 sB q eg (r1.rep _) (I.hok.fresh (Nat.le_refl _))
   ·rw [show Z1 (.tup ts) (.int k)= .bad from if_neg hk] at q; exact q.elim
  | _=>exact q.elim
 | _=>cases r' <;> exact q.elim
theorem jl (ha:Snd X Y a fa) (hb:Snd X Y b fb):Snd X Y (.BinOp a .Sub b pos) (zf jG fa fb):=yl vH ha hb
theorem wE (ha:Snd X Y a fa) (hb:Snd X Y b fb):Snd X Y (.BinOp a .Mod b pos) (zf jI fa fb):=yl vI ha hb
theorem Qm (ha:Snd X Y a fa) (hb:Snd X Y b fb):Snd X Y (.BinOp a .FloorDiv b pos) (zf JF fa fb):=yl qp ha hb
theorem ZU (ha:Snd X Y a fa) (hb:Snd X Y b fb):Snd X Y (.BinOp a .Mult b pos) (zf Z1 fa fb):=yl vK ha hb
def uy (fa:En->R T):En->R T:=fun ρ=>(fa ρ).bind fun x=>match x with
 | .int i=> .ok (.int (-i))
 | _=> .bad
theorem Uo (ha:Snd X Y a fa):Snd X Y (.UnaryOp .USub a pos) (uy fa):= .mk fun ρ=>PE.imp (Kq xD (ha ρ)) fun σ H Q ⟨B,I,q⟩=>step I q fun t v H1 _ s1 r1 I1 q1=>by
 cases r1 with
 | int i=>exact ⟨i,rfl,po0 I1.sB q1 rfl (.int _)⟩
 | _=>exact q1.elim
def W4 (g:T->T->R Bool):R2:=fun x y H Q=>∃ t t' b,Rep H x t/\Rep H y t' /\g t t' = .ok b/\Q (.bl b) H
def jh (g:T->T->R Bool) (fa fb:En->R T):En->R T:=fun ρ=>(fa ρ).bind fun x=>(fb ρ).bind fun y=>(g x y).bind fun b=> .ok (.bl b)
def zB (g:T->T->R Bool) (fa fb:En->R T):En->R Bool:=fun ρ=>(fa ρ).bind fun x=>(fb ρ).bind fun y=>g x y
def Nx (g:T->T->R Bool):Prop:=∀ t t' c,g t t' ≠ .ex c
theorem ja {op:CmpOp} {g:T->T->R Bool} (nx:Nx g) (ho:OpR X (compareOp op) (W4 g)) (ha:J6 X Y a fa) (hb:J6 X Y b fb) (hm:behindInMarks op b=false):Snd X Y (.Compare a [op] [b] pos) (jh g fa fb):= .mk fun ρ=>
 PE.imp (vi ho (ha ρ) (hb ρ) hm) fun σ H Q ⟨B,I,q⟩=>step I q fun t v H1 _ s1 r1 I1 q1=>step I1 q1 fun t' v' H2 _ s2 r2 I2 q2=>by
  cases e:g t t' with
  | bad=>rw [e] at q2; exact q2.elim
  | ex c=>exact absurd e (nx _ _ _)
  | ok b=>rw [e] at q2; exact ⟨t,t',b,r1.mono s2,r2,e,j0 I2 q2 (.bl b)⟩
theorem zy {op:CmpOp} {g:T->T->R Bool} (nx:Nx g) (ho:OpR X (compareOp op) (W4 g)) (ha:J6 X Y a fa) (hb:J6 X Y b fb) (hm:behindInMarks op b=false):WS X Y (.Compare a [op] [b] pos) (zB g fa fb):= .mk fun ρ=>
 PT.imp (vj ho (ha ρ) (hb ρ) hm) fun σ H Q ⟨B,I,q⟩=>step I q fun t v H1 _ s1 r1 I1 q1=>step I1 q1 fun t' v' H2 _ s2 r2 I2 q2=>by
  cases e:g t t' with
  | bad=>rw [e] at q2; exact q2.elim
  | ex c=>exact absurd e (nx _ _ _)
  | ok b=>rw [e] at q2; exact ⟨t,t',b,r1.mono s2,r2,e,b,rfl,j0 I2 q2 rfl⟩
def eqC (t t' :T):R Bool:=match eqF 30 t t' with
 | some b=> .ok b
 | none=> .bad
def neC (t t' :T):R Bool:=match eqF 30 t t' with
 | some b=> .ok (!b)
 | none=> .bad
theorem zF:Nx eqC:=fun t t' c h=>by unfold eqC at h; split at h <;> cases h
theorem qq:Nx neC:=fun t t' c h=>by unfold neC at h; split at h <;> cases h
theorem zt (hu:X.A.units+64 < cLine):OpR X (compareOp .Eq) (W4 eqC):=by
 intro pins s σ H x y v u Q I rx ry h
 obtain ⟨t,t',b,r,r',e,q⟩:=h
 unfold eqC at e
 split at e
 ·rename_i k ek
  have e' :k=b:=by injection e
  subst e'
  exact (vF I 30 X.A (by omega) t t' k x y v u ek r r' rx ry).2.1 _ _ _ _ ⟨.bl k,H,I,rfl,q⟩
 ·cases e
theorem uz (hu:X.A.units+64 < cLine):OpR X (compareOp .NotEq) (W4 neC):=by
 intro pins s σ H x y v u Q I rx ry h
 obtain ⟨t,t',b,r,r',e,q⟩:=h
 unfold neC at e
 split at e
 ·rename_i k ek
  cases e
  exact (vF I 30 X.A (by omega) t t' k x y v u ek r r' rx ry).2.2 _ _ _ _ ⟨.bl (!k),H,I,rfl,q⟩
 ·cases e
def ltC:T->T->R Bool
 | .int i, .int j=> .ok (decide (i < j))
 | _,_=> .bad
def leC:T->T->R Bool
 | .int i, .int j=> .ok (decide (i<=j))
 | .str x, .str y=> .ok (!decide (y.cps.toList < x.cps.toList))
 | _,_=> .bad
def gtC:T->T->R Bool
 | .int i, .int j=> .ok (decide (j < i))
 | _,_=> .bad
theorem qr:Nx ltC:=fun t t' c h=>by unfold ltC at h; split at h <;> cases h
theorem ZI:Nx leC:=fun t t' c h=>by unfold leC at h; split at h <;> cases h
theorem Up:Nx gtC:=fun t t' c h=>by unfold gtC at h; split at h <;> cases h
theorem uA:OpR X (compareOp .Lt) (W4 ltC):=by
 intro pins s σ H x y v u Q I rx ry h
 obtain ⟨t,t',b,r,r',e,q⟩:=h
 unfold ltC at e
 split at e
 ·rename_i i j; cases e; cases r; cases r'; exact Ks pins s σ H _ _ v u Q I rx ry ⟨i,j,rfl,rfl,q⟩
 ·cases e
theorem wk:OpR X (compareOp .Gt) (W4 gtC):=by
 intro pins s σ H x y v u Q I rx ry h
 obtain ⟨t,t',b,r,r',e,q⟩:=h
 unfold gtC at e
 split at e
 ·rename_i i j; cases e; cases r; cases r'; exact Ku pins s σ H _ _ v u Q I rx ry ⟨i,j,rfl,rfl,q⟩
 ·cases e
theorem Z9:OpR X (compareOp .LtE) (W4 leC):=by
 intro pins s σ H x y v u Q I rx ry h
 obtain ⟨t,t',b,r,r',e,q⟩:=h
 unfold leC at e
 split at e
 ·rename_i i j; cases e; cases r; cases r'; exact Kt pins s σ H _ _ v u Q I rx ry ⟨i,j,rfl,rfl,q⟩
 ·rename_i i j; cases e; cases r; cases r'
  obtain ⟨t1,rfl⟩:=rx
  obtain ⟨t2,rfl⟩:=ry
  exact PySem.P.le_str ⟨.bl _,H,I,rfl,q⟩
 ·cases e
end
section
variable {X:Cx} {Y:Fx} {a b c d:Expr} {fa fb fc fd:En->R T} {pos:Pos}
def W5 (f:T->Option Bool):List T->Option Bool
 | []=>some false
 | t :: r=>match f t with
  | none=>none
  | some b=>match W5 f r with
   | none=>none
   | some c=>some (b || c)
def inC (t t' :T):R Bool:=match t' with
 | .tup ys=>match W5 (fun y=>eqF 30 y t) ys with | some b=> .ok b | none=> .bad
 | .lst ys=>match W5 (fun y=>eqF 30 y t) ys with | some b=> .ok b | none=> .bad
 | _=> .bad
def qt (t t' :T):R Bool:=(inC t t').bind fun b=> .ok (!b)
theorem Uq:Nx inC:=fun t t' c h=>by
 unfold inC at h
 split at h
 ·split at h <;> cases h
 ·split at h <;> cases h
 ·cases h
theorem xS:Nx qt:=fun t t' c h=>by
 unfold qt at h
 cases e:inC t t' with
 | bad=>rw [e] at h; cases h
 | ex k=>exact absurd e (Uq _ _ _)
 | ok k=>rw [e] at h; cases h
open Classical in
theorem vL {H:Hp} (f:T->Option Bool):∃ e:Value->Bool,∀ (v:V) (t:T) (u:Value) (b:Bool),Zx v u->Rep H v t->f t=some b->e u=b:=by
 refine ⟨fun u=>decide (∃ v t,Zx v u/\Rep H v t/\f t=some true),fun v t u b rv r e=> ?_⟩
 cases b with
 | true=>exact decide_eq_true ⟨v,t,rv,r,e⟩
 | false=>
  refine decide_eq_false ?_
  rintro ⟨v',t',rv',r',e'⟩
  have:=rv.inj rv'; subst this
  have:=r.fn r'; subst this
  rw [e] at e'; cases e'
theorem ym {H:Hp} {f:T->Option Bool} {e:Value->Bool} (he:∀ (v:V) (t:T) (u:Value) (b:Bool),Zx v u->Rep H v t->f t=some b->e u=b):∀ {xs:List V} {ts:List T} {its:List Value} {b:Bool},
  Ze xs its->zR H xs ts->W5 f ts=some b->its.any e=b/\∀ u∈its,∃ v t k,Zx v u/\Rep H v t/\f t=some k
 | _,_,_,b, .nil, .nil,h=>by
  have h' :some false=some b:=h
  cases h'
  exact ⟨rfl,fun u hu=>by simp at hu⟩
 | _,_,_,b, .cons rv vs, .cons r rs,h=>by
  rename_i v u vals us t ts
  unfold W5 at h
  cases q:f t with
  | none=>rw [q] at h; cases h
  | some k=>
   rw [q] at h
   cases q' :W5 f ts with
   | none=>rw [q'] at h; cases h
   | some k' =>
    rw [q'] at h
    cases h
    obtain ⟨h1,h2⟩:=ym he vs rs q'
    refine ⟨by rw [List.any_cons,h1,he v t u k rv r q],fun w hw=> ?_⟩
    rcases List.mem_cons.mp hw with rfl | hw
    ·exact ⟨v,t,k,rv,r,q⟩
    ·exact h2 w hw
theorem yn (hu:X.A.units+64 < cLine) (neg:Bool):OpR X (compareOp (if neg then .NotIn else .In)) (W4 (if neg then qt else inC)):=by
 intro pins s σ H x y v u Q I rx ry h
 obtain ⟨t,t',b,r,r',e,q⟩:=h
 have hs:∃ k,inC t t' = .ok k/\b=(if neg then !k else k):=by
  cases neg with
  | false=>exact ⟨b,e,rfl⟩
  | true=>
   have e' :qt t t' = .ok b:=e
   unfold qt at e'
   cases z:inC t t' with
   | bad=>rw [z] at e'; cases e'
   | ex k=>exact absurd z (Uq _ _ _)
   | ok k=>rw [z] at e'; cases e'; exact ⟨k,rfl,rfl⟩
 obtain ⟨k,ek,rfl⟩:=hs
 unfold inC at ek
 obtain ⟨f,hf⟩:=vL (H:=H) fun y=>eqF 30 y t
 have eqa:∀ w,(∃ v t' k,Zx v w/\Rep H v t' /\eqF 30 t' t=some k)->SeqAt.EqAt X.A.in1 s w v (f w):=fun w ⟨v',t',k,rv,rr,ee⟩=>by
  rw [hf v' t' w k rv rr ee]
  exact (vF I 30 X.A.in1 (by rw [Wn]; omega) t' t k v' x w v ee rr r rv rx).1
 split at ek
 ·rename_i ys
  split at ek
  ·rename_i k' hk
   cases ek
   cases r' with
   | @tup l xs _ h1 r1=>
    obtain rfl:u=Value.ref l:=ry
    obtain ⟨its,rv,p,_⟩:=j3 I h1 r1
    obtain ⟨h2,h3⟩:=ym hf rv r1 hk
    have h4:its.toArray.any f=k:=by simpa using h2
    cases neg with
    | false=>exact SeqAt.in_tupleAt f p (fun w hw=>eqa w (h3 w (by simpa using hw))) (by rw [h4]; exact ⟨.bl k,H,I,rfl,q⟩)
    | true=>exact SeqAt.notIn_tupleAt f p (fun w hw=>eqa w (h3 w (by simpa using hw))) (by rw [h4]; exact ⟨.bl (!k),H,I,rfl,q⟩)
  ·cases ek
 ·rename_i ys
  split at ek
  ·rename_i k' hk
   cases ek
   cases r' with
   | @lst l xs _ h1 r1=>
    obtain rfl:u=Value.ref l:=ry
    obtain ⟨its,rv,p,_⟩:=zX I (.inl h1) r1
    obtain ⟨h2,h3⟩:=ym hf rv r1 hk
    have h4:its.toArray.any f=k:=by simpa using h2
    cases neg with
    | false=>exact SeqAt.in_listAt f p (fun w hw=>eqa w (h3 w (by simpa using hw))) (by rw [h4]; exact ⟨.bl k,H,I,rfl,q⟩)
    | true=>exact SeqAt.notIn_listAt f p (fun w hw=>eqa w (h3 w (by simpa using hw))) (by rw [h4]; exact ⟨.bl (!k),H,I,rfl,q⟩)
  ·cases ek
 ·cases ek
theorem uB (hu:X.A.units+64 < cLine):OpR X (compareOp .In) (W4 inC):=yn hu false
theorem vM (hu:X.A.units+64 < cLine):OpR X (compareOp .NotIn) (W4 qt):=yn hu true
def isNC (t t' :T):R Bool:=match t' with
 | .non=>match t with | .non=> .ok true | _=> .ok false
 | .bl k=>match t with | .bl j=> .ok (j == k) | _=> .ok false
 | _=> .bad
def chE (g g' :T->T->R Bool) (fa fb fc:En->R T):En->R T:=fun ρ=>(fa ρ).bind fun x=>(fb ρ).bind fun y=>(g x y).bind fun k=>if k=true then (fc ρ).bind fun z=>(g' y z).bind fun k' => .ok (.bl k') else .ok (.bl false)
def chT (g g' :T->T->R Bool) (fa fb fc:En->R T):En->R Bool:=fun ρ=>(fa ρ).bind fun x=>(fb ρ).bind fun y=>(g x y).bind fun k=>if k=true then (fc ρ).bind fun z=>g' y z else .ok false
theorem jm {op op' :CmpOp} {g g' :T->T->R Bool} (nx:Nx g) (nx' :Nx g') (ho:OpR X (compareOp op) (W4 g)) (ho' :OpR X (compareOp op') (W4 g')) (ha:J6 X Y a fa) (hb:J6 X Y b fb) (hc:J6 X Y c fc)
  (hm:lastMarks [op,op'] [b,c]=false:=by with_unfolding_all rfl):Snd X Y (.Compare a [op,op'] [b,c] pos) (chE g g' fa fb fc):= .mk fun ρ=>
 PE.imp (qi ho ho' (ha ρ) (hb ρ) (hc ρ) hm) fun σ H Q ⟨B,I,q⟩=>step I q fun t v H1 _ s1 r1 I1 q1=>step I1 q1 fun t' v' H2 _ s2 r2 I2 q2=>by
  cases e:g t t' with
  | bad=>rw [e] at q2; exact q2.elim
  | ex c=>exact absurd e (nx _ _ _)
  | ok k=>
   rw [e] at q2
   refine ⟨t,t',k,r1.mono s2,r2,e,k,rfl, ?_⟩
   cases k with
   | false=>exact j0 I2 q2 (.bl false)
   | true=>
    refine step I2 q2 fun t3 v3 H3 _ s3 r3 I3 q3=> ?_
    ·cases e:g' t' t3 with
     | bad=>rw [e] at q3; exact q3.elim
     | ex c=>exact absurd e (nx' _ _ _)
     | ok k=>rw [e] at q3; exact ⟨t',t3,k,r2.mono s3,r3,e,j0 I3 q3 (.bl k)⟩
theorem vN {op op' :CmpOp} {g g' :T->T->R Bool} (nx:Nx g) (nx' :Nx g') (ho:OpR X (compareOp op) (W4 g)) (ho' :OpR X (compareOp op') (W4 g')) (ha:J6 X Y a fa) (hb:J6 X Y b fb) (hc:J6 X Y c fc)
  (hm:lastMarks [op,op'] [b,c]=false:=by with_unfolding_all rfl):WS X Y (.Compare a [op,op'] [b,c] pos) (chT g g' fa fb fc):= .mk fun ρ=>
 PT.imp (qj ho ho' (ha ρ) (hb ρ) (hc ρ) hm) fun σ H Q ⟨B,I,q⟩=>step I q fun t v H1 _ s1 r1 I1 q1=>step I1 q1 fun t' v' H2 _ s2 r2 I2 q2=>by
  cases e:g t t' with
  | bad=>rw [e] at q2; exact q2.elim
  | ex c=>exact absurd e (nx _ _ _)
  | ok k=>
   rw [e] at q2
   refine ⟨t,t',k,r1.mono s2,r2,e,k,rfl, ?_⟩
   cases k with
   | false=>exact ⟨false,rfl,j0 I2 q2 rfl⟩
   | true=>
    refine step I2 q2 fun t3 v3 H3 _ s3 r3 I3 q3=> ?_
    ·cases e:g' t' t3 with
     | bad=>rw [e] at q3; exact q3.elim
     | ex c=>exact absurd e (nx' _ _ _)
     | ok k=>rw [e] at q3; exact ⟨t',t3,k,r2.mono s3,r3,e,k,rfl,j0 I3 q3 rfl⟩
def vO (r r' r'' :R2) (ta tb tc td:TE):TE:=fun σ H Q=>ta σ H fun x H1=>tb σ H1 fun y H2=>r x y H2 fun z H3=>∃ k,z= .bl k/\
 (if k=true then tc σ H3 fun w' H4=>r' y w' H4 fun z' H5=>∃ k',z' = .bl k' /\(if k' =true then td σ H5 fun w2 H6=>r'' w' w2 H6 Q else Q (.bl false) H5) else Q (.bl false) H3)
theorem yo {op op' op'' :CmpOp} {r r' r'' :R2} {ta tb tc td:TE} (ho:OpR X (compareOp op) r) (ho' :OpR X (compareOp op') r') (ho'' :OpR X (compareOp op'') r'') (ha:PE X a ta) (hb:PE X b tb) (hc:PE X c tc) (hd:PE X d td)
  (hm:lastMarks [op,op',op''] [b,c,d]=false:=by with_unfolding_all rfl):PE X (.Compare a [op,op',op''] [b,c,d] pos) (vO r r' r'' ta tb tc td):=by
 intro pins s σ H Q I h
 refine Compare_chain (thn (ha pins s σ H _ I h) fun v s1 ⟨x,H1,I1,r1,q1⟩=>chain_link (thn (hb pins s1 σ H1 _ I1 q1) fun u s2 ⟨y,H2,I2,r2,q2⟩=>
  thn (ho pins s2 σ H2 x y v u _ I2 r1 r2 q2) fun d' s3 ⟨z,H3,I3,r3,k,e,q3⟩=> ?_)) hm
 subst e
 cases r3
 refine wpAny_truthy_bool ?_
 cases k with
 | false=>exact ite_ff ⟨.bl false,H3,I3,rfl,q3⟩
 | true=>
  refine ite_tt (chain_link (thn (hc pins s3 σ H3 _ I3 q3) fun w' s4 ⟨z',H4,I4,r4,q4⟩=>thn (ho' pins s4 σ H4 y z' u w' _ I4 r2 r4 q4) fun d2 s5 ⟨z5,H5,I5,r5,k5,e5,q5⟩=> ?_))
  subst e5
  cases r5
  refine wpAny_truthy_bool ?_
  cases k5 with
  | false=>exact ite_ff ⟨.bl false,H5,I5,rfl,q5⟩
  | true=>exact ite_tt (chain_last (thn (hd pins s5 σ H5 _ I5 q5) fun w6 s6 ⟨z6,H6,I6,r6,q6⟩=>ho'' pins s6 σ H6 z' z6 w' w6 Q I6 r4 r6 q6))
def GE (g g' g'' :T->T->R Bool) (fa fb fc fd:En->R T):En->R T:=fun ρ=>(fa ρ).bind fun x=>(fb ρ).bind fun y=>(g x y).bind fun k=>if k=true then (fc ρ).bind fun z=>(g' y z).bind fun k' =>
 if k' =true then (fd ρ).bind fun w=>(g'' z w).bind fun k'' => .ok (.bl k'') else .ok (.bl false) else .ok (.bl false)
theorem qu {op op' op'' :CmpOp} {g g' g'' :T->T->R Bool} (nx:Nx g) (nx' :Nx g') (nx'' :Nx g'') (ho:OpR X (compareOp op) (W4 g)) (ho' :OpR X (compareOp op') (W4 g')) (ho'' :OpR X (compareOp op'') (W4 g''))
  (ha:J6 X Y a fa) (hb:J6 X Y b fb) (hc:J6 X Y c fc) (hd:J6 X Y d fd)
  (hm:lastMarks [op,op',op''] [b,c,d]=false:=by with_unfolding_all rfl):Snd X Y (.Compare a [op,op',op''] [b,c,d] pos) (GE g g' g'' fa fb fc fd):= .mk fun ρ=>
 PE.imp (yo ho ho' ho'' (ha ρ) (hb ρ) (hc ρ) (hd ρ) hm) fun σ H Q ⟨B,I,q⟩=>step I q fun t v H1 _ s1 r1 I1 q1=>step I1 q1 fun t' v' H2 _ s2 r2 I2 q2=>by
  cases e:g t t' with
  | bad=>rw [e] at q2; exact q2.elim
  | ex c=>exact absurd e (nx _ _ _)
  | ok k=>
   rw [e] at q2
   refine ⟨t,t',k,r1.mono s2,r2,e,k,rfl, ?_⟩
   cases k with
   | false=>exact j0 I2 q2 (.bl false)
   | true=>
    refine step I2 q2 fun t3 v3 H3 _ s3 r3 I3 q3=> ?_
    ·cases e:g' t' t3 with
     | bad=>rw [e] at q3; exact q3.elim
     | ex c=>exact absurd e (nx' _ _ _)
     | ok k=>
      rw [e] at q3
      refine ⟨t',t3,k,r2.mono s3,r3,e,k,rfl, ?_⟩
      cases k with
      | false=>exact j0 I3 q3 (.bl false)
      | true=>
       refine step I3 q3 fun t4 v4 H4 _ s4 r4 I4 q4=> ?_
       ·cases e:g'' t3 t4 with
        | bad=>rw [e] at q4; exact q4.elim
        | ex c=>exact absurd e (nx'' _ _ _)
        | ok k=>rw [e] at q4; exact ⟨t3,t4,k,r3.mono s4,r4,e,j0 I4 q4 (.bl k)⟩
variable {rest:List Expr} {ga gb:En->R Bool}
def J7 (fa fb:En->R T):En->R T:=fun ρ=>(fa ρ).bind fun x=>match x with
 | .bl true=>fb ρ
 | .bl false=> .ok (.bl false)
 | _=> .bad
def orE (fa fb:En->R T):En->R T:=fun ρ=>(fa ρ).bind fun x=>match x with
 | .bl true=> .ok (.bl true)
 | .bl false=>fb ρ
 | _=> .bad
def qv (fa:En->R T):En->R T:=fun ρ=>(fa ρ).bind fun x=>match x with
 | .bl k=> .ok (.bl (!k))
 | _=> .bad
theorem jo {op} (h:Snd X Y a fa):Snd X Y (.BoolOp op [a] pos) fa:= .mk fun ρ=>xu (h ρ)
theorem j4 (ha:Snd X Y a fa) (hb:Snd X Y (.BoolOp .And (b :: rest) pos) fb):Snd X Y (.BoolOp .And (a :: b :: rest) pos) (J7 fa fb):= .mk fun ρ=>
 PE.imp (xv (ha ρ) (hb ρ)) fun σ H Q ⟨B,I,q⟩=>step I q fun t v H1 _ s1 r1 I1 q1=>by
  cases r1 with
  | bl k=>
   refine ⟨k,rfl, ?_⟩
   cases k with
   | true=>exact ⟨_,I1,q1⟩
   | false=>exact j0 I1 q1 (.bl false)
  | _=>exact q1.elim
theorem KC (ha:Snd X Y a fa) (hb:Snd X Y (.BoolOp .Or (b :: rest) pos) fb):Snd X Y (.BoolOp .Or (a :: b :: rest) pos) (orE fa fb):= .mk fun ρ=>
 PE.imp (Kg (ha ρ) (hb ρ)) fun σ H Q ⟨B,I,q⟩=>step I q fun t v H1 _ s1 r1 I1 q1=>by
  cases r1 with
  | bl k=>
   refine ⟨k,rfl, ?_⟩
   cases k with
   | false=>exact ⟨_,I1,q1⟩
   | true=>exact j0 I1 q1 (.bl true)
  | _=>exact q1.elim
theorem vP (ha:Snd X Y a fa):Snd X Y (.UnaryOp .Not a pos) (qv fa):= .mk fun ρ=>
 PE.imp (xw (ha ρ)) fun σ H Q ⟨B,I,q⟩=>step I q fun t v H1 _ s1 r1 I1 q1=>by
  cases r1 with
  | bl k=>exact ⟨k,rfl,j0 I1 q1 (.bl (!k))⟩
  | _=>exact q1.elim
structure Jp (X:Cx) (Y:Fx) (e:Expr) (f:En->R Bool):Prop where
 mk ::
 go:∀ ρ,PW X e (tS Y rE f ρ)
instance {X:Cx} {Y:Fx} {e:Expr} {f:En->R Bool}:CoeFun (Jp X Y e f) fun _=>∀ ρ,PW X e (tS Y rE f ρ):=⟨Jp.go⟩
theorem Jp.t {e:Expr} {f:En->R Bool} (h:Jp X Y e f):WS X Y e f:= .mk fun ρ=>(h ρ).pt
theorem PW.imp {e:Expr} {t t' :TT} (h:PW X e t) (i:∀ σ H Q,t' σ H Q->t σ H Q):PW X e t' :=fun wh pins s σ H Q I q=>h wh pins s σ H Q I (i σ H Q q)
def US (fa fb:En->R Bool):En->R Bool:=fun ρ=>(fa ρ).bind fun x=>if x=true then fb ρ else .ok false
def orT (fa fb:En->R Bool):En->R Bool:=fun ρ=>(fa ρ).bind fun x=>if x=true then .ok true else fb ρ
def wl (fa:En->R Bool):En->R Bool:=fun ρ=>(fa ρ).bind fun x=> .ok (!x)
theorem yq (h:WS X Y a ga):Jp X Y (.BoolOp .And [a] pos) ga:= .mk fun ρ=>ve (h ρ)
theorem JG (h:WS X Y a ga):Jp X Y (.BoolOp .Or [a] pos) ga:= .mk fun ρ=>xp (h ρ)
theorem vQ (ha:WS X Y a ga) (hb:Jp X Y (.BoolOp .And (b :: rest) pos) gb):Jp X Y (.BoolOp .And (a :: b :: rest) pos) (US ga gb):= .mk fun ρ=>
 PW.imp (xr (ha ρ) (hb ρ)) fun σ H Q ⟨B,I,q⟩=>step I q fun t v H1 _ s1 r1 I1 q1=>by
  have r1' :v=t:=r1
  subst r1'
  cases v with
  | true=>exact ⟨_,I1,q1⟩
  | false=>exact j0 I1 q1 rfl
theorem Ur (ha:WS X Y a ga) (hb:Jp X Y (.BoolOp .Or (b :: rest) pos) gb):Jp X Y (.BoolOp .Or (a :: b :: rest) pos) (orT ga gb):= .mk fun ρ=>
 PW.imp (Kc (ha ρ) (hb ρ)) fun σ H Q ⟨B,I,q⟩=>step I q fun t v H1 _ s1 r1 I1 q1=>by
  have r1' :v=t:=r1
  subst r1'
  cases v with
  | false=>exact ⟨_,I1,q1⟩
  | true=>exact j0 I1 q1 rfl
theorem J8 (ha:WS X Y a ga):WS X Y (.UnaryOp .Not a pos) (wl ga):= .mk fun ρ=>
 PT.imp (xt (ha ρ)) fun σ H Q ⟨B,I,q⟩=>step I q fun t v H1 _ s1 r1 I1 q1=>by
  have r1' :v=t:=r1
  subst r1'
  exact j0 I1 q1 rfl
def tru:T->R Bool
 | .bl k=> .ok k
 | .non=> .ok false
 | .int i=> .ok (i != 0)
 | .tup xs=> .ok (!xs.isEmpty)
 | .lst xs=> .ok (!xs.isEmpty)
 | _=> .bad
def jC (fa:En->R T):En->R Bool:=fun ρ=>(fa ρ).bind tru
theorem isE {H:Hp} {xs:List V} {ts:List T} (r:zR H xs ts):(!xs.isEmpty)= !ts.isEmpty:=by cases r <;> rfl
theorem ji (ha:J6 X Y a fa) (he:∀ whole,isTrue a X.env whole=(do let v ← whole; standAt a.pos; holding [v] (truthy v)):=by intro _; rfl):WS X Y a (jC fa):= .mk fun ρ=>
 PT.imp (qk (ha ρ) he) fun σ H Q ⟨B,I,q⟩=>step I q fun t v H1 _ s1 r1 I1 q1=>by
  cases r1 with
  | bl k=>exact ⟨k,rfl,j0 I1 q1 rfl⟩
  | non=>exact ⟨false,rfl,j0 I1 q1 rfl⟩
  | int i=>exact ⟨_,rfl,j0 I1 q1 rfl⟩
  | tup h r=>exact ⟨_, .inr (.inl ⟨_,SqT.of h,rfl⟩),j0 I1 q1 (isE r)⟩
  | lst h r=>exact ⟨_, .inl ⟨_,SqL.of h,rfl⟩,j0 I1 q1 (isE r)⟩
  | _=>exact q1.elim
def ifE (g:En->R Bool) (fa fb:En->R T):En->R T:=fun ρ=>(g ρ).bind fun k=>if k=true then fa ρ else fb ρ
theorem kz (hc:WS X Y c ga) (ha:Snd X Y a fa) (hb:Snd X Y b fb):Snd X Y (.IfExp c a b pos) (ifE ga fa fb):= .mk fun ρ=>
 PE.imp (qf (hc ρ) (ha ρ) (hb ρ)) fun σ H Q ⟨B,I,q⟩=>step I q fun t v H1 _ s1 r1 I1 q1=>by
  have r1' :v=t:=r1
  subst r1'
  cases v with
  | true=>exact ⟨_,I1,q1⟩
  | false=>exact ⟨_,I1,q1⟩
end
end PV
namespace PV
open PySem PySem.Spec PyProof.Rows L2
section
variable {X:Cx} {Y:Fx} {a b c d:Expr} {fa fb fc fd:En->R T} {pos p:Pos}
def ap1 (g:T->R T) (fa:En->R T):En->R T:=fun ρ=>(fa ρ).bind g
abbrev St1 (X:Cx) (a:Expr):Prop:=starEach [a] X.env=[(false,eval a X.env)]
theorem uC {id:String} {x:Str} {r:List V->Hp->VK->Prop} {g:T->R T} (hc:ZS X (.builtin id) r) (hr:∀ v t B H Q,Rep H v t->zK B H->Po Y rC B H (g t) Q->r [v] H Q)
  (gl:Gl X x) (mg:X.mg x=none) (bt:bootBuiltins x=some (.builtin id)) (ha:J6 X Y a fa) (hs:St1 X a:=by exact st1 rfl) (hn:x ≠ "__name__":=by decide) (hd:(x == ("__debug__":Str))=false:=by decide):Snd X Y (.Call (.Name x p) [a] [] pos) (ap1 g fa):= .mk fun ρ=>
 PE.imp (Jo hc gl mg bt (zD (ha ρ) Z8 hs) hn hd hs rfl) fun σ H Q ⟨B,I,q⟩=>step I q fun t v H1 _ s1 r1 I1 q1=>hr v t _ H1 Q r1 I1.sB q1
theorem uD {id:String} {x:Str} {r:List V->Hp->VK->Prop} {g:T->R T} (hc:ZS X (.type id) r) (hr:∀ v t B H Q,Rep B v t->zK B H->Po Y rC B H (g t) Q->r [v] H Q)
  (gl:Gl X x) (mg:X.mg x=none) (bt:bootBuiltins x=some (.type id)) (ha:Snd X Y a fa) (hs:St1 X a:=by exact st1 rfl) (hn:x ≠ "__name__":=by decide) (hd:(x == ("__debug__":Str))=false:=by decide):Snd X Y (.Call (.Name x p) [a] [] pos) (ap1 g fa):= .mk fun ρ=>
 PE.imp (jS hc gl mg bt (zD (ha ρ) Z8 hs) hn hd hs rfl) fun σ H Q ⟨B,I,q⟩=>step I q fun t v H1 _ s1 r1 I1 q1=>hr v t _ H1 Q r1 I1.sB q1
def ZO:T->R T
 | .tup xs=> .ok (.int xs.length)
 | .lst xs=> .ok (.int xs.length)
 | .fz xs=> .ok (.int xs.length)
 | .str x=>if x.length<=bnd then .ok (.int x.length) else .bad
 | _=> .bad
theorem KD (v:V) (t:T) (B H:Hp) (Q:VK) (r:Rep H v t) (sB:zK B H) (q:Po Y rC B H (ZO t) Q):
  (∃ p ys,[v]=[V.ref p]/\(SqL X.K H p ys\/SqT X.K H p ys)/\Q (V.int ys.length) H)\/(∃ z,[v]=[V.str z]/\z.length<=sizeLine/\Q (V.int z.length) H):=by
 cases r with
 | tup h r=>exact .inl ⟨_,_,rfl, .inr (SqT.of h),po0 sB q rfl (by rw [r.length]; exact .int _)⟩
 | lst h r=>exact .inl ⟨_,_,rfl, .inl (SqL.of h),po0 sB q rfl (by rw [r.length]; exact .int _)⟩
 | fz h r=>exact .inl ⟨_,_,rfl, .inl (.inl (.inr ⟨_,h⟩)),po0 sB q rfl (by rw [r.length]; exact .int _)⟩
 | str x=>
  by_cases hb:x.length<=bnd
  ·exact .inr ⟨x,rfl,ZK hb,po0 sB q (if_pos hb) (.int _)⟩
  ·rw [show ZO (.str x)= .bad from if_neg hb] at q; exact q.elim
 | _=>exact q.elim
theorem ZV (gl:Gl X "len") (mg:X.mg "len"=none) (ha:J6 X Y a fa) (hs:St1 X a:=by exact st1 rfl):Snd X Y (.Call (.Name "len" p) [a] [] pos) (ap1 ZO fa):=
 uC (Wh.or Wi) KD gl mg PySem.boot_len ha hs
def Qn:T->R T
 | .tup xs=> .ok (.tup xs)
 | .lst xs=> .ok (.tup xs)
 | _=> .bad
theorem KF (v:V) (t:T) (B H:Hp) (Q:VK) (r:Rep B v t) (sB:zK B H) (q:Po Y rC B H (Qn t) Q):
  ∃ p ys,[v]=[V.ref p]/\((SqL X.K H p ys/\∀ l,H l=none->Q (.ref l) (upd H l (.tup ys)))\/(SqT X.K H p ys/\Q (.ref p) H)):=by
 cases r with
 | tup h r=>exact ⟨_,_,rfl, .inr ⟨SqT.of (sB _ _ h),po0 sB q rfl (.tup h r)⟩⟩
 | lst h r=>exact ⟨_,_,rfl, .inl ⟨SqL.of (sB _ _ h),fun l hl=>x6 sB q rfl r hl⟩⟩
 | _=>exact q.elim
theorem JH (gl:Gl X "tuple") (mg:X.mg "tuple"=none) (ha:Snd X Y a fa) (hs:St1 X a:=by exact st1 rfl):Snd X Y (.Call (.Name "tuple" p) [a] [] pos) (ap1 Qn fa):=
 uD wC KF gl mg (PyProof.Rows.Boot.«tuple») ha hs
def tyN:T->String
 | .non=>"NoneType"
 | .bl _=>"bool"
 | .int _=>"int"
 | .str _=>"str"
 | .tup _=>"tuple"
 | .lst _=>"list"
 | .fz _=>"list"
def isT (n:String) (t:T):Bool:=tyN t == n || (n == "int" && tyN t == "bool")
theorem KG {H:Hp} {v:V} {t:T} (K:PySem.W.Frag) (r:Rep H v t):Uj K H v (.type (tyN t)):=by
 cases r with
 | non=>exact .non
 | bl b=>exact .bl b
 | int b=>exact .int b
 | str b=>exact .str b
 | tup h _=>exact .tup h
 | lst h _=>exact .lst h
 | fz h _=>exact .frz h
theorem qw:ZS X (.builtin "isinstance") (fun xs H Q=>∃ v n t,xs=[v, .ty n]/\Rep H v t/\PySem.W.kitOne X.K (.type (tyN t)) (.type n)=some (isT n t)/\Q (.bl (isT n t)) H):=by
 intro pins s σ H xs us Q I rv h
 obtain ⟨v,n,t,rfl,r,hk,q⟩:=h
 obtain ⟨u,w,rfl,ru,rw'⟩:=y6 rv
 obtain rfl:w=Value.type n:=rw'
 exact ya I ru (KG X.K r) hk fun tk=>⟨.bl _,H,I.tok tk,rfl,q⟩
def uE (n:String) (t:T):R T:= .ok (.bl (isT n t))
theorem vR (K:PySem.W.Frag) (t:T):PySem.W.kitOne K (.type (tyN t)) (.type "int")=some (isT "int" t):=by cases t <;> rfl
theorem qx (K:PySem.W.Frag) (t:T):PySem.W.kitOne K (.type (tyN t)) (.type "bool")=some (isT "bool" t):=by cases t <;> rfl
theorem yr (K:PySem.W.Frag) (t:T):PySem.W.kitOne K (.type (tyN t)) (.type "str")=some (isT "str" t):=by cases t <;> rfl
theorem jp (K:PySem.W.Frag) (t:T):PySem.W.kitOne K (.type (tyN t)) (.type "tuple")=some (isT "tuple" t):=by cases t <;> rfl
theorem wF {n:String} {p' :Pos} (hk:∀ t,PySem.W.kitOne X.K (.type (tyN t)) (.type n)=some (isT n t)) (gl:Gl X "isinstance") (mg:X.mg "isinstance"=none) (gl' :Gl X (Str.ofString n)) (mg' :X.mg (Str.ofString n)=none) (bt:bootBuiltins (Str.ofString n)=some (.type n)) (ha:J6 X Y a fa)
  (hs:starEach [a, .Name (Str.ofString n) p'] X.env=[(false,eval a X.env),(false,eval (.Name (Str.ofString n) p') X.env)]:=by exact st2 rfl rfl) (hs2:starEach [.Name (Str.ofString n) p'] X.env=[(false,eval (.Name (Str.ofString n) p') X.env)]:=by exact st1 rfl)
  (hn:Str.ofString n ≠ "__name__":=by decide) (hd:(Str.ofString n == ("__debug__":Str))=false:=by decide) (hz:((backTo pos (starEach [.Name (Str.ofString n) p'] X.env)).any fun x=>x.fst)=false:=by exact j9 rfl):
  Snd X Y (.Call (.Name "isinstance" p) [a, .Name (Str.ofString n) p'] [] pos) (ap1 (uE n) fa):= .mk fun ρ=>
 PE.imp (Jo qw gl mg PyProof.Rows.Boot.«isinstance» (zD (ha ρ) (zD (vd (v:= .ty n) gl' mg' bt rfl hn hd) Z8 hs2) (by rw [hs,hs2])) (by decide) (by decide) (by rw [hs,hs2]) hz) fun σ H Q ⟨B,I,q⟩=>
  step I q fun t v H1 _ s1 r1 I1 q1=>⟨v,n,t,rfl,r1,hk t,po0 I1.sB q1 rfl (.bl _)⟩
def atT (xs:List T) (i:Int):R T:=match atI xs i with
 | some t=> .ok t
 | none=> .bad
def ixT:T->T->R T
 | .tup xs, .int i=>atT xs i
 | .lst xs, .int i=>atT xs i
 | .fz xs, .int i=>atT xs i
 | .str z, .int i=>if z.length<=bnd then match atI z.cps.toList i with | some c=> .ok (.str ⟨#[c]⟩) | none=> .bad else .bad
 | _,_=> .bad
theorem yt {H:Hp} {xs:List V} {ts:List T} {i:Int} {t:T} (r:zR H xs ts) (h:atI ts i=some t):∃ v,atI xs i=some v/\Rep H v t:=by
 unfold atI at h ⊢
 rw [r.length]
 cases e:ixN ts.length i with
 | none=>rw [e] at h; cases h
 | some j=>
  rw [e] at h
  obtain ⟨v,h1,h2⟩:=r.get (show ts[j]? =some t from h)
  exact ⟨v,h1,h2⟩
theorem zN (ha:Snd X Y a fa) (hb:Snd X Y b fb) (hs:yd b:=by exact fun _ _=>rfl):Snd X Y (.Subscript a b pos) (zf ixT fa fb):= .mk fun ρ=>
 PE.imp (KA xN (ha ρ) (hb ρ) hs) fun σ H Q ⟨B,I,q⟩=>step I q fun t v H1 _ s1 r1 I1 q1=>step I1 q1 fun t' v' H2 _ s2 r2 I2 q2=>by
  have r1:=r1.mono (zW.ge I1.sB s2)
  cases r2 with
  | int i=>
   cases r1 with
   | @tup _ xs ts h r=>
    have q2:Po Y rC _ H2 (atT ts i) Q:=q2
    unfold atT at q2
    split at q2
    ·rename_i t' e
     obtain ⟨w,e1,e2⟩:=yt r e
     exact .inr (.inl ⟨_,xs,i,w,rfl,rfl,SqT.of (I2.sB _ _ h),e1,po0 I2.sB q2 rfl e2⟩)
    ·exact q2.elim
   | @lst _ xs ts h r=>
    have q2:Po Y rC _ H2 (atT ts i) Q:=q2
    unfold atT at q2
    split at q2
    ·rename_i t' e
     obtain ⟨w,e1,e2⟩:=yt r e
     exact .inl ⟨_,xs,i,w,rfl,rfl,SqL.of (I2.sB _ _ h),e1,po0 I2.sB q2 rfl e2⟩
    ·exact q2.elim
   | @fz _ _ xs ts h r=>
    have q2:Po Y rC _ H2 (atT ts i) Q:=q2
    unfold atT at q2
    split at q2
    ·rename_i t' e
     obtain ⟨w,e1,e2⟩:=yt r e
     exact .inl ⟨_,xs,i,w,rfl,rfl, .inl (.inr ⟨_,I2.sB _ _ h⟩),e1,po0 I2.sB q2 rfl e2⟩
    ·exact q2.elim
   | str z=>
    have q2:Po Y rC _ H2 (if z.length<=bnd then match atI z.cps.toList i with | some c=> .ok (.str ⟨#[c]⟩) | none=> .bad else .bad) Q:=q2
    split at q2
    ·rename_i hb
     split at q2
     ·rename_i c e
      exact .inr (.inr ⟨z,i,c,rfl,rfl,ZK hb,e,po0 I2.sB q2 rfl (.str _)⟩)
     ·exact q2.elim
    ·exact q2.elim
   | _=>exact q2.elim
  | _=>cases r1 <;> exact q2.elim
structure Qo (X:Cx) (Y:Fx) (e:Option Expr) (f:En->R (Option Int)):Prop where
 mk ::
 go:∀ ρ,PO X e (tS Y rE f ρ)
instance {X:Cx} {Y:Fx} {e:Option Expr} {f:En->R (Option Int)}:CoeFun (Qo X Y e f) fun _=>∀ ρ,PO X e (tS Y rE f ρ):=⟨Qo.go⟩
def noO:En->R (Option Int):=fun _=> .ok none
def Zr (fa:En->R T):En->R (Option Int):=fun ρ=>(fa ρ).bind fun t=>match t with
 | .int i=> .ok (some i)
 | _=> .bad
theorem PO.imp {e:Option Expr} {t t' :TO} (h:PO X e t) (i:∀ σ H Q,t' σ H Q->t σ H Q):PO X e t' :=fun pins s σ H Q I q=>h pins s σ H Q I (i σ H Q q)
theorem wm:Qo X Y none noO:= .mk fun ρ=>PO.imp vo fun σ H Q ⟨B,I,q⟩=>j0 I q rfl
theorem jJ (ha:Snd X Y a fa):Qo X Y (some a) (Zr fa):= .mk fun ρ=>PO.imp (vp (ha ρ)) fun σ H Q ⟨B,I,q⟩=>step I q fun t v H1 _ s1 r1 I1 q1=>by
 cases r1 with
 | int i=>exact ⟨i,rfl,j0 I1 q1 rfl⟩
 | _=>exact q1.elim
def cut (xs:List T) (lo hi:Option Int):List T:=(xs.drop (HT.sIx xs.length 0 lo)).take (HT.sIx xs.length xs.length hi - HT.sIx xs.length 0 lo)
def slT (t:T) (lo hi:Option Int):R T:=match t with
 | .tup xs=> .ok (.tup (cut xs lo hi))
 | .lst xs=> .ok (.lst (cut xs lo hi))
 | _=> .bad
def slE (fa:En->R T) (fl fh:En->R (Option Int)):En->R T:=fun ρ=>(fa ρ).bind fun t=>(fl ρ).bind fun lo=>(fh ρ).bind fun hi=>slT t lo hi
theorem yu {H:Hp} {xs:List V} {ts:List T} {lo hi:Option Int} (r:zR H xs ts):zR H (Qk xs lo hi) (cut ts lo hi):=by
 unfold Qk cut
 rw [r.length]
 exact (r.drop _).take _
theorem J9 {prog:Program} {w:World} {A:Around} {E:Value->Shared->Prop} {s:Shared} {t sl:Addr} {items:Array Value} {vl vu:Value} {lo hi:Option Int} {Q:Value->Shared->Prop} (ht:IsTup s.heap t items) (hs:s.heap.IsSliceOf sl vl vu .none) (pl:IsPart vl lo) (pu:IsPart vu hi)
  (hw:HT.sIx items.size 0 lo=0/\HT.sIx items.size items.size hi=items.size) (h:Q (.ref t) s):wpAny (model prog w) A (getItem (.ref t) (.ref sl)) Q E s:=by
 obtain ⟨os,hos,hcs,hds⟩:=id hs
 have hTs:s.TypeIs (.ref sl) "slice":=⟨os,hos,hcs⟩
 unfold getItem
 try with_reducible refine wpAny_holding ?_
 first | refine wpAny_bind (wpAny_pure ?_) | skip
 refine wpAny_bind (wpAny_sequenceKey ht.typeIs (by decide) ?_)
 refine wpAny_bind (wpAny_callSpecial?_slot (name:=Str.ofString "__getitem__") ht.typeIs PyProof.Rows.slot_tuple_getitem
  (wpAny_call_entry PyProof.Rows.slot_tuple_getitem ht.typeIs entry_tuple_getitem ?_ (args_tuple_getitem _ _)))
 show wpAny _ _ (Builtin.Tuple.tupleItemsOf (.ref t) >>= _) _ _ s
 refine wpAny_bind (tupleItemsOf_ ht ?_)
 refine wpAny_bind (wpAny_typeOf hTs ?_)
 rw [if_pos (by decide)]
 refine wpAny_bind (HT.sliceApplied_gen hs pl pu ?_)
 have hyes:(((HT.sIx items.size 0 lo:Nat):Int) == 0 && (1:Int) == 1 && (HT.sIx items.size items.size hi - HT.sIx items.size 0 lo) == items.size)=true:=by
  rw [hw.1,hw.2]; simp
 show wpAny _ _ (if (((HT.sIx items.size 0 lo:Nat):Int) == 0 && (1:Int) == 1 && (HT.sIx items.size items.size hi - HT.sIx items.size 0 lo) == items.size)=true then _ else _) _ _ s
 rw [if_pos hyes]
 unfold Builtin.Tuple.tupleIsExact
 refine wpAny_bind (wpAny_bind (wpAny_typeOf ht.typeIs (wpAny_pure ?_)))
 rw [if_pos (by decide)]
 exact wpAny_bind (wpAny_rule (wpAny_pure ⟨_,rfl,wpAny_pure h⟩))
theorem Us:SlR X (fun x lo hi H Q=>∃ a xs,x= .ref a/\SqT X.K H a xs/\(HT.sIx xs.length 0 lo=0/\HT.sIx xs.length xs.length hi=xs.length)/\Q (.ref a) H):=by
 intro pins s σ H x v vl vu lo hi sl Q I rx hs pl pu h
 obtain ⟨a,xs,rfl,hx,hw,q⟩:=h
 obtain rfl:v=Value.ref a:=rx
 obtain ⟨its,r,ht,hz⟩:=I.tuple hx
 have hlen:its.toArray.size=xs.length:=by rw [List.size_toArray]; exact r.length.symm
 refine ⟨"tuple",_,PyProof.Rows.slot_tuple_getitem.lookup,ht.typeIs, ?_⟩
 exact J9 ht hs pl pu (by rw [hlen]; exact hw) ⟨.ref a,H,I,rfl,q⟩
theorem vS {xs:List T} {lo hi:Option Int} (h1:HT.sIx xs.length 0 lo=0) (h2:HT.sIx xs.length xs.length hi=xs.length):cut xs lo hi=xs:=by
 unfold cut
 rw [h1,h2]; simp
theorem JI {lo hi:Option Expr} {fl fh:En->R (Option Int)} {p2:Pos} (ha:Snd X Y a fa) (hl:Qo X Y lo fl) (hh:Qo X Y hi fh):Snd X Y (.Subscript a (.Slice lo hi none p2) pos) (slE fa fl fh):= .mk fun ρ=>
 PE.imp (uu (xK.or (Us.or vw)) (ha ρ) (hl ρ) (hh ρ)) fun σ H Q ⟨B,I,q⟩=>step I q fun t v H1 _ s1 r1 I1 q1=>step I1 q1 fun l l' H2 _ s2 el I2 q2=>step I2 q2 fun h h' H3 _ s3 eh I3 q3=>by
  have el' :l' =l:=el
  have eh' :h' =h:=eh
  subst el' eh'
  have r1:=r1.mono ((zW.ge I1.sB s2).trans (zW.ge I2.sB s3))
  cases r1 with
  | @tup _ xs ts hx r=>
   have q3:Po Y rC _ H3 (.ok (.tup (cut ts l' h'))) Q:=q3
   by_cases hw:HT.sIx xs.length 0 l' =0/\HT.sIx xs.length xs.length h' =xs.length
   ·refine .inr (.inl ⟨_,xs,rfl,SqT.of (I3.sB _ _ hx),hw,po0 I3.sB q3 rfl ?_⟩)
    rw [r.length] at hw
    rw [vS hw.1 hw.2]
    exact .tup hx r
   ·exact .inl ⟨_,xs,rfl,SqT.of (I3.sB _ _ hx),hw,fun p hp=>x6 I3.sB q3 rfl (yu r) hp⟩
  | @lst _ xs ts hx r=>
   have q3:Po Y rC _ H3 (.ok (.lst (cut ts l' h'))) Q:=q3
   exact .inr (.inr ⟨_,xs,rfl,SqL.of (I3.sB _ _ hx),fun p hp=>ky I3.sB q3 rfl (yu r) hp⟩)
  | _=>exact q3.elim
def Wp (t t' :T):R T:=match t,t' with
 | .int i, .int j=> .ok (.int (if j < i then j else i))
 | _,_=> .bad
theorem Qp (hc:X.calm=true) (gl:Gl X "min") (mg:X.mg "min"=none) (ha:Snd X Y a fa) (hb:Snd X Y b fb)
  (hs:starEach [a,b] X.env=[(false,eval a X.env),(false,eval b X.env)]:=by exact st2 rfl rfl) (hs2:starEach [b] X.env=[(false,eval b X.env)]:=by exact st1 rfl):
  Snd X Y (.Call (.Name "min" p) [a,b] [] pos) (zf Wp fa fb):= .mk fun ρ=>
 PE.imp (Jo (y7 hc) gl mg PyProof.Rows.Boot.«min» (zD (ha ρ) (zD (hb ρ) Z8 hs2) (by rw [hs,hs2])) (by decide) (by decide) (by rw [hs,hs2]) (by rw [hs2]; rfl)) fun σ H Q ⟨B,I,q⟩=>
  step I q fun t v H1 _ s1 r1 I1 q1=>step I1 q1 fun t' v' H2 _ s2 r2 I2 q2=>by
   cases r1 with
   | int i=>
    cases r2 with
    | int j=>exact ⟨i,j,rfl,po0 I2.sB q2 rfl (.int _)⟩
    | _=>exact q2.elim
   | _=>cases r2 <;> exact q2.elim
def WT:List T->Option Bool
 | []=>some true
 | .bl k :: r=>match WT r with | some j=>some (k && j) | none=>none
 | _ :: _=>none
def qy:T->R T
 | .lst ts=>match WT ts with | some k=> .ok (.bl k) | none=> .bad
 | _=> .bad
theorem yv:∀ {H:Hp} {xs:List V} {ts:List T} {its:List Value} {k:Bool},zR H xs ts->Ze xs its->WT ts=some k->∃ tr:Nat->Bool,(∀ i v,its[i]? =some v->v=Value.bool (tr i))/\(List.range its.length).all tr=k
 | _,_,_,_,k, .nil, .nil,h=>by
  have h' :some true=some k:=h
  cases h'
  exact ⟨fun _=>true,fun i v e=>by simp at e,rfl⟩
 | H,_,_,_,k, .cons (v:=x) (t:=t) r rs, .cons (b:=u) rv vs,h=>by
  cases r with
  | bl b=>
   unfold WT at h
   split at h
   ·rename_i j e
    cases h
    obtain ⟨tr,h1,h2⟩:=yv rs vs e
    obtain rfl:u=Value.bool b:=rv
    refine ⟨fun i=>match i with | 0=>b | i+1=>tr i,fun i v e=> ?_, ?_⟩
    ·cases i with
     | zero=>simp at e; exact e.symm
     | succ i=>exact h1 i v (by simpa using e)
    ·rw [List.length_cons,List.range_succ_eq_map,List.all_cons,List.all_map,← h2]
     rfl
   ·cases h
  | _=>cases h
theorem yw (hh:X.A.handled=none):ZS X (.builtin "all") (fun vs H Q=>∃ l xs ts k,vs=[.ref l]/\H l=some (.lst xs)/\zR H xs ts/\WT ts=some k/\Q (.bl k) H):=by
 intro pins s σ H vs us Q I rv h
 obtain ⟨l,xs,ts,k,rfl,hl,r,hk,q⟩:=h
 obtain ⟨u,rfl,ru⟩:=ZT rv
 obtain rfl:u=Value.ref l:=ru
 obtain ⟨its,rv,p,_⟩:=zX I (.inl hl) r
 obtain ⟨tr,h1,h2⟩:=yv r rv hk
 refine call_all_walk (wpAny_pyIter_list p ?_)
 have hlt:l < s.heap.objs.size:=I.hok.lt hl
 have old:∀ b o,s.heap.get? b=some o->(s.heap.push { cls:= .type "list_iterator",data:= .fields #[.ref l, .int 0 0] }).get? b=some o:=fun b o e=>Heap.get?_push_of_some _ e
 refine ⟨s.heap.objs.size,_,_,_,_,_,tr,rfl,Walks.list (A:=X.A.in1) hh s.heap.objs.size l (Nat.ne_of_lt hlt) its.toArray, ?_, ?_,fun h' tk hk' => ?_⟩
 ·refine ⟨?_,p.at fun o e=>old _ o e⟩
  exact ⟨_,Heap.get?_push_size _ rfl,rfl,rfl⟩
 ·intro i v s' Q' E' hi hq
  rw [h1 i v (by simpa using hi)]
  exact wpAny_truthy_bool hq
 ·rw [List.size_toArray,h2]
  refine ⟨.bl k,H,I.kept (t' :=tk) (fun b o e=>hk' b o ?_ (old b o e)),rfl,q⟩
  simp
  exact Nat.ne_of_lt (Heap.lt_size e)
theorem qz (hh:X.A.handled=none) (gl:Gl X "all") (mg:X.mg "all"=none) (ha:J6 X Y a fa) (hs:St1 X a:=by exact st1 rfl):Snd X Y (.Call (.Name "all" p) [a] [] pos) (ap1 qy fa):=
 uC (yw hh) (fun v t B H Q r sB q=>by
  cases r with
  | @lst l xs ts h r=>
   have q:Po Y rC B H (match WT ts with | some k=> .ok (.bl k) | none=> .bad) Q:=q
   split at q
   ·rename_i k e
    exact ⟨l,xs,ts,k,rfl,h,r,e,po0 sB q rfl (.bl k)⟩
   ·exact q.elim
  | _=>exact q.elim) gl mg PyProof.Rows.Boot.«all» ha hs
end
inductive RS where
 | nx (ρ:En) | rt (t:T) | bk (ρ:En) | ct (ρ:En) | ex (c:Nat) | bad | rf (ts:List T)
def R.s {α:Type} (r:R α) (k:α->RS):RS:=match r with
 | .ok a=>k a
 | .ex c=> .ex c
 | .bad=> .bad
def PoS (Y:Fx) (B:Hp) (r:RS) (D:qe):Prop:=match r with
 | .nx ρ' =>∀ σ' H' B',zK B B' ->SI Y B' ρ' σ' H' ->D.nx σ' H'
 | .rt t=>∀ v H',zK Y.H0 H' ->Rep (zW Y.B0 Y.H0 H') v t->D.rt v H'
 | .bk ρ' =>∀ σ' H' B',zK B B' ->SI Y B' ρ' σ' H' ->D.bk σ' H'
 | .ct ρ' =>∀ σ' H' B',zK B B' ->SI Y B' ρ' σ' H' ->D.ct σ' H'
 | .ex c=>XP Y B c
 | .bad=>False
 | .rf ts=>∀ a xs H' B',zK Y.H0 H' ->Y.H0 a=none->H' a=some (.lst xs)->zR B' xs ts->B' a=none->zK B' (zW Y.B0 Y.H0 H')->D.rt (.ref a) H'
theorem PoS.up {Y:Fx} {B B' :Hp} {r:RS} {D:qe} (s:zK B B') (h:PoS Y B r D):PoS Y B' r D:=by
 cases r with
 | nx ρ=>exact fun σ' H' B2 s2 I=>h σ' H' B2 (s.trans s2) I
 | bk ρ=>exact fun σ' H' B2 s2 I=>h σ' H' B2 (s.trans s2) I
 | ct ρ=>exact fun σ' H' B2 s2 I=>h σ' H' B2 (s.trans s2) I
 | rt t=>exact h
 | rf t=>exact h
 | ex c=>exact fun d H' s0 sB=>h d H' s0 (s.trans sB)
 | bad=>exact h
def tSS (Y:Fx) (f:En->RS) (ρ:En):TS:=fun D σ H=>∃ B,SI Y B ρ σ H/\PoS Y B (f ρ) D
structure W6 (X:Cx) (Y:Fx) (e:Stmt) (f:En->RS):Prop where
 mk ::
 go:∀ ρ,PS X e (tSS Y f ρ)
instance {X:Cx} {Y:Fx} {e:Stmt} {f:En->RS}:CoeFun (W6 X Y e f) fun _=>∀ ρ,PS X e (tSS Y f ρ):=⟨W6.go⟩
structure Ut (X:Cx) (Y:Fx) (e:List Stmt) (f:En->RS):Prop where
 mk ::
 go:∀ ρ,PSs X e (tSS Y f ρ)
instance {X:Cx} {Y:Fx} {e:List Stmt} {f:En->RS}:CoeFun (Ut X Y e f) fun _=>∀ ρ,PSs X e (tSS Y f ρ):=⟨Ut.go⟩
theorem w4 {α β:Type} {Y:Fx} {rel:Hp->Hp->β->α->Prop} {f:En->R α} {k:α->RS} {ρ:En} {B:Hp} {σ:Sg} {H:Hp} {D:qe} {K:β->Hp->Prop}
  (I:SI Y B ρ σ H) (h:PoS Y B ((f ρ).s k) D)
  (n:∀ a b H1,f ρ= .ok a->zK H H1->rel (zW B H H1) H1 b a->SI Y (zW B H H1) ρ σ H1->PoS Y (zW B H H1) (k a) D->K b H1):tS Y rel f ρ σ H K:=by
 refine ⟨B,I, ?_⟩
 cases e:f ρ with
 | bad=>rw [e] at h; exact h
 | ex c=>rw [e] at h; exact h
 | ok a=>
  rw [e] at h
  exact fun b H1 s r=>n a b H1 e s r (I.grow s) (PoS.up (zW.ge I.sB s) h)
theorem Z5 {α:Type} {xs:List α} {i j:Nat} {x y:α} (h:(xs.set i x)[j]? =some y):(j=i/\y=x)\/(j ≠ i/\xs[j]? =some y):=by
 by_cases e:j=i
 ·subst e
  by_cases hl:j < xs.length
  ·rw [List.getElem?_set_self hl] at h; exact .inl ⟨rfl,(Option.some.inj h).symm⟩
  ·rw [List.getElem?_eq_none (by rw [List.length_set]; omega)] at h; cases h
 ·rw [List.getElem?_set_ne (Ne.symm e)] at h; exact .inr ⟨e,h⟩
theorem yx {α:Type} {xs:List α} {i:Nat} {x y:α} (h:(xs.set i x)[i]? =some y):i < xs.length:=by
 by_cases hl:i < xs.length
 ·exact hl
 ·rw [List.getElem?_eq_none (by rw [List.length_set]; omega)] at h; cases h
theorem SI.setV {Y:Fx} {B:Hp} {ρ:En} {σ:Sg} {H:Hp} (I:SI Y B ρ σ H) (i:Nat) {v:V} {t:T} (r:Rep B v t):SI Y B (ρ.set i (.vl t)) (σ.set i (some v)) H where
 s0:=I.s0
 sH:=I.sH
 sB:=I.sB
 old:=I.old
 len:=by rw [List.length_set,List.length_set]; exact I.len
 vl:=fun j u h=>by
  rcases Z5 h with ⟨rfl,e⟩ | ⟨hj,h'⟩
  ·cases e
   exact ⟨v,List.getElem?_set_self (by rw [← I.len]; exact yx h),r⟩
  ·obtain ⟨w,e,rr⟩:=I.vl j u h'
   exact ⟨w,by rw [List.getElem?_set_ne (Ne.symm hj)]; exact e,rr⟩
 ow:=fun j us h=>by
  rcases Z5 h with ⟨rfl,e⟩ | ⟨hj,h'⟩
  ·cases e
  ·obtain ⟨a,xs,e,b0,h0,hh,rr,d⟩:=I.ow j us h'
   refine ⟨a,xs,by rw [List.getElem?_set_ne (Ne.symm hj)]; exact e,b0,h0,hh,rr,fun k ws hk hw=> ?_⟩
   rcases Z5 hw with ⟨rfl,e'⟩ | ⟨hk',hw'⟩
   ·cases e'
   ·rw [List.getElem?_set_ne (Ne.symm hk')]; exact d k ws hk hw'
 xc:=fun j c h=>by
  rcases Z5 h with ⟨rfl,e⟩ | ⟨hj,h'⟩
  ·cases e
  ·obtain ⟨a,e,r⟩:=I.xc j c h'
   exact ⟨a,by rw [List.getElem?_set_ne (Ne.symm hj)]; exact e,r⟩
theorem SI.newO {Y:Fx} {B:Hp} {ρ:En} {σ:Sg} {H:Hp} (I:SI Y B ρ σ H) (i:Nat) {p:Addr} {xs:List V} {ts:List T} (hp:H p=none) (r:zR B xs ts):SI Y B (ρ.set i (.ow ts)) (σ.set i (some (.ref p))) (upd H p (.lst xs)) where
 s0:=I.s0
 sH:=I.sH.trans (zK.new hp _)
 sB:=I.sB.trans (zK.new hp _)
 old:=I.old
 len:=by rw [List.length_set,List.length_set]; exact I.len
 vl:=fun j u h=>by
  rcases Z5 h with ⟨rfl,e⟩ | ⟨hj,h'⟩
  ·cases e
  ·obtain ⟨w,e,rr⟩:=I.vl j u h'
   exact ⟨w,by rw [List.getElem?_set_ne (Ne.symm hj)]; exact e,rr⟩
 ow:=fun j us h=>by
  have op:∀ k ws a,ρ[k]? =some (Sl.ow ws)->σ[k]? =some (some (V.ref a))->a ≠ p:=fun k ws a h1 h2=>by
   obtain ⟨a',xs',e,_,_,hh,_⟩:=I.ow k ws h1
   rw [e] at h2; cases h2
   exact zV hh hp
  rcases Z5 h with ⟨rfl,e⟩ | ⟨hj,h'⟩
  ·cases e
   refine ⟨p,xs,List.getElem?_set_self (by rw [← I.len]; exact yx h),I.sB.free hp,I.sH.free hp,Zb,r,fun k ws hk hw=> ?_⟩
   rcases Z5 hw with ⟨rfl,e'⟩ | ⟨hk',hw'⟩
   ·exact absurd rfl hk
   ·rw [List.getElem?_set_ne (Ne.symm hk')]
    exact fun z=>op k ws p hw' z rfl
  ·obtain ⟨a,xs',e,b0,h0,hh,rr,d⟩:=I.ow j us h'
   refine ⟨a,xs',by rw [List.getElem?_set_ne (Ne.symm hj)]; exact e,b0,h0,by rw [zH (op j us a h' e)]; exact hh,rr,fun k ws hk hw=> ?_⟩
   rcases Z5 hw with ⟨rfl,e'⟩ | ⟨hk',hw'⟩
   ·rw [List.getElem?_set_self (by rw [← I.len]; exact yx hw)]
    intro z
    exact op j us a h' e (by injection z with z; injection z with z; injection z with z; exact z.symm)
   ·rw [List.getElem?_set_ne (Ne.symm hk')]; exact d k ws hk hw'
 xc:=fun j c h=>by
  rcases Z5 h with ⟨rfl,e⟩ | ⟨hj,h'⟩
  ·cases e
  ·obtain ⟨a,e,r⟩:=I.xc j c h'
   exact ⟨a,by rw [List.getElem?_set_ne (Ne.symm hj)]; exact e,r⟩
theorem SI.chg {Y:Fx} {B:Hp} {ρ:En} {σ:Sg} {H:Hp} (I:SI Y B ρ σ H) (i:Nat) {p:Addr} {ts us:List T} {ys:List V} (hi:ρ[i]? =some (.ow ts)) (he:σ[i]? =some (some (.ref p))) (r:zR B ys us):SI Y B (ρ.set i (.ow us)) σ (upd H p (.lst ys)):=by
 obtain ⟨p',xs,e,b0,h0,hh,rr,d⟩:=I.ow i ts hi
 rw [he] at e
 cases e
 have nb:∀ b o,B b=some o->b ≠ p:=fun b o h z=>by subst z; rw [b0] at h; cases h
 have n0:∀ b o,Y.H0 b=some o->b ≠ p:=fun b o h z=>by subst z; rw [h0] at h; cases h
 refine ⟨I.s0,fun b o h=>by rw [zH (n0 b o h)]; exact I.sH b o h,fun b o h=>by rw [zH (nb b o h)]; exact I.sB b o h,I.old,by rw [List.length_set]; exact I.len,fun j u h=> ?_,fun j ws h=> ?_,fun j c h=> ?_⟩
 rotate_right
 ·rcases Z5 h with ⟨rfl,z⟩ | ⟨hj,h'⟩
  ·cases z
  ·exact I.xc j c h'
 ·rcases Z5 h with ⟨rfl,z⟩ | ⟨hj,h'⟩
  ·cases z
  ·exact I.vl j u h'
 ·rcases Z5 h with ⟨rfl,z⟩ | ⟨hj,h'⟩
  ·cases z
   refine ⟨p,ys,he,b0,h0,Zb,r,fun k vs hk hw=> ?_⟩
   rcases Z5 hw with ⟨rfl,e'⟩ | ⟨hk',hw'⟩
   ·exact absurd rfl hk
   ·exact d k vs hk hw'
  ·obtain ⟨a,xs',e,c0,g0,gg,ss,d'⟩:=I.ow j ws h'
   have hne:a ≠ p:=fun z=>by subst z; exact d j ws hj h' e
   refine ⟨a,xs',e,c0,g0,by rw [zH hne]; exact gg,ss,fun k vs hk hw=> ?_⟩
   rcases Z5 hw with ⟨rfl,e'⟩ | ⟨hk',hw'⟩
   ·rw [he]; intro z; injection z with z; injection z with z; injection z with z; exact hne z.symm
   ·exact d' k vs hk hw'
def GF:Sl->Sl
 | .ow ts=> .vl (.lst ts)
 | x=>x
def frz (ρ:En):En:=ρ.map GF
theorem SI.up {Y:Fx} {B:Hp} {ρ:En} {σ:Sg} {H:Hp} (I:SI Y B ρ σ H):zK B (zW B Y.H0 H):=fun b o h=>by
 cases q:Y.H0 b with
 | none=>rw [Zs q]; exact I.sB b o h
 | some u=>rw [Zt q]; exact h
theorem SI.frz {Y:Fx} {B:Hp} {ρ:En} {σ:Sg} {H:Hp} (I:SI Y B ρ σ H):SI Y (zW B Y.H0 H) (PV.frz ρ) σ H:=by
 have up:zK B (zW B Y.H0 H):=fun b o h=>by
  cases q:Y.H0 b with
  | none=>rw [Zs q]; exact I.sB b o h
  | some u=>rw [Zt q]; exact h
 refine ⟨I.s0,I.sH,fun b o h=> ?_,fun b o h=>by rw [Zt h]; exact I.old b o h,by unfold PV.frz; rw [List.length_map]; exact I.len,fun j t h=> ?_,fun j ts h=> ?_,fun j c h=> ?_⟩
 rotate_right
 ·unfold PV.frz at h
  rw [List.getElem?_map] at h
  cases e:ρ[j]? with
  | none=>rw [e] at h; cases h
  | some x=>
   rw [e] at h
   cases x with
   | xc d=>
    cases h
    obtain ⟨a,e1,r⟩:=I.xc j _ e
    exact ⟨a,e1,up a _ r⟩
   | un=>cases h
   | vl _=>cases h
   | ow _=>cases h
 ·cases q:Y.H0 b with
  | none=>rw [Zs q] at h; exact h
  | some u=>rw [Zt q] at h; exact I.sB b o h
 ·unfold PV.frz at h
  rw [List.getElem?_map] at h
  cases e:ρ[j]? with
  | none=>rw [e] at h; cases h
  | some x=>
   rw [e] at h
   cases x with
   | un=>cases h
   | vl u=>
    cases h
    obtain ⟨v,e1,r⟩:=I.vl j _ e
    exact ⟨v,e1,r.mono up⟩
   | ow us=>
    cases h
    obtain ⟨a,xs,e1,b0,h0,hh,rr,_⟩:=I.ow j us e
    exact ⟨.ref a,e1, .lst (by rw [Zs h0]; exact hh) (rr.mono up)⟩
   | xc _=>cases h
 ·unfold PV.frz at h
  rw [List.getElem?_map] at h
  cases e:ρ[j]? with
  | none=>rw [e] at h; cases h
  | some x=>
   rw [e] at h
   cases x with
   | un=>cases h
   | vl u=>cases h
   | ow us=>cases h
   | xc _=>cases h
theorem Qq {Y:Fx} {B H H' :Hp} (s0:zK Y.H0 H) (old:∀ b o,Y.H0 b=some o->B b=Y.B0 b) (s:zK H H') (sB:zK B H):zK (zW B H H') (zW Y.B0 Y.H0 H'):=fun b o h=>by
 cases q:H b with
 | none=>
  rw [Zs q] at h
  rw [Zs (s0.free q)]; exact h
 | some u=>
  rw [Zt q] at h
  cases z:Y.H0 b with
  | none=>rw [Zs z]; exact s b o (sB b o h)
  | some w=>rw [Zt z,← old b w z]; exact h
section
variable {X:Cx} {Y:Fx} {a b c d:Expr} {fa fb fc fd:En->R T} {pos p:Pos} {st:Stmt} {sts sts' :List Stmt} {f g:En->RS}
def nxS:En->RS:=fun ρ=> .nx ρ
def zx (f g:En->RS):En->RS:=fun ρ=>match f ρ with
 | .nx ρ' =>g ρ'
 | r=>r
theorem zz:Ut X Y [] nxS:= .mk fun ρ=>PSs.imp vf fun D σ H ⟨B,I,q⟩=>q σ H B (zK.refl B) I
theorem zk (h:W6 X Y st f):Ut X Y [st] f:= .mk fun ρ=>vg (h ρ)
theorem zh (h1:W6 X Y st f) (h2:Ut X Y sts g):Ut X Y (st :: sts) (zx f g):= .mk fun ρ=>by
 refine PSs.imp (qg (u:=fun D σ H=>∃ ρ',tSS Y g ρ' D σ H) (h1 ρ) ?_) ?_
 ·intro pins s σ H D I ⟨ρ',q⟩
  exact h2 ρ' pins s σ H D I q
 ·intro D σ H ⟨B,I,q⟩
  refine ⟨B,I, ?_⟩
  unfold zx at q
  cases e:f ρ with
  | nx ρ' =>
   rw [e] at q
   intro σ' H' B' s' I'
   exact ⟨ρ',B',I',PoS.up s' q⟩
  | rt t=>rw [e] at q; exact q
  | rf t=>rw [e] at q; exact q
  | bk ρ' =>rw [e] at q; exact q
  | ct ρ' =>rw [e] at q; exact q
  | ex c=>rw [e] at q; exact q
  | bad=>rw [e] at q; exact q
def zT (i:Nat) (fa:En->R T):En->RS:=fun ρ=>(fa ρ).s fun t=> .nx (ρ.set i (.vl t))
theorem zZ {i:Nat} {x:Str} {p' :Pos} (hN:X.N.Nodup) (hi:X.N[i]? =some x) (hx:L2.Loc X.env.scope x) (ha:Snd X Y a fa) (hs:swapsWith a (some (.Name x p')) pos.line X.env=pure false:=by rfl)
  (hf:X.fn x=true\/X.env.scope.names.lookup x=some .local:=by first | exact .inl rfl | exact .inr rfl | assumption):W6 X Y (.Assign [.Name x p'] a pos) (zT i fa):= .mk fun ρ=>
 PS.imp (UV hN hi hx (ha ρ) hs hf) fun D σ H ⟨B,I,q⟩=>w4 I q fun t v H1 _ s1 r1 I1 q1=>q1 _ _ _ (zK.refl _) (I1.setV i r1)
def uF (i:Nat) (ga:En->R (List T)):En->RS:=fun ρ=>(ga ρ).s fun ts=>if ts.length<=bnd then .nx (ρ.set i (.ow ts)) else .bad
theorem wn {i:Nat} {x:Str} {p' :Pos} {es:List Expr} {ga:En->R (List T)} (hN:X.N.Nodup) (hi:X.N[i]? =some x) (hx:L2.Loc X.env.scope x) (ha:ux X Y es ga) (hs:swapsWith (.List es p) (some (.Name x p')) pos.line X.env=pure false:=by rfl)
  (hf:X.fn x=true\/X.env.scope.names.lookup x=some .local:=by first | exact .inl rfl | exact .inr rfl | assumption):W6 X Y (.Assign [.Name x p'] (.List es p) pos) (uF i ga):= .mk fun ρ=>
 PS.imp (UV hN hi hx (Qj (ha ρ)) hs hf) fun D σ H ⟨B,I,q⟩=>w4 I q fun ts vs H1 _ s1 r1 I1 q1=>by
  split at q1
  ·rename_i hb
   exact ⟨by rw [r1.length]; exact ZK hb,fun p hp=>q1 _ _ _ (zK.refl _) (I1.newO i hp r1)⟩
  ·exact q1.elim
def zI (fa:En->R T):En->RS:=fun ρ=>(fa (frz ρ)).s fun t=> .rt t
theorem zq (ha:Snd X Y a fa):W6 X Y (.Return (some a) pos) (zI fa):= .mk fun ρ=>
 PS.imp (Qh (ha (frz ρ))) fun D σ H ⟨B,I,q⟩=>by
  refine ⟨_,I.frz, ?_⟩
  unfold zI at q
  cases e:fa (frz ρ) with
  | bad=>rw [e] at q; exact q
  | ex c=>
   rw [e] at q
   exact fun d H' s0 sG=>q d H' s0 (I.up.trans sG)
  | ok t=>
   rw [e] at q
   intro v H' s r
   have J:=I.frz
   exact q v H' (I.sH.trans s) (r.mono (Qq J.sH J.old s J.sB))
def ifS (g:En->R Bool) (f1 f2:En->RS):En->RS:=fun ρ=>(g ρ).s fun k=>if k=true then f1 ρ else f2 ρ
theorem zA {ga:En->R Bool} (hc:WS X Y c ga) (h1:Ut X Y sts f) (h2:Ut X Y sts' g):W6 X Y (.If c sts sts' pos) (ifS ga f g):= .mk fun ρ=>
 PS.imp (Kj (hc ρ) (h1 ρ) (h2 ρ)) fun D σ H ⟨B,I,q⟩=>w4 I q fun t v H1 _ s1 r1 I1 q1=>by
  have r1' :v=t:=r1
  subst r1'
  cases v with
  | true=>exact ⟨_,I1,q1⟩
  | false=>exact ⟨_,I1,q1⟩
def u2 (fa:En->R T):En->RS:=fun ρ=>(fa ρ).s fun _=> .nx ρ
theorem uG (ha:Snd X Y a fa) (hs:swapsWith a none pos.line X.env=pure false:=by rfl):W6 X Y (.Expr a pos) (u2 fa):= .mk fun ρ=>
 PS.imp (WY (ha ρ) hs) fun D σ H ⟨B,I,q⟩=>w4 I q fun t v H1 _ s1 r1 I1 q1=>q1 _ _ _ (zK.refl _) I1
def uH (i:Nat) (fa:En->R T):En->RS:=fun ρ=>match ρ[i]? with
 | some (.ow ts)=>(fa ρ).s fun t=>if ts.length < bnd then .nx (ρ.set i (.ow (ts++[t]))) else .bad
 | _=> .bad
def YW (i:Nat) (fa:En->R T):En->RS:=fun ρ=>match ρ[i]? with
 | some (.ow ts)=>(fa ρ).s fun t=>match t with
  | .lst us=>if ts.length+us.length<=bnd then .nx (ρ.set i (.ow (ts++us))) else .bad
  | _=> .bad
 | _=> .bad
theorem xT {n:Nat} (h:n < bnd):n < sizeLine:=by rw [sizeLine_eq]; exact h
theorem qA {i:Nat} {x:Str} {px pa:Pos} (hv:PE X (.Name x px) (vb i)) (ha:Snd X Y a fa) (hb:attributeBase (.Name x px) "append" X.env (eval (.Name x px) X.env)=eval (.Name x px) X.env:=by rfl) (hs:St1 X a:=by exact st1 rfl)
  (hz:(pa.endLine == p.line)=true:=by rfl) (hw:swapsWith (.Call (.Attribute (.Name x px) "append" pa) [a] [] p) none pos.line X.env=pure false:=by rfl):W6 X Y (.Expr (.Call (.Attribute (.Name x px) "append" pa) [a] [] p) pos) (uH i fa):= .mk fun ρ=>by
 have e1:(((((backTo p (starEach [a] X.env)).all fun x=> !x.fst) && (backToKw p (keywordEach [] X.env)).all fun x=>x.fst.isSome) && decide (([a].length+([]:List Keyword).length+if ([]:List Keyword).isEmpty=true then 0 else 1) < 30))=true):=by rw [hs]; rfl
 refine PS.imp (WY (Wj PySem.F.plainAttrs_list PySem.F.slot_list_append PySem.F.type_list_append Wk hv (zD (ha ρ) Z8 hs) hb e1 hz hs rfl) hw) fun D σ H ⟨B,I,q⟩=> ?_
 unfold uH at q
 split at q
 ·rename_i ts e
  obtain ⟨l,xs,e1,b0,h0,hh,rr,d⟩:=I.ow i ts e
  refine ⟨.ref l,e1, .inl ⟨rfl,_,SqL.of hh⟩, ?_⟩
  refine w4 I q fun t v H1 _ s1 r1 I1 q1=> ?_
  split at q1
  ·rename_i hb
   refine ⟨l,xs,v,rfl,rfl,s1 _ _ hh,by rw [rr.length]; exact xT hb, ?_⟩
   exact q1 _ _ _ (zK.refl _) (I1.chg i e e1 ((rr.mono (zW.ge I.sB s1)).append (.cons r1 .nil)))
  ·exact q1.elim
 ·exact q.elim
theorem vT {i:Nat} {x:Str} {px pa:Pos} (hv:PE X (.Name x px) (vb i)) (ha:Snd X Y a fa) (hb:attributeBase (.Name x px) "extend" X.env (eval (.Name x px) X.env)=eval (.Name x px) X.env:=by rfl) (hs:St1 X a:=by exact st1 rfl)
  (hz:(pa.endLine == p.line)=true:=by rfl) (hw:swapsWith (.Call (.Attribute (.Name x px) "extend" pa) [a] [] p) none pos.line X.env=pure false:=by rfl):W6 X Y (.Expr (.Call (.Attribute (.Name x px) "extend" pa) [a] [] p) pos) (YW i fa):= .mk fun ρ=>by
 have e1:(((((backTo p (starEach [a] X.env)).all fun x=> !x.fst) && (backToKw p (keywordEach [] X.env)).all fun x=>x.fst.isSome) && decide (([a].length+([]:List Keyword).length+if ([]:List Keyword).isEmpty=true then 0 else 1) < 30))=true):=by rw [hs]; rfl
 refine PS.imp (WY (Wj PySem.F.plainAttrs_list PySem.F.slot_list_extend PySem.F.type_list_extend ye hv (zD (ha ρ) Z8 hs) hb e1 hz hs rfl) hw) fun D σ H ⟨B,I,q⟩=> ?_
 unfold YW at q
 split at q
 ·rename_i ts e
  obtain ⟨l,xs,e1,b0,h0,hh,rr,d⟩:=I.ow i ts e
  refine ⟨.ref l,e1, .inl ⟨rfl,_,SqL.of hh⟩, ?_⟩
  refine w4 I q fun t v H1 _ s1 r1 I1 q1=> ?_
  cases r1 with
  | @lst b zs us hb r=>
   have q1:PoS Y _ (if ts.length+us.length<=bnd then .nx (ρ.set i (.ow (ts++us))) else .bad) D:=q1
   split at q1
   ·rename_i hl
    refine ⟨l,b,xs,zs,rfl,rfl,s1 _ _ hh,I1.sB _ _ hb,by rw [rr.length,r.length]; exact ZK hl, ?_⟩
    exact q1 _ _ _ (zK.refl _) (I1.chg i e e1 ((rr.mono (zW.ge I.sB s1)).append r))
   ·exact q1.elim
  | _=>exact q1.elim
 ·exact q.elim
end
def spP (cl:Nat->Value) (n:Nat) (g:List T->R T):Sp:=fun vs H Q E=>∃ B ts,ts.length=n/\zK B H/\zR B vs ts/\Po ⟨B,H,E,cl⟩ rC B H (g ts) Q
theorem spP.len {cl:Nat->Value} {n:Nat} {g:List T->R T} (vs:List V) (H:Hp) (Q:VK) (E:XK) (h:spP cl n g vs H Q E):vs.length=n:=by
 obtain ⟨B,ts,hl,_,r,_⟩:=h
 rw [r.length,hl]
def zc (n:Nat) (g:List T->R T) (ga:En->R (List T)):En->R T:=fun ρ=>(ga ρ).bind fun ts=>if ts.length=n then g ts else .bad
section
variable {X:Cx} {Y:Fx} {a b c d:Expr} {fa fb fc fd:En->R T} {pos p:Pos}
theorem Qr {CX:CXT} {k n:Nat} {f:Addr} {fd:FuncData} {ps:List Str} {g:List T->R T} {x:Str} {es:List Expr} {ga:En->R (List T)} (F:Zf X.prog X.w X.K X.mg X.base CX k f fd ps (spP Y.cl n g)) (hr:Jl k X.A) (gl:Gl X x) (mg:X.mg x=some (.ref f))
  (kp:PySem.W.keepIn X.K (.ref f)=true) (bd:L2.Binds X.K fd ps []) (hx:JB CX X Y.E) (ha:ux X Y (a :: es) ga) (hd:(x == ("__debug__":Str))=false:=by decide)
  (hs:starEach (a :: es) X.env=(false,eval a X.env) :: starEach es X.env:=by exact Zg rfl) (hz:((backTo pos (starEach es X.env)).any fun x=>x.fst)=false:=by exact j9 rfl):Snd X Y (.Call (.Name x p) (a :: es) [] pos) (zc n g ga):= .mk fun ρ=>
 PE.imp (vm F hr gl mg kp bd .nil hx (ha ρ) hd hs hz) fun σ H Q ⟨B,I,q⟩=>step I q fun ts vs H1 _ s1 r1 I1 q1=>by
  split at q1
  ·rename_i hn
   rw [List.append_nil]
   refine ⟨_,ts,hn,I1.sB,r1, ?_⟩
   revert q1
   cases g ts with
   | bad=>exact fun q1=>q1
   | ex c=>exact fun q1 d H' s sB=>q1 d H' (I1.sH.trans s) sB
   | ok t=>exact fun q1=>q1
  ·exact q1.elim
end
def zn:RS->R T
 | .rt t=> .ok t
 | .rf ts=> .ok (.lst ts)
 | .nx _=> .ok .non
 | .ex c=> .ex c
 | _=> .bad
def en0 (n:Nat) (ts:List T):En:=ts.map Sl.vl++List.replicate (n - ts.length) Sl.un
theorem zR.vl {H:Hp}:∀ {vs:List V} {ts:List T} {i:Nat} {t:T} {n m:Nat},zR H vs ts->(ts.map Sl.vl++List.replicate n Sl.un)[i]? =some (Sl.vl t)->∃ v:V,(vs.map some++List.replicate m none)[i]? =some (some v)/\Rep H v t
 | _,_,i,t,n,m, .nil,h=>by
  exfalso
  simp only [List.map_nil,List.nil_append] at h
  rw [List.getElem?_replicate] at h
  split at h
  ·cases h
  ·cases h
 | _,_,0,t,n,m, .cons r _,h=>by
  simp at h; subst h; exact ⟨_,rfl,r⟩
 | _,_,i+1,t,n,m, .cons _ q,h=>by
  obtain ⟨v,h1,h2⟩:=zR.vl (i:=i) (t:=t) (n:=n) (m:=m) q (by simpa using h)
  exact ⟨v,by simpa using h1,h2⟩
theorem Qs {n:Nat}:∀ {ts:List T} {i:Nat} {us:List T},(ts.map Sl.vl++List.replicate n Sl.un)[i]? =some (Sl.ow us)->False
 | [],i,us,h=>by
  simp only [List.map_nil,List.nil_append] at h
  rw [List.getElem?_replicate] at h
  split at h
  ·cases h
  ·cases h
 | t :: ts,0,us,h=>by simp at h
 | t :: ts,i+1,us,h=>Qs (ts:=ts) (i:=i) (us:=us) (n:=n) (by simpa using h)
theorem Qt {n:Nat}:∀ {ts:List T} {i:Nat} {c:Nat},(ts.map Sl.vl++List.replicate n Sl.un)[i]? =some (Sl.xc c)->False
 | [],i,us,h=>by
  simp only [List.map_nil,List.nil_append] at h
  rw [List.getElem?_replicate] at h
  split at h
  ·cases h
  ·cases h
 | t :: ts,0,us,h=>by simp at h
 | t :: ts,i+1,us,h=>Qt (ts:=ts) (i:=i) (c:=us) (n:=n) (by simpa using h)
theorem SI.start {Y:Fx} {N:List Str} {vs:List V} {ts:List T} (s:zK Y.B0 Y.H0) (r:zR Y.B0 vs ts):SI Y Y.B0 (en0 N.length ts) (L2.start N vs) Y.H0 where
 s0:=s
 sH:=zK.refl _
 sB:=s
 old:=fun _ _ _=>rfl
 len:=by unfold en0 L2.start; simp [r.length]
 vl:=fun i t h=>r.vl h
 ow:=fun i ts h=>(Qs h).elim
 xc:=fun i c h=>(Qt h).elim
section
variable {P:Program} {w:World} {K:PySem.W.Frag} {mg:Str->Option Value} {base:Heap}
theorem Z0 {cl:Nat->Value} {x qual:Str} {st:Stmt} {f:Addr} {fd:FuncData} {N ps:List Str} {k n:Nat} {fb:En->RS} {g:List T->R T} (F:Fun K x qual st f fd) (S:zm N ps (ze st)) (hn:n=ps.length)
  (hb:∀ (cdv:Value) (A:Around) (outer:List Env) (s:Shared) (H:Hp) (E:XK) (Y:Fx),Y.cl=cl->Jl k (A.deeper (envOfC qual (ze st) s.heap.objs.size f cdv))->
   Ut (JY CX0 P w K mg base N qual (ze st) f cdv A outer s H E).nox Y (ZH st) fb)
  (hg:∀ ts,ts.length=n->g ts=zn (fb (en0 N.length ts))):Zf P w K mg base CX0 (k+1) f fd ps (spP cl n g):=by
 subst hn
 refine F.ok S spP.len fun cdv A outer s H vs Q E hr ⟨B,ts,hl,sB,r,q⟩=> ?_
 refine ⟨_,hb cdv A outer s H E ⟨B,H,E,cl⟩ rfl hr (en0 N.length ts),B,SI.start (Y:=⟨B,H,E,cl⟩) sB r, ?_⟩
 rw [hg ts hl] at q
 revert q
 cases fb (en0 N.length ts) with
 | rt t=>exact fun q v H' s r=>q v H' s r
 | rf t=>exact fun q a xs H' B' s0 n e r _ l=>q (.ref a) H' s0 (.lst (by rw [Zs n]; exact e) (r.mono l))
 | nx ρ=>exact fun q σ' H' B' _ I=>q .non H' I.sH .non
 | ex c=>exact fun q=>q
 | bk ρ=>exact fun q=>q.elim
 | ct ρ=>exact fun q=>q.elim
 | bad=>exact fun q=>q
end
abbrev rI:Hp->Hp->It->List T->Prop:=fun B1 _ J ts=>∀ B2 H2,zK B1 B2->zK B2 H2->(∀ i,i < ts.length->J.go i H2)/\(∀ (i:Nat) t x H3,ts[i]? =some t->J.yld i H2 x H3->zK H2 H3/\Rep (zW B2 H2 H3) x t)/\(∀ i,ts.length<=i->J.stop i H2)
structure Uu (X:Cx) (Y:Fx) (tg iter:Expr) (f:En->R (List T)):Prop where
 mk ::
 go:∀ ρ,PI X tg iter (tS Y rI f ρ)
instance {X:Cx} {Y:Fx} {tg iter:Expr} {f:En->R (List T)}:CoeFun (Uu X Y tg iter f) fun _=>∀ ρ,PI X tg iter (tS Y rI f ρ):=⟨Uu.go⟩
section
variable {X:Cx} {Y:Fx} {a b c d tg:Expr} {fa fb fc fd:En->R T} {pos p:Pos}
theorem PI.imp {e:Expr} {t t' :TI} (h:PI X tg e t) (i:∀ σ H Q,t' σ H Q->t σ H Q):PI X tg e t' :=fun pins s σ H Q I q=>h pins s σ H Q I (i σ H Q q)
theorem xU {K:PySem.W.Frag} {B1 H1:Hp} {a:Addr} {xs:List V} {ts:List T} (h:B1 a=some (.tup xs)) (r:zR B1 xs ts):rI B1 H1 (Itt K a) ts:=fun B2 H2 s1 s2=>by
 have h2:=s2 _ _ (s1 _ _ h)
 refine ⟨fun i hi=> ?_,fun i t x H3 e y=> ?_,fun i hi=>⟨xs,SqT.of h2,by rw [r.length]; exact hi⟩⟩
 ·obtain ⟨v,e,_⟩:=r.get (List.getElem?_eq_getElem hi)
  exact ⟨xs,v,SqT.of h2,e⟩
 ·obtain ⟨rfl,y⟩:=y
  obtain ⟨v,e1,r1⟩:=r.get e
  have:=y xs (SqT.of h2)
  rw [e1] at this; cases this
  refine ⟨zK.refl _, ?_⟩
  rw [zW.self B2 _ s2]
  exact r1.mono s1
theorem xV {K:PySem.W.Frag} {B1 H1:Hp} {a:Addr} {xs:List V} {ts:List T} (h:B1 a=some (.lst xs)) (r:zR B1 xs ts):rI B1 H1 (Itl K a) ts:=fun B2 H2 s1 s2=>by
 have h2:=s2 _ _ (s1 _ _ h)
 refine ⟨fun i hi=> ?_,fun i t x H3 e y=> ?_,fun i hi=>⟨xs,SqL.of h2,by rw [r.length]; exact hi⟩⟩
 ·obtain ⟨v,e,_⟩:=r.get (List.getElem?_eq_getElem hi)
  exact ⟨xs,v,SqL.of h2,e⟩
 ·obtain ⟨rfl,y⟩:=y
  obtain ⟨v,e1,r1⟩:=r.get e
  have:=y xs (SqL.of h2)
  rw [e1] at this; cases this
  refine ⟨zK.refl _, ?_⟩
  rw [zW.self B2 _ s2]
  exact r1.mono s1
def rng (lo:Int) (n:Nat):List T:=(List.range n).map fun (i:Nat)=>T.int (lo+(i:Int))
theorem Qu {B1 H1:Hp} {lo:Int} {n:Nat}:rI B1 H1 (Itr lo n) (rng lo n):=fun B2 H2 s1 s2=>by
 have hl:(rng lo n).length=n:=by unfold rng; simp
 refine ⟨fun i hi=>by rw [hl] at hi; exact hi,fun i t x H3 e y=> ?_,fun i hi=>by rw [hl] at hi; exact hi⟩
 obtain ⟨rfl,rfl⟩:=y
 refine ⟨zK.refl _, ?_⟩
 unfold rng at e
 rw [List.getElem?_map] at e
 by_cases hi:i < n
 ·rw [List.getElem?_range hi] at e
  cases e
  exact .int _
 ·rw [List.getElem?_eq_none (by simp; omega)] at e; cases e
def ZY (fa:En->R T):En->R (List T):=fun ρ=>(fa ρ).bind fun t=>match t with
 | .int j=>if -1000000 < j/\j < 1000000 then .ok (rng 0 j.toNat) else .bad
 | _=> .bad
def Jn (fa fb:En->R T):En->R (List T):=fun ρ=>(fa ρ).bind fun t=>(fb ρ).bind fun t' =>match t,t' with
 | .int i, .int j=>if -1000000 < i/\i < 1000000/\ -1000000 < j/\j < 1000000 then .ok (rng i (j - i).toNat) else .bad
 | _,_=> .bad
theorem wo (gl:Gl X "range") (mg:X.mg "range"=none) (ha:Snd X Y a fa) (hs:St1 X a:=by exact st1 rfl):Uu X Y tg (.Call (.Name "range" p) [a] [] pos) (ZY fa):= .mk fun ρ=>PI.imp (UX gl mg (zD (ha ρ) Z8 hs) hs) fun σ H R ⟨B,I,q⟩=>step I q fun t v H1 _ s1 r1 I1 q1=>by
 cases r1 with
 | int j=>
  have q1:Po Y rI _ H1 (if -1000000 < j/\j < 1000000 then .ok (rng 0 j.toNat) else .bad) R:=q1
  split at q1
  ·rename_i hj
   exact ⟨j,rfl,by omega,by omega,j0 I1 q1 Qu⟩
  ·exact q1.elim
 | _=>exact q1.elim
theorem Qv (gl:Gl X "range") (mg:X.mg "range"=none) (ha:Snd X Y a fa) (hb:Snd X Y b fb) (hs:starEach [a,b] X.env=[(false,eval a X.env),(false,eval b X.env)]:=by exact st2 rfl rfl) (hs2:St1 X b:=by exact st1 rfl):Uu X Y tg (.Call (.Name "range" p) [a,b] [] pos) (Jn fa fb):= .mk fun ρ=>
 PI.imp (UY gl mg (zD (ha ρ) (zD (hb ρ) Z8 hs2) (by rw [hs,hs2])) hs hs2) fun σ H R ⟨B,I,q⟩=>step I q fun t v H1 _ s1 r1 I1 q1=>step I1 q1 fun t' v' H2 _ s2 r2 I2 q2=>by
  cases r1 with
  | int i=>
   cases r2 with
   | int j=>
    have q2:Po Y rI _ H2 (if -1000000 < i/\i < 1000000/\ -1000000 < j/\j < 1000000 then .ok (rng i (j - i).toNat) else .bad) R:=q2
    split at q2
    ·rename_i hj
     exact ⟨i,j,rfl,⟨by omega,by omega,by omega,by omega⟩,j0 I2 q2 Qu⟩
    ·exact q2.elim
   | _=>exact q2.elim
  | _=>cases r2 <;> exact q2.elim
def KH (X:Cx) (Y:Fx) (tg:Expr) (g:T->En->R En):Prop:=∃ t:TG,PG X tg t/\∀ B ρ σ H v x Q,SI Y B ρ σ H->Rep B v x->(match g x ρ with | .ok ρ' =>∀ σ',SI Y B ρ' σ' H->Q σ' H | _=>False)->t v σ H Q
def zG (i:Nat):T->En->R En:=fun t ρ=> .ok (ρ.set i (.vl t))
theorem jK {i:Nat} {x:Str} (hN:X.N.Nodup) (hi:X.N[i]? =some x) (hx:L2.Loc X.env.scope x) (hf:X.fn x=true\/X.env.scope.names.lookup x=some .local:=by first | exact .inl rfl | exact .inr rfl | assumption):KH X Y (.Name x pos) (zG i):=
 ⟨W9 i,zC hN hi hx hf,fun B ρ σ H v x Q I r q=>q _ (I.setV i r)⟩
def Za (i j:Nat):T->En->R En:=fun t ρ=>match t with
 | .tup [x,y]=> .ok ((ρ.set i (.vl x)).set j (.vl y))
 | _=> .bad
theorem xW {i j:Nat} {x y:Str} {p' p2:Pos} {k:Nat} (hc:X.calm=true) (hN:X.N.Nodup) (hi:X.N[i]? =some x) (hj:X.N[j]? =some y) (hx:L2.Loc X.env.scope x) (hy:L2.Loc X.env.scope y)
  (hf:X.fn x=true\/X.env.scope.names.lookup x=some .local:=by first | exact .inl rfl | exact .inr rfl | assumption) (hf' :X.fn y=true\/X.env.scope.names.lookup y=some .local:=by first | exact .inl rfl | exact .inr rfl | assumption):
  KH X Y (.Tuple [.Name x pos, .Name y p'] k p2) (Za i j):=by
 refine ⟨Kl X.K 2 (UU (W9 i) (UU (W9 j) Kk)),Wa hc (ZA (zC hN hi hx hf) (ZA (zC hN hj hy hf') JA)),fun B ρ σ H v t Q I r q=> ?_⟩
 cases r with
 | @tup l xs ts h r=>
  cases r with
  | nil=>exact q.elim
  | cons r1 rr=>
   cases rr with
   | nil=>exact q.elim
   | cons r2 rr=>
    cases rr with
    | cons _ _=>exact q.elim
    | nil=>
     exact ⟨l,_,rfl,SqT.of (I.sB _ _ h),rfl,_,_,rfl,_,_,rfl,rfl,q _ ((I.setV i r1).setV j r2)⟩
 | _=>exact q.elim
def ZC (g:T->En->R En) (fb:En->RS):List T->En->RS
 | [],ρ=> .nx ρ
 | t :: ts,ρ=>match g t ρ with
  | .ok ρ1=>match fb ρ1 with
   | .nx ρ2=>ZC g fb ts ρ2
   | .ct ρ2=>ZC g fb ts ρ2
   | .bk ρ2=> .nx ρ2
   | r=>r
  | .ex c=> .bad
  | .bad=> .bad
def jV (fi:En->R (List T)) (g:T->En->R En) (fb:En->RS):En->RS:=fun ρ=>(fi ρ).s fun ts=>ZC g fb ts ρ
theorem JJ {iter:Expr} {sts:List Stmt} {fi:En->R (List T)} {g:T->En->R En} {fb:En->RS} (hp:PassesOwn (model X.prog X.w) X.A X.env X.xe) (hc:X.calm=true) (hi:Uu X Y tg iter fi) (hg:KH X Y tg g) (hb:Ut X Y sts fb)
  (hs:∀ x,foldedSetIterable iter X.env x=pure x:=by intro _; rfl):W6 X Y (.For tg iter sts [] pos) (jV fi g fb):= .mk fun ρ=>by
 obtain ⟨tG,hG,hG'⟩:=hg
 refine PS.imp (xy (tb:=fun D σ H=>∃ ρ',tSS Y fb ρ' D σ H) hp hc (hi ρ) hG (fun pins s σ H D I ⟨ρ',q⟩=>hb ρ' pins s σ H D I q) hs) fun D σ H ⟨B,I,q⟩=> ?_
 refine w4 I q fun ts J H1 _ s1 r1 I1 q1=> ?_
 refine ⟨fun i m σ' H' =>m=ts.length - i/\i<=ts.length/\∃ ρ' B',SI Y B' ρ' σ' H' /\zK (zW B H H1) B' /\PoS Y B' (ZC g fb (ts.drop i) ρ') D,⟨ts.length,by simp,Nat.zero_le _,ρ,_,I1,zK.refl _,q1⟩, ?_⟩
 rintro i m σ' H' ⟨rfl,hi,ρ',B',I',sB',q'⟩
 obtain ⟨hgo,hyld,hstop⟩:=r1 B' H' sB' I'.sB
 by_cases hlt:i < ts.length
 ·refine .inr ⟨hgo i hlt,fun σ2 H2=>∃ ρ2 B2,SI Y B2 ρ2 σ2 H2/\zK (zW B H H1) B2/\PoS Y B2 (ZC g fb (ts.drop (i+1)) ρ2) D,fun σ2 H2 ⟨ρ2,B2,I2,s2,q2⟩=>⟨ts.length - (i+1),by omega,rfl,hlt,ρ2,B2,I2,s2,q2⟩,fun x H2 y=> ?_⟩
  obtain ⟨s2,r2⟩:=hyld i _ x H2 (List.getElem?_eq_getElem hlt) y
  rw [List.drop_eq_getElem_cons hlt] at q'
  unfold ZC at q'
  refine hG' _ ρ' σ' H2 x _ _ (I'.grow s2) r2 ?_
  cases eg:g ts[i] ρ' with
  | bad=>rw [eg] at q'; exact q'
  | ex c=>rw [eg] at q'; exact q'
  | ok ρ1=>
   rw [eg] at q'
   intro σ1 J1
   refine ⟨ρ1,_,J1, ?_⟩
   have q2:=PoS.up (zW.ge I'.sB s2) q'
   dsimp only at q2
   have s3:zK (zW B H H1) (zW B' H' H2):=sB'.trans (zW.ge I'.sB s2)
   revert q2
   cases fb ρ1 with
   | nx ρ2=>exact fun q2 σ3 H3 B3 s4 I3=>⟨ρ2,B3,I3,s3.trans s4,PoS.up s4 q2⟩
   | ct ρ2=>exact fun q2 σ3 H3 B3 s4 I3=>⟨ρ2,B3,I3,s3.trans s4,PoS.up s4 q2⟩
   | bk ρ2=>exact fun q2=>q2
   | rt t=>exact fun q2=>q2
   | rf t=>exact fun q2=>q2
   | ex c=>exact fun q2=>q2
   | bad=>exact fun q2=>q2
 ·have e:i=ts.length:=by omega
  subst e
  rw [List.drop_length] at q'
  exact .inl ⟨hstop _ (Nat.le_refl _),q' σ' H' B' (zK.refl _) I'⟩
def j5 (g:En->R Bool) (fb:En->RS):Nat->En->RS
 | 0,_=> .bad
 | n+1,ρ=>(g ρ).s fun k=>if k=true then match fb ρ with
   | .nx ρ2=>j5 g fb n ρ2
   | .ct ρ2=>j5 g fb n ρ2
   | .bk ρ2=> .nx ρ2
   | r=>r
  else .nx ρ
theorem vU {n:Nat} {sts:List Stmt} {ga:En->R Bool} {fb:En->RS} (hp:PassesOwn (model X.prog X.w) X.A X.env X.xe) (hc:WS X Y c ga) (hb:Ut X Y sts fb):W6 X Y (.While c sts [] pos) (j5 ga fb n):= .mk fun ρ=>by
 refine PS.imp (qh (tc:=fun σ H Q=>∃ ρ',tS Y rE ga ρ' σ H Q) (tb:=fun D σ H=>∃ ρ',tSS Y fb ρ' D σ H) hp (fun pins s σ H D I ⟨ρ',q⟩=>hc ρ' pins s σ H D I q) (fun pins s σ H D I ⟨ρ',q⟩=>hb ρ' pins s σ H D I q)) fun D σ H ⟨B,I,q⟩=> ?_
 refine ⟨fun m σ' H' =>∃ ρ' B',SI Y B' ρ' σ' H' /\PoS Y B' (j5 ga fb m ρ') D,⟨n,ρ,B,I,q⟩, ?_⟩
 rintro m σ' H' ⟨ρ',B',I',q'⟩
 cases m with
 | zero=>exact q'.elim
 | succ m=>
  unfold j5 at q'
  refine ⟨ρ',w4 I' q' fun t v H1 _ s1 r1 I1 q1=> ?_⟩
  have r1' :v=t:=r1
  subst r1'
  cases v with
  | false=>exact q1 _ _ _ (zK.refl _) I1
  | true=>
   refine ⟨fun σ2 H2=>∃ ρ2 B2,SI Y B2 ρ2 σ2 H2/\PoS Y B2 (j5 ga fb m ρ2) D,fun σ2 H2 h=>⟨m,Nat.lt_succ_self m,h⟩,ρ',_,I1, ?_⟩
   have q1:PoS Y _ (match fb ρ' with
    | .nx ρ2=>j5 ga fb m ρ2
    | .ct ρ2=>j5 ga fb m ρ2
    | .bk ρ2=> .nx ρ2
    | r=>r) D:=q1
   revert q1
   cases fb ρ' with
   | nx ρ2=>exact fun q2 σ3 H3 B3 s4 I3=>⟨ρ2,B3,I3,PoS.up s4 q2⟩
   | ct ρ2=>exact fun q2 σ3 H3 B3 s4 I3=>⟨ρ2,B3,I3,PoS.up s4 q2⟩
   | bk ρ2=>exact fun q2=>q2
   | rt t=>exact fun q2=>q2
   | rf t=>exact fun q2=>q2
   | ex c=>exact fun q2=>q2
   | bad=>exact fun q2=>q2
end
theorem JK {env:Env}:∀ (ns:List (Str×NameKind)) (acc:List (Str×Addr)),(∀ x∈ns,x.2=NameKind.free->∃ c,env.cells.lookup x.1=some c)->(∀ x c,acc.lookup x=some c->env.cells.lookup x=some c)->
  ∃ cl,(forIn ns acc (fun (x:Str×NameKind) (r:List (Str×Addr))=>if (x.2 == NameKind.free)=true then (do let c ← cellOf env x.1; pure (ForInStep.yield ((x.1,c) :: r))) else pure (ForInStep.yield r)):Sem _)=pure cl/\
   (∀ x c,cl.lookup x=some c->env.cells.lookup x=some c)/\(∀ x c,acc.lookup x=some c->∃ c',cl.lookup x=some c')/\(∀ x∈ns,x.2=NameKind.free->∃ c,cl.lookup x.1=some c)
 | [],acc,_,h=>⟨acc,rfl,h,fun x c e=>⟨c,e⟩,fun x hx=>by simp at hx⟩
 | (n,k) :: ns,acc,hf,h=>by
  by_cases hk:k=NameKind.free
  ·obtain ⟨c,hc⟩:=hf (n,k) List.mem_cons_self hk
   have h' :∀ x d,((n,c) :: acc).lookup x=some d->env.cells.lookup x=some d:=fun x d e=>by
    by_cases hx:x=n
    ·subst hx
     have e' :some c=some d:=by simpa [List.lookup_cons] using e
     cases e'; exact hc
    ·have e' :acc.lookup x=some d:=by
      rw [List.lookup_cons,(beq_eq_false_iff_ne.mpr hx)] at e; exact e
     exact h x d e'
   obtain ⟨cl,e,h1,h2,h3⟩:=JK ns ((n,c) :: acc) (fun x hx=>hf x (List.mem_cons_of_mem _ hx)) h'
   refine ⟨cl, ?_,h1,fun x d ed=> ?_,fun x hx hxf=> ?_⟩
   ·rw [List.forIn_cons]
    subst hk
    have q:cellOf env n=pure c:=by unfold cellOf; rw [hc]
    simp only [beq_self_eq_true,if_true,q]
    exact e
   ·by_cases hx:x=n
    ·subst hx; exact h2 x c (by simp [List.lookup_cons])
    ·exact h2 x d (by rw [List.lookup_cons,(beq_eq_false_iff_ne.mpr hx)]; exact ed)
   ·rcases List.mem_cons.mp hx with rfl | hx
    ·exact h2 n c (by simp [List.lookup_cons])
    ·exact h3 x hx hxf
  ·obtain ⟨cl,e,h1,h2,h3⟩:=JK ns acc (fun x hx=>hf x (List.mem_cons_of_mem _ hx)) h
   refine ⟨cl, ?_,h1,h2,fun x hx hxf=> ?_⟩
   ·rw [List.forIn_cons]
    have q:(k == NameKind.free)=false:=by simpa using hk
    simp only [q,Bool.false_eq_true,if_false]
    exact e
   ·rcases List.mem_cons.mp hx with rfl | hx
    ·exact absurd hxf hk
    ·exact h3 x hx hxf
theorem vV {scope:Scope} {env:Env} (hf:∀ x∈scope.names,x.2=NameKind.free->∃ c,env.cells.lookup x.1=some c):
  ∃ cl,closureFor scope env=pure cl/\(∀ x c,cl.lookup x=some c->env.cells.lookup x=some c)/\(∀ x∈scope.names,x.2=NameKind.free->∃ c,cl.lookup x.1=some c):=by
 obtain ⟨cl,e,h1,_,h3⟩:=JK scope.names [] hf (fun x c e=>by simp at e)
 refine ⟨cl, ?_,h1,h3⟩
 unfold closureFor
 show (do let cs ← _; pure cs)=_
 exact (by simpa using e)
def cxC (X:Cx) (scope:Scope) (N' :List Str) (cl:List (Str×Addr)) (C:Addr) (s3:Shared) (H3:Hp) (fp:List Addr) (pins:List (Addr×Obj)):Cx:=
 { X with N:=N',s₀:=s3,H₀:=H3,env:=compEnvC scope cl C X.env,outer:=X.stack,stack:=X.stack,ex:=fp,fn:=fun _=>false,pn:=X.pn++pins,xe:=fun _ _=>False }
structure CSc (X:Cx) (scope:Scope):Prop where
 kind:scope.kind= .function
 nocell:∀ x∈scope.names,x.2 ≠ .cell
 loc:∀ x∈scope.names,x.2= .local->scope.names.lookup x.1=some .local
 fre:∀ x∈scope.names,x.2= .free->X.env.kindOf x.1=some .cell\/X.env.kindOf x.1=some .free
theorem jW {scope:Scope} {env:Env} {x:Str} {k:NameKind} (h:(relabel scope env).names.lookup x=some k) (hk:k= .cell\/k= .free) (hn:∀ x∈scope.names,x.2 ≠ NameKind.cell):∃ y∈scope.names,y.1=x/\y.2= .free:=by
 have go:∀ ns:List (Str×NameKind),(∀ x∈ns,x.2 ≠ NameKind.cell)->(ns.map fun (n,k)=>if (k == NameKind.free && env.scope.kind == .function && env.kindOf n == some .cell) then (n,NameKind.cell) else (n,k)).lookup x=some k->∃ y∈ns,y.1=x/\y.2= .free:=by
  intro ns
  induction ns with
  | nil=>intro _ h; simp at h
  | cons y ns ih=>
   intro hn h
   obtain ⟨n,k'⟩:=y
   by_cases hx:x=n
   ·subst hx
    refine ⟨(x,k'),List.mem_cons_self,rfl, ?_⟩
    rw [List.map_cons] at h
    by_cases hc:(k' == NameKind.free && env.scope.kind == .function && env.kindOf x == some .cell)=true
    ·rw [Bool.and_eq_true,Bool.and_eq_true] at hc
     exact eq_of_beq hc.1.1
    ·simp only [if_neg hc,List.lookup_cons,beq_self_eq_true] at h
     cases h
     rcases hk with rfl | rfl
     ·exact absurd rfl (hn _ List.mem_cons_self)
     ·rfl
   ·obtain ⟨z,hz,h1,h2⟩:=ih (fun z hz=>hn z (List.mem_cons_of_mem _ hz)) (by
     rw [List.map_cons] at h
     by_cases hc:(k' == NameKind.free && env.scope.kind == .function && env.kindOf n == some .cell)=true
     ·simp only [if_pos hc,List.lookup_cons,(beq_eq_false_iff_ne.mpr hx)] at h; exact h
     ·simp only [if_neg hc,List.lookup_cons,(beq_eq_false_iff_ne.mpr hx)] at h; exact h)
    exact ⟨z,List.mem_cons_of_mem _ hz,h1,h2⟩
 exact go scope.names hn h
section
variable {X:Cx} {pins:List (Addr×Obj)} {σ:Sg} {H:Hp} {s:Shared}
theorem yy {scope:Scope} {N' :List Str} {cl:List (Str×Addr)} {fp:List Addr} {h' :Heap} {tk:Nat} {σ' :Sg} (I:L2.Inv X pins σ H s) (S:CSc X scope) (hc:X.calm=true)
  (hcl:∀ x c,cl.lookup x=some c->X.env.cells.lookup x=some c) (hcf:∀ x∈scope.names,x.2=NameKind.free->∃ c,cl.lookup x.1=some c)
  (hfp:∀ b∈fp,W2 X pins H b) (hfo:∀ b∈fp,∃ o,s.heap.get? b=some o)
  (hns:h'.Ns s.heap.objs.size (fun _=>none)) (hk:∀ b o,s.heap.get? b=some o->h'.get? b=some o)
  (hl:σ'.length=N'.length) (hσ:∀ (i:Nat) (x:Str) (v:V),N'[i]? =some x->σ'[i]? =some (some v)->∃ j:Nat,X.N[j]? =some x/\σ[j]? =some (some v)/\Vis X.env.scope x/\(scope.names.lookup x=some .free)/\(X.env.kindOf x=some .cell\/X.env.kindOf x=some .free)):
  L2.Inv (cxC X scope N' cl s.heap.objs.size s H fp pins) [] σ' H { s with heap:=h',toks:=tk }:=by
 have stk:=I.stkSub
 have hlt:∀ b∈fp,b < s.heap.objs.size:=fun b hb=>let ⟨o,e⟩:=hfo b hb; Heap.lt_size e
 have fresh:H s.heap.objs.size=none:=I.hok.fresh (Nat.le_refl _)
 refine ⟨⟨I.ok.mod,S.kind,I.ok.glob,I.ok.blt,Nat.le_refl _,fun x y c h1 h2=>I.ok.inj x y c (hcl _ _ h1) (hcl _ _ h2),fun x hx=> ?_,fun x c h _=>(Bool.false_ne_true h).elim,fun _=>I.ok.hd hc,I.ok.frames, .inl rfl,fun b hb=> ?_,I.bs,
   Nat.le_trans I.ok.bsz I.sz,fun b o e hb=> ?_,fun b hb hb' => ?_,I.stack,I.stkFree⟩,rfl,I.bare,Un.kept hk,⟨_,hns,fun i x v h1 h2 h3=> ?_⟩,fun x c e=> ?_,fresh,fun x c e=>I.freeC x c (hcl _ _ e),fun p hp=> ?_,I.hok.kept hk,hl⟩
 ·have hx' :(relabel scope X.env).names.lookup x=some .cell\/(relabel scope X.env).names.lookup x=some .free:=hx
  obtain ⟨y,hy,rfl,hyf⟩:∃ y∈scope.names,y.1=x/\y.2= .free:=by
   rcases hx' with h | h
   ·exact jW h (.inl rfl) S.nocell
   ·exact jW h (.inr rfl) S.nocell
  exact hcf y hy hyf
 ·refine ⟨Nat.ne_of_lt (hlt b hb),fun x c e=>(hfp b hb).2.2.2.2.1 x c (hcl _ _ e)⟩
 ·rcases (hfp b hb).2.2.2.1 with h | h
  ·exact I.ok.noex b o e h
  ·exact absurd (Nat.lt_of_lt_of_le (Heap.lt_size e) (Nat.le_trans I.ok.bsz h)) (Nat.lt_irrefl _)
 ·have q:=hfp b hb
  rcases List.mem_cons.mp (stk b hb') with z | z
  ·exact q.2.1 z
  ·exact q.2.2.1 z
 ·obtain ⟨j,e1,e2,e3,e4,e5⟩:=hσ i x v h1 h2
  obtain ⟨m,hn,hloc⟩:=I.loc
  obtain ⟨u,ru,lk⟩:=hloc j x v e1 e2 e3
  refine ⟨u,ru, .inr ⟨?_, ?_⟩⟩
  ·have h3:Vis (relabel scope X.env) x:=h3
   rcases h3 with h | h | h
   ·exfalso
    have:∀ ns:List (Str×NameKind),ns.lookup x=some .free->(ns.map fun (n,k)=>if (k == NameKind.free && X.env.scope.kind == .function && X.env.kindOf n == some .cell) then (n,NameKind.cell) else (n,k)).lookup x ≠ some .local:=by
     intro ns
     induction ns with
     | nil=>intro z; simp at z
     | cons y ns ih=>
      obtain ⟨n,k⟩:=y
      intro z w
      rw [List.map_cons] at w
      by_cases hx:x=n
      ·subst hx
       have hkf:some k=some NameKind.free:=by simpa [List.lookup_cons] using z
       by_cases hcn:(k == NameKind.free && X.env.scope.kind == .function && X.env.kindOf x == some .cell)=true
       ·simp only [if_pos hcn,List.lookup_cons,beq_self_eq_true] at w; cases w
       ·simp only [if_neg hcn,List.lookup_cons,beq_self_eq_true] at w
        rw [hkf] at w; cases w
      ·have z' :ns.lookup x=some .free:=by rw [List.lookup_cons,(beq_eq_false_iff_ne.mpr hx)] at z; exact z
       refine ih z' ?_
       by_cases hcn:(k == NameKind.free && X.env.scope.kind == .function && X.env.kindOf n == some .cell)=true
       ·simp only [if_pos hcn,List.lookup_cons,(beq_eq_false_iff_ne.mpr hx)] at w; exact w
       ·simp only [if_neg hcn,List.lookup_cons,(beq_eq_false_iff_ne.mpr hx)] at w; exact w
    exact this _ e4 h
   ·exact .inl h
   ·exact .inr h
  ·rcases lk with ⟨hk',_⟩ | ⟨_,c,hc',hcell⟩
   ·rcases e5 with z | z <;> (rw [z] at hk'; cases hk')
   ·obtain ⟨c',hc2⟩:=hcf (x, .free) (PySem.mem_of_lookup e4) rfl
    have:=hcl x c' hc2
    rw [hc'] at this; cases this
    obtain ⟨o,eo,ed⟩:=hcell
    exact ⟨c,hc2,o,hk _ _ eo,ed⟩
 ·obtain ⟨v,o,eo,ed⟩:=I.cell x c (hcl _ _ e)
  exact ⟨v,o,hk _ _ eo,ed⟩
 ·have hp' :p∈X.pn++pins:=by
   have:p∈(X.pn++pins)++[]:=hp
   rwa [List.append_nil] at this
  obtain ⟨e,n,ne,nf,dc⟩:=I.pin p hp'
  refine ⟨hk _ _ e,n,Nat.ne_of_lt (Heap.lt_size e),fun hb=> ?_,dc⟩
  rcases List.mem_cons.mp (stk _ hb) with z | z
  ·exact ne z
  ·exact nf z
end
def PIf (X:Cx) (ifs:List Expr) (t:TT):Prop:=
 ∀ (pins:List (Addr×Obj)) (s:Shared) (σ:Sg) (H:Hp) (Q:Bool->Hp->Prop),L2.Inv X pins σ H s->t σ H Q->
  wpAny (model X.prog X.w) X.A (forIn ifs true fun c r=>if r=true then do let ok ← isTrue c X.env (eval c X.env); pure (ForInStep.yield ok) else pure (ForInStep.yield r)) (TP X pins σ Q) X.xe s
theorem vW {X:Cx}:PIf X [] (fun _ H Q=>Q true H):=fun _ _ σ H _ I h=>wpAny_tests_nil ⟨H,I,h⟩
theorem vX {X:Cx} {c:Expr} {t:TT} (h:PT X c t):PIf X [c] t:=fun pins s σ H Q I q=>wpAny_tests_one (h pins s σ H Q I q)
theorem wG {α:Type} {M:Model} {A:Around} {m:Sem α} {Q:α->Shared->Prop} {E E' :Value->Shared->Prop} {s:Shared} (hE:E' =fun _ _=>False) (h:wpAny M A m Q E' s):wpAny M A m Q E s:=wpAny_mono h (fun _ _ q=>q) fun e s' z=>by
 rw [hE] at z; exact z.elim
def vY (J:It) (D:Addr) (g:TG) (tt:TT) (te:TE) (fin:Sg->Hp->Prop) (W:Nat->Nat->List V->Sg->Hp->Prop):Prop:=
 ∀ i m ys σ H,W i m ys σ H->H D=some (.lst ys)/\((J.stop i H/\fin σ H)\/(J.go i H/\∀ x H2,J.yld i H x H2->g x σ H2 fun σ3 H3=>tt σ3 H3 fun k H4=>
  if k=true then te σ3 H4 fun v H5=>H5 D=some (.lst ys)/\ys.length < sizeLine/\∃ m',m' < m/\W (i+1) m' (ys++[v]) σ3 (upd H5 D (.lst (ys++[v]))) else ∃ m',m' < m/\W (i+1) m' ys σ3 H4))
theorem yz {X:Cx} (hx:X.xe=fun _ _=>False) (hc:X.calm=true) {tg iter elt:Expr} {ifs:List Expr} {scope:Scope} {pos:Pos} {J:It} {fp:List Addr} {it:Addr} {tn:Nat->Heap->Prop} (TJ:Ud X.prog X.w X.K tg J fp it tn)
  {g:TG} {tt:TT} {te:TE} (hg:PG X tg g) (ht:PIf X ifs tt) (he:PE X elt te) {D:Addr} {R:Result->Shared->Prop} {fin:Sg->Hp->Prop} (W:Nat->Nat->List V->Sg->Hp->Prop) (turn:vY J D g tt te fin W)
  (hR:∀ s σ H,L2.Inv X [] σ H s->fin σ H->R (.ok .next) s) {m0:Nat} {σ0:Sg} {H0:Hp} {s0:Shared} (w0:W 0 m0 [] σ0 H0) (I0:L2.Inv X [] σ0 H0 s0) (t0:tn 0 s0.heap) (f0:∀ b∈fp,W2 X [] H0 b):
  codeAny (model X.prog X.w) X.A (.compLoop (.ListComp elt [⟨tg,iter,ifs,0⟩] scope pos) 0 (.ref it) (.ref D) X.env) R s0:=by
 have stat:∀ {H' :Hp},(∀ b∈fp,H' b=none)->∀ b∈fp,W2 X [] H' b:=fun hn b hb=>⟨hn b hb,(f0 b hb).2⟩
 refine codeAny_loop rfl (fun n s' =>∃ i ys σ' H',L2.Inv X [] σ' H' s' /\tn i s'.heap/\(∀ b∈fp,H' b=none)/\W i n ys σ' H') (fun n s3 h3=> ?_) m0 ⟨0,[],σ0,H0,I0,t0,fun b hb=>(f0 b hb).1,w0⟩
 obtain ⟨i,ys,σ3,H3,I3,st3,fr3,w3⟩:=h3
 show wpAny _ X.A ((compTurn (.ListComp elt [⟨tg,iter,ifs,0⟩] scope pos) 0 (.ref it) (.ref D) X.env).onRaise (fun x=>do noteFrame x X.env; theTreesLotGoes x)) _ _ s3
 refine wpAny_noted ?_
 rw [compTurn_list]
 obtain ⟨hD,h⟩:=turn i n ys σ3 H3 w3
 rcases h with ⟨stop,qn⟩ | ⟨go,next⟩
 ·refine wpAny_bind (wpAny_standAt (wpAny_bind (thn (TJ.done X rfl rfl rfl hc i [] s3 σ3 H3 _ I3 (stat fr3) st3 stop) fun r s4 ⟨hr,I4⟩=> ?_)))
  subst hr
  exact wpAny_pure (hR s4 σ3 H3 I4 qn)
 ·refine wpAny_bind (wpAny_standAt (wpAny_bind (thn (TJ.item X rfl rfl rfl hc i [] s3 σ3 H3 _ I3 (stat fr3) st3 go) fun r s4 ⟨u,hr,h4⟩=> ?_)))
  subst hr
  refine wpAny_bind (thn h4 fun _ s5 ⟨x,H5,I5,r5,y5,st5,fr5⟩=> ?_)
  have I5' :=I5.pinned (stat fr5) (TJ.obj _ _ st5)
  refine wpAny_bind (wG hx (thn (hg _ s5 σ3 H5 x u _ I5' r5 (next x H5 y5)) fun _ s6 ⟨σ6,H6,I6,q6⟩=> ?_))
  have again:∀ {σ7:Sg} {H7:Hp} {s7:Shared} {ys' :List V},L2.Inv X ([]++Wb fp s5.heap) σ7 H7 s7->(∃ m',m' < n/\W (i+1) m' ys' σ7 H7)->∃ m,m < n/\∃ i ys σ' H',L2.Inv X [] σ' H' s7/\tn i s7.heap/\(∀ b∈fp,H' b=none)/\W i m ys σ' H' :=fun {σ7 H7 s7 ys'} I7 ⟨m',hm,w7⟩=>by
   refine ⟨m',hm,i+1,ys',σ7,H7,I7.unpinned,TJ.keep _ _ _ st5 fun b hb o e=>(I7.pin (b,o) (List.mem_append_right _ (List.mem_append_right _ (jB hb e)))).1,fun b hb=> ?_,w7⟩
   obtain ⟨o,e,d⟩:=TJ.obj _ _ st5 b hb
   exact (I7.pin (b,o) (List.mem_append_right _ (List.mem_append_right _ (jB hb e)))).2.1
  refine wpAny_bind (wG hx (thn (ht _ s6 σ6 H6 _ I6 q6) fun k s7 ⟨H7,I7,q7⟩=> ?_))
  cases k with
  | false=>exact wpAny_pure ⟨rfl,again I7 q7⟩
  | true=>
   refine wpAny_bind (wpAny_bind (wG hx (thn (he _ s7 σ6 H7 _ I7 q7) fun v s8 ⟨y,H8,I8,r8,hD8,hlen,q8⟩=> ?_)))
   refine wpAny_bind (wG hx (thn (Wk _ s8 σ6 H8 (.ref D) [y] (.ref D) [v] (fun _ H9=>∃ m',m' < n/\W (i+1) m' (ys++[y]) σ6 H9) I8 rfl (.cons r8 .nil) ⟨D,ys,y,rfl,rfl,hD8,hlen,q8⟩) fun w s9 ⟨_,H9,I9,_,q9⟩=> ?_))
   exact wpAny_pure (wpAny_pure ⟨rfl,again I9 q9⟩)
def Qw (k:Nat) (js:List Nat) (σ:Sg):Sg:=List.replicate k none++js.map fun j=>(σ[j]?).getD none
section
variable {X:Cx}
abbrev qB (X:Cx) (scope:Scope) (N' :List Str) (P:Cx->Prop):Prop:=∀ cl C s3 H3 fp pins,P (cxC X scope N' cl C s3 H3 fp pins)
structure KI (X:Cx) (scope:Scope) (N' :List Str) (k:Nat) (js:List Nat):Prop where
 len:N'.length=k+js.length
 cap:∀ (i j:Nat),js[i]? =some j->∃ x,N'[k+i]? =some x/\X.N[j]? =some x/\Vis X.env.scope x/\scope.names.lookup x=some .free/\(X.env.kindOf x=some .cell\/X.env.kindOf x=some .free)
theorem wH {tg iter elt:Expr} {ifs:List Expr} {scope:Scope} {pos pos' :Pos} {N' :List Str} {k:Nat} {js:List Nat} {wi:TI} {g:TG} {tt:TT} {te:TE} {use:Option (Value->Sem Unit)} (S:CSc X scope) (CP:KI X scope N' k js) (hc:X.calm=true)
  (hi:PI X tg iter wi) (hg:qB X scope N' fun XC=>PG XC tg g) (ht:qB X scope N' fun XC=>PIf XC ifs tt) (he:qB X scope N' fun XC=>PE XC elt te) {pins:List (Addr×Obj)} {σ:Sg} {H:Hp} {s:Shared} {Q:Value->Shared->Prop} {F:Addr->Hp->Prop} (I:L2.Inv X pins σ H s)
  (h:wi σ H fun J H1=>∀ D,H1 D=none->∃ W,(∃ m,W 0 m [] (Qw k js σ) (upd H1 D (.lst [])))/\vY J D g tt te (fun _ H' =>F D H') W)
  (hQ:∀ D C H' s',L2.Inv X pins σ H' s' ->F D H' ->H' C=none->(X.s₀.heap.objs.size<=C)->C ≠ X.env.locals->(∀ x c,X.env.cells.lookup x=some c->c ≠ C)->(∀ p∈X.pn++pins,p.1 ≠ C)->(∃ m,s'.heap.Ns C m)->compPost (model X.prog X.w) X.A X.xe use Q (.ref D) C (.ok .next) s')
  (hs:∀ x,foldedSetIterable iter X.env x=pure x:=by intro _; rfl):
  wpAny (model X.prog X.w) X.A (comprehension (.ListComp elt [⟨tg,iter,ifs,0⟩] scope pos) scope X.env pos' (newList []) false (eval iter X.env) use) Q X.xe s:=by
 obtain ⟨cl,ecl,hcl,hcf⟩:=vV (scope:=scope) (env:=X.env) fun x hx hf=>I.ok.has x.1 (S.fre x hx hf)
 refine wpAny_comprehension_free rfl hs ecl S.kind S.loc ?_
 refine thn (hi pins s σ H _ I h) fun v s1 h1=>thn h1 fun itv s2 h2=> ?_
 obtain ⟨it,fp,tn,J,H2,e,I2,TJ,st2,f2,q2⟩:=h2
 subst e
 refine wpAny_newObj_type ?_
 have hD:H2 s2.heap.objs.size=none:=I2.hok.fresh (Nat.le_refl _)
 have I3:L2.Inv X pins σ (upd H2 s2.heap.objs.size (.lst [])) { s2 with heap:=s2.heap.push { cls:= .type "list",data:= .seq ([]:List Value).toArray } }:=
  I2.laid (t' :=s2.toks) (fun b u e=>Heap.get?_push_of_some _ e) (Nat.le_refl _) ⟨Nat.zero_le _,[],_, .nil,Heap.get?_push_size _ rfl⟩
 obtain ⟨W,⟨m0,w0⟩,turn⟩:=q2 s2.heap.objs.size hD
 have f3:∀ b∈fp,W2 X pins (upd H2 s2.heap.objs.size (.lst [])) b:=fun b hb=>by
  obtain ⟨o,eo,_⟩:=TJ.obj _ _ st2 b hb
  exact ⟨by rw [zH (Nat.ne_of_lt (Heap.lt_size eo))]; exact (f2 b hb).1,(f2 b hb).2⟩
 have o3:∀ b∈fp,∃ o,(s2.heap.push { cls:= .type "list",data:= .seq ([]:List Value).toArray }).get? b=some o:=fun b hb=>by
  obtain ⟨o,eo,_⟩:=TJ.obj _ _ st2 b hb
  exact ⟨o,Heap.get?_push_of_some _ eo⟩
 refine wpAny_newFunctionEnv S.nocell (by intro y hy; simp at hy) (fun h4 hns4 hsb4=> ?_) S.kind
 generalize hG:s2.heap.push { cls:= .type "list",data:= .seq ([]:List Value).toArray }=G3 at I3 o3 hns4 hsb4 ⊢
 dsimp only at hns4 hsb4 ⊢
 have s3e:∃ s3:Shared,s3={ s2 with heap:=G3 }:=⟨_,rfl⟩
 obtain ⟨s3,es3⟩:=s3e
 have hh3:s3.heap=s2.heap.push { cls:= .type "list",data:= .seq ([]:List Value).toArray }:=by rw [es3,hG]
 have hg3:G3=s3.heap:=by rw [es3]
 rw [← es3] at I3
 have ht3:s2.toks=s3.toks:=by rw [es3]
 rw [hg3] at hns4 hsb4 o3
 have k4:∀ b o,s3.heap.get? b=some o->h4.get? b=some o:=fun b o e=>hsb4.extBut b o (Nat.ne_of_lt (Heap.lt_size e)) (Heap.get?_push_of_some _ e)
 have IC:=yy (N' :=N') (cl:=cl) (fp:=fp) (σ' :=Qw k js σ) (tk:=s3.toks+([]:List (Str×Value)).length) I3 S hc hcl hcf f3 o3 hns4 k4 (by unfold Qw; simp [CP.len]) (fun i x v h1 h2=>by
  unfold Qw at h2
  by_cases hik:i < k
  ·rw [List.getElem?_append_left (by simpa using hik),List.getElem?_replicate,if_pos hik] at h2
   cases h2
  ·have hk' :k<=i:=by omega
   rw [List.getElem?_append_right (by simpa using hk'),List.length_replicate,List.getElem?_map] at h2
   cases ej:js[i - k]? with
   | none=>rw [ej] at h2; cases h2
   | some j=>
    rw [ej] at h2
    obtain ⟨y,e1,e2,e3,e4,e5⟩:=CP.cap (i - k) j ej
    have:k+(i - k)=i:=by omega
    rw [this,h1] at e1
    cases e1
    refine ⟨j,e2, ?_,e3,e4,e5⟩
    have h2' :some ((σ[j]?).getD none)=some (some v):=h2
    cases ez:σ[j]? with
    | none=>rw [ez] at h2'; cases h2'
    | some z=>rw [ez] at h2'; exact congrArg some (Option.some.inj h2'))
 have TC:Ud (cxC X scope N' cl s3.heap.objs.size s3 (upd H2 s2.heap.objs.size (.lst [])) fp pins).prog (cxC X scope N' cl s3.heap.objs.size s3 (upd H2 s2.heap.objs.size (.lst [])) fp pins).w (cxC X scope N' cl s3.heap.objs.size s3 (upd H2 s2.heap.objs.size (.lst [])) fp pins).K tg J fp it tn:=TJ
 have t4:tn 0 h4:=TJ.keep _ _ _ st2 fun b hb o e=>k4 b o (by rw [hh3]; exact Heap.get?_push_of_some _ e)
 have fC:∀ b∈fp,W2 (cxC X scope N' cl s3.heap.objs.size s3 (upd H2 s2.heap.objs.size (.lst [])) fp pins) [] (upd H2 s2.heap.objs.size (.lst [])) b:=fun b hb=>by
  obtain ⟨q0,q1,q2,q3,q4,q5⟩:=f3 b hb
  obtain ⟨o,eo⟩:=o3 b hb
  refine ⟨q0,Nat.ne_of_lt (Heap.lt_size eo),fun hb' => ?_, .inl hb,fun x c e=>q4 x c (hcl _ _ e),fun p hp=> ?_⟩
  ·rcases List.mem_cons.mp (I3.stkSub b hb') with z | z
   ·exact q1 z
   ·exact q2 z
  ·exact q5 p (by
    have:p∈(X.pn++pins)++[]:=hp
    rwa [List.append_nil] at this)
 have fin:∀ (s5:Shared) (σ5:Sg) (H5:Hp),L2.Inv (cxC X scope N' cl s3.heap.objs.size s3 (upd H2 s2.heap.objs.size (.lst [])) fp pins) [] σ5 H5 s5->F s2.heap.objs.size H5->compPost (model X.prog X.w) X.A X.xe use Q (.ref s2.heap.objs.size) s3.heap.objs.size (.ok .next) s5:=fun s5 σ5 H5 I5 q5=>by
  have J5:L2.Inv X pins σ H5 s5:=I3.call' (ch:=fp) I5.os I5.base I5.hok I5.bare fun b hb=>by
   obtain ⟨q0,q1,q2,q3,q4,q5⟩:=f3 b hb
   exact ⟨q3,q1,q4,q5⟩
  refine hQ _ _ H5 s5 J5 q5 I5.free I3.sz (Nat.ne_of_gt I3.lt) (fun x c e z=> ?_) (fun p hp z=> ?_) (let ⟨m,hm,_⟩:=I5.loc; ⟨m,hm⟩)
  ·obtain ⟨v',o,eo,_⟩:=I3.cell x c e
   exact absurd (Heap.lt_size eo) (by rw [z]; exact Nat.lt_irrefl _)
  ·exact absurd (Heap.lt_size (I3.pin p hp).1) (by rw [z]; exact Nat.lt_irrefl _)
 have loop:=yz (X:=cxC X scope N' cl s3.heap.objs.size s3 (upd H2 s2.heap.objs.size (.lst [])) fp pins) (iter:=iter) (scope:=scope) (pos:=pos) (R:=compPost (model X.prog X.w) X.A X.xe use Q (.ref s2.heap.objs.size) s3.heap.objs.size) rfl hc TC (hg _ _ _ _ _ _) (ht _ _ _ _ _ _) (he _ _ _ _ _ _) W turn fin w0 IC t4 fC
 rw [es3] at loop
 exact codeAny_compStart_list loop (TJ.self _ _ _ _ _ t4 loop)
end
def zM (g:T->En->R En) (ft:En->R Bool) (fe:En->R T):List T->En->R (List T)
 | [],_=> .ok []
 | t :: ts,ρ=>(g t ρ).bind fun ρ1=>(ft ρ1).bind fun k=>if k=true then (fe ρ1).bind fun v=>(zM g ft fe ts ρ1).bind fun vs=> .ok (v :: vs) else zM g ft fe ts ρ1
def qC:Option Sl->Sl
 | some (.vl t)=> .vl t
 | _=> .un
def Wq (k:Nat) (js:List Nat) (ρ:En):En:=List.replicate k .un++js.map fun j=>qC ρ[j]?
def quiet {α:Type}:R α->R α
 | .ok a=> .ok a
 | _=> .bad
def zS (g:T->En->R En) (ft:En->R Bool) (fe:En->R T) (k:Nat) (js:List Nat) (ρ:En) (ts:List T):R (List T):=if ts.length<=bnd then quiet (zM g ft fe ts (Wq k js ρ)) else .bad
def zY (fi:En->R (List T)) (g:T->En->R En) (ft:En->R Bool) (fe:En->R T) (k:Nat) (js:List Nat):En->R T:=fun ρ=>(fi ρ).bind fun ts=>(zS g ft fe k js ρ ts).bind fun vs=> .ok (.lst vs)
def GOk (tG:TG) (g:T->En->R En):Prop:=∀ Y B ρ σ H v x Q,SI Y B ρ σ H->Rep B v x->(match g x ρ with | .ok ρ' =>∀ σ',SI Y B ρ' σ' H->Q σ' H | _=>False)->tG v σ H Q
theorem zO (i:Nat):GOk (W9 i) (zG i):=fun Y B ρ σ H v x Q I r q=>q _ (I.setV i r)
theorem Jq (K:PySem.W.Frag) (i j:Nat):GOk (Kl K 2 (UU (W9 i) (UU (W9 j) Kk))) (Za i j):=fun Y B ρ σ H v t Q I r q=>by
 cases r with
 | @tup l xs ts h r=>
  cases r with
  | nil=>exact q.elim
  | cons r1 rr=>
   cases rr with
   | nil=>exact q.elim
   | cons r2 rr=>
    cases rr with
    | cons _ _=>exact q.elim
    | nil=>exact ⟨l,_,rfl,SqT.of (I.sB _ _ h),rfl,_,_,rfl,_,_,rfl,rfl,q _ ((I.setV i r1).setV j r2)⟩
 | _=>exact q.elim
theorem SI.block {Y:Fx} {B:Hp} {ρ:En} {σ:Sg} {H H3:Hp} {D:Addr} (I:SI Y B ρ σ H) (k:Nat) (js:List Nat) (E:XK) (hD:H D=none) (o:HO):SI ⟨B,H,E,Y.cl⟩ B (Wq k js ρ) (Qw k js σ) (upd H D o) where
 s0:=I.sB
 sH:=zK.new hD _
 sB:=I.sB.trans (zK.new hD _)
 old:=fun _ _ _=>rfl
 len:=by unfold Wq Qw; simp
 vl:=fun i t h=>by
  unfold Wq at h
  unfold Qw
  by_cases hik:i < k
  ·rw [List.getElem?_append_left (by simpa using hik),List.getElem?_replicate,if_pos hik] at h; cases h
  ·have hk' :k<=i:=by omega
   rw [List.getElem?_append_right (by simpa using hk'),List.length_replicate,List.getElem?_map] at h ⊢
   cases ej:js[i - k]? with
   | none=>rw [ej] at h; cases h
   | some j=>
    rw [ej] at h
    have h' :qC ρ[j]? = .vl t:=Option.some.inj h
    unfold qC at h'
    split at h'
    ·rename_i u e
     cases h'
     obtain ⟨v,e1,r⟩:=I.vl j _ e
     exact ⟨v,by show some ((σ[j]?).getD none)=_; rw [e1]; rfl,r⟩
    ·cases h'
 ow:=fun i ts h=>by
  exfalso
  unfold Wq at h
  by_cases hik:i < k
  ·rw [List.getElem?_append_left (by simpa using hik),List.getElem?_replicate,if_pos hik] at h; cases h
  ·have hk' :k<=i:=by omega
   rw [List.getElem?_append_right (by simpa using hk'),List.length_replicate,List.getElem?_map] at h
   cases ej:js[i - k]? with
   | none=>rw [ej] at h; cases h
   | some j=>
    rw [ej] at h
    have h' :qC ρ[j]? = .ow ts:=Option.some.inj h
    unfold qC at h'
    split at h' <;> cases h'
 xc:=fun i c h=>by
  exfalso
  unfold Wq at h
  by_cases hik:i < k
  ·rw [List.getElem?_append_left (by simpa using hik),List.getElem?_replicate,if_pos hik] at h; cases h
  ·have hk' :k<=i:=by omega
   rw [List.getElem?_append_right (by simpa using hk'),List.length_replicate,List.getElem?_map] at h
   cases ej:js[i - k]? with
   | none=>rw [ej] at h; cases h
   | some j=>
    rw [ej] at h
    have h' :qC ρ[j]? = .xc c:=Option.some.inj h
    unfold qC at h'
    split at h' <;> cases h'
theorem SI.acc {Y:Fx} {B:Hp} {ρ:En} {σ:Sg} {H:Hp} {D:Addr} (I:SI Y B ρ σ H) (hb:B D=none) (h0:Y.H0 D=none) (ho:∀ (i:Nat) (ts:List T),ρ[i]? =some (Sl.ow ts)->σ[i]? ≠ some (some (V.ref D))) (o:HO):SI Y B ρ σ (upd H D o) where
 s0:=I.s0
 sH:=fun b u h=>by
  rw [zH (fun z=>by subst z; rw [h0] at h; cases h)]; exact I.sH b u h
 sB:=fun b u h=>by
  rw [zH (fun z=>by subst z; rw [hb] at h; cases h)]; exact I.sB b u h
 old:=I.old
 len:=I.len
 vl:=I.vl
 ow:=fun i ts h=>by
  obtain ⟨a,xs,e,b0,h0',hh,r,d⟩:=I.ow i ts h
  refine ⟨a,xs,e,b0,h0', ?_,r,d⟩
  rw [zH (fun z=>ho i ts h (by rw [e,z]))]; exact hh
 xc:=I.xc
def vZ (ρ:En):Prop:=∀ (i:Nat) (ts:List T),ρ[i]? ≠ some (Sl.ow ts)
theorem qD (k:Nat) (js:List Nat) (ρ:En):vZ (Wq k js ρ):=fun i ts h=>by
 unfold Wq at h
 by_cases hik:i < k
 ·rw [List.getElem?_append_left (by simpa using hik),List.getElem?_replicate,if_pos hik] at h; cases h
 ·have hk' :k<=i:=by omega
  rw [List.getElem?_append_right (by simpa using hk'),List.length_replicate,List.getElem?_map] at h
  cases ej:js[i - k]? with
  | none=>rw [ej] at h; cases h
  | some j=>
   rw [ej] at h
   have h' :qC ρ[j]? = .ow ts:=Option.some.inj h
   unfold qC at h'
   split at h' <;> cases h'
theorem wI {ρ:En} {i:Nat} {t:T} (h:vZ ρ):vZ (ρ.set i (.vl t)):=fun j ts e=>by
 rcases Z5 e with ⟨_,z⟩ | ⟨_,z⟩
 ·cases z
 ·exact h j ts z
def GNo (g:T->En->R En):Prop:=∀ t ρ ρ',vZ ρ->g t ρ= .ok ρ' ->vZ ρ'
theorem zP (i:Nat):GNo (zG i):=fun t ρ ρ' h e=>by
 cases e; exact wI h
theorem Jr (i j:Nat):GNo (Za i j):=fun t ρ ρ' h e=>by
 unfold Za at e
 split at e
 ·cases e; exact wI (wI h)
 ·cases e
section
variable {X:Cx} {Y:Fx} {tg iter elt:Expr} {ifs:List Expr} {scope:Scope} {pos pos' :Pos} {N' :List Str} {k:Nat} {js:List Nat} {fi:En->R (List T)} {tG:TG} {g:T->En->R En} {ft:En->R Bool} {fe:En->R T}
structure Uv (X:Cx) (Y:Fx) (ifs:List Expr) (f:En->R Bool):Prop where
 mk ::
 go:∀ ρ,PIf X ifs (tS Y rE f ρ)
instance {X:Cx} {Y:Fx} {ifs:List Expr} {f:En->R Bool}:CoeFun (Uv X Y ifs f) fun _=>∀ ρ,PIf X ifs (tS Y rE f ρ):=⟨Uv.go⟩
theorem PIf.imp {X:Cx} {e:List Expr} {t t' :TT} (h:PIf X e t) (i:∀ σ H Q,t' σ H Q->t σ H Q):PIf X e t' :=fun pins s σ H Q I q=>h pins s σ H Q I (i σ H Q q)
def Z2:En->R Bool:=fun _=> .ok true
theorem Zl {X:Cx}:Uv X Y [] Z2:= .mk fun ρ=>PIf.imp vW fun σ H Q ⟨B,I,q⟩=>j0 I q rfl
theorem Qx {X:Cx} {c:Expr} (h:WS X Y c ft):Uv X Y [c] ft:= .mk fun ρ=>vX (h ρ)
theorem JL {B1 H1:Hp} {σ:Sg} {ρ:En} {J:It} {ts vs:List T} {D:Addr} (hG:GOk tG g) (hN:GNo g) (I:SI Y B1 ρ σ H1) (rI' :rI B1 H1 J ts) (hl:ts.length<=bnd) (ev:zM g ft fe ts (Wq k js ρ)= .ok vs) (hD:H1 D=none) {F:Hp->Prop}
  (hF:∀ H' xs B',zK H1 H' ->H' D=some (.lst xs)->zR B' xs vs->zK B' (zW B1 H1 H')->B' D=none->zK B1 B' ->F H'):
  ∃ W,(∃ m,W 0 m [] (Qw k js σ) (upd H1 D (.lst [])))/\vY J D tG (fun σ H Q=>∃ Y' ρ',Y'.cl=Y.cl/\tS Y' rE ft ρ' σ H Q) (fun σ H Q=>∃ Y' ρ',Y'.cl=Y.cl/\tS Y' rC fe ρ' σ H Q) (fun _ H' =>F H') W:=by
 refine ⟨fun i m ys σ' H' =>m=ts.length - i/\i<=ts.length/\ys.length<=i/\H' D=some (.lst ys)/\∃ ρ' B' us ws,SI ⟨B1,H1,fun _ _ _=>False,Y.cl⟩ B' ρ' σ' H' /\vZ ρ' /\zK B1 B' /\B' D=none/\zR B' ys us/\zM g ft fe (ts.drop i) ρ' = .ok ws/\us++ws=vs,
  ⟨ts.length,by simp,Nat.zero_le _,Nat.zero_le _,Zb,_,B1,[],vs,I.block (H3:=H1) k js _ hD _,qD k js ρ,zK.refl _,I.sB.free hD, .nil,ev,rfl⟩, ?_⟩
 rintro i m ys σ' H' ⟨rfl,hi,hyl,hDl,ρ',B',us,ws,I',no',s1',bD,r',ew,eall⟩
 refine ⟨hDl, ?_⟩
 obtain ⟨hgo,hyld,hstop⟩:=rI' B' H' s1' I'.sB
 have tD:∀ H2,zK H' H2->zW B' H' H2 D=none:=fun H2 s=>by rw [Zt hDl]; exact bD
 by_cases hlt:i < ts.length
 ·refine .inr ⟨hgo i hlt,fun x H2 y=> ?_⟩
  obtain ⟨s2,r2⟩:=hyld i _ x H2 (List.getElem?_eq_getElem hlt) y
  rw [List.drop_eq_getElem_cons hlt] at ew
  unfold zM at ew
  have I2:=I'.grow s2
  refine hG _ _ ρ' σ' H2 x _ _ I2 r2 ?_
  cases eg:g ts[i] ρ' with
  | bad=>rw [eg] at ew; cases ew
  | ex c=>rw [eg] at ew; cases ew
  | ok ρ1=>
   rw [eg] at ew
   have no1:vZ ρ1:=hN _ _ _ no' eg
   intro σ1 J1
   refine ⟨⟨B1,H1,fun _ _ _=>False,Y.cl⟩,ρ1,rfl,_,J1, ?_⟩
   have ew1:(ft ρ1).bind (fun k=>if k=true then (fe ρ1).bind fun v=>(zM g ft fe (ts.drop (i+1)) ρ1).bind fun vs=> .ok (v :: vs) else zM g ft fe (ts.drop (i+1)) ρ1)= .ok ws:=ew
   cases ef:ft ρ1 with
   | bad=>rw [ef] at ew1; cases ew1
   | ex c=>rw [ef] at ew1; cases ew1
   | ok kk=>
    rw [ef] at ew1
    intro b H3 s3 eb
    have eb' :b=kk:=eb
    subst eb'
    have ew2:(if b=true then (fe ρ1).bind fun v=>(zM g ft fe (ts.drop (i+1)) ρ1).bind fun vs=> .ok (v :: vs) else zM g ft fe (ts.drop (i+1)) ρ1)= .ok ws:=ew1
    have J2:=J1.grow s3
    have hD3:H3 D=some (.lst ys):=s3 _ _ (s2 _ _ hDl)
    have bD3:zW (zW B' H' H2) H2 H3 D=none:=by rw [Zt (s2 _ _ hDl)]; exact tD H2 s2
    have sB3:zK B' (zW (zW B' H' H2) H2 H3):=(zW.ge I'.sB s2).trans (zW.ge I2.sB s3)
    cases b with
    | false=>
     have ew3:zM g ft fe (ts.drop (i+1)) ρ1= .ok ws:=ew2
     exact ⟨ts.length - (i+1),by omega,rfl,hlt,by omega,hD3,ρ1,_,us,ws,J2,no1,s1'.trans sB3,bD3,r'.mono sB3,ew3,eall⟩
    | true=>
     refine ⟨⟨B1,H1,fun _ _ _=>False,Y.cl⟩,ρ1,rfl,_,J2, ?_⟩
     have ew3:(fe ρ1).bind (fun v=>(zM g ft fe (ts.drop (i+1)) ρ1).bind fun vs=> .ok (v :: vs))= .ok ws:=ew2
     cases ee:fe ρ1 with
     | bad=>rw [ee] at ew3; cases ew3
     | ex c=>rw [ee] at ew3; cases ew3
     | ok v=>
      rw [ee] at ew3
      have ew4:(zM g ft fe (ts.drop (i+1)) ρ1).bind (fun vs=> .ok (v :: vs))= .ok ws:=ew3
      cases el:zM g ft fe (ts.drop (i+1)) ρ1 with
      | bad=>rw [el] at ew4; cases ew4
      | ex c=>rw [el] at ew4; cases ew4
      | ok ws' =>
       rw [el] at ew4
       cases ew4
       intro w H4 s4 rw4
       have hD4:H4 D=some (.lst ys):=s4 _ _ hD3
       have J3:=J2.grow s4
       have bD4:zW (zW (zW B' H' H2) H2 H3) H3 H4 D=none:=by rw [Zt hD3]; exact bD3
       have sB4:=sB3.trans (zW.ge J2.sB s4)
       refine ⟨hD4,Nat.lt_of_lt_of_le (Nat.lt_of_le_of_lt hyl hlt) (ZK hl),ts.length - (i+1),by omega,rfl,hlt,by rw [List.length_append,List.length_singleton]; omega,Zb,ρ1,_,us++[v],ws', ?_,no1,s1'.trans sB4,bD4,(r'.mono sB4).append (.cons rw4 .nil),el,by rw [List.append_assoc]; exact eall⟩
       exact J3.acc bD4 hD (fun j ts' e=>(no1 j ts' e).elim) _
 ·have e:i=ts.length:=by omega
  subst e
  refine .inl ⟨hstop _ (Nat.le_refl _), ?_⟩
  rw [List.drop_length] at ew
  cases ew
  rw [List.append_nil] at eall
  subst eall
  refine hF H' ys B' I'.sH hDl r' (fun b o h=> ?_) bD s1'
  cases q:H1 b with
  | none=>rw [Zs q]; exact I'.sB b o h
  | some u=>
   rw [Zt q]
   have z:B' b=B1 b:=I'.old b u q
   rw [← z]; exact h
structure uI (X:Cx) (Y:Fx) (tg iter elt:Expr) (ifs:List Expr) (scope:Scope) (N' :List Str) (k:Nat) (js:List Nat) (fi:En->R (List T)) (tG:TG) (g:T->En->R En) (ft:En->R Bool) (fe:En->R T):Prop where
 sc:CSc X scope
 cp:KI X scope N' k js
 cm:X.calm=true
 it:Uu X Y tg iter fi
 gt:qB X scope N' fun XC=>PG XC tg tG
 gk:GOk tG g
 gn:GNo g
 tt:∀ Y',Y'.cl=Y.cl->qB X scope N' fun XC=>Uv XC Y' ifs ft
 el:∀ Y',Y'.cl=Y.cl->qB X scope N' fun XC=>Snd XC Y' elt fe
 hs:∀ x,foldedSetIterable iter X.env x=pure x
theorem Zo (C:uI X Y tg iter elt ifs scope N' k js fi tG g ft fe):Snd X Y (.ListComp elt [⟨tg,iter,ifs,0⟩] scope pos) (zY fi g ft fe k js):= .mk fun ρ=>by
 intro pins s σ H Q I ⟨B,J,q⟩
 rw [eval_ListComp]
 refine wH (use:=none) (Q:=EP X pins σ Q) (F:=fun D H' =>Q (.ref D) H') (te:=fun σ H Q=>∃ Y' ρ',Y'.cl=Y.cl/\tS Y' rC fe ρ' σ H Q) (tt:=fun σ H Q=>∃ Y' ρ',Y'.cl=Y.cl/\tS Y' rE ft ρ' σ H Q) C.sc C.cp C.cm (C.it ρ) C.gt
  (fun cl Cx' s3 H3 fp pins pins' s σ H Q I ⟨Y',ρ',ey,q⟩=>C.tt Y' ey cl Cx' s3 H3 fp pins ρ' pins' s σ H Q I q) (fun cl Cx' s3 H3 fp pins pins' s σ H Q I ⟨Y',ρ',ey,q⟩=>C.el Y' ey cl Cx' s3 H3 fp pins ρ' pins' s σ H Q I q) I ?_ ?_ C.hs
 ·refine step J q fun ts it' H1 _ s1 r1 J1 q1=> ?_
  intro D hD
  unfold zS at q1
  split at q1
  ·rename_i hl
   cases ev:zM g ft fe ts (Wq k js ρ) with
   | bad=>rw [ev] at q1; exact q1.elim
   | ex c=>rw [ev] at q1; exact q1.elim
   | ok vs=>
    rw [ev] at q1
    refine JL C.gk C.gn J1 r1 hl ev hD fun H' xs B' s' e' r' l' b' sb' => ?_
    refine (show Po Y rC _ H1 (.ok (.lst vs)) Q from q1) (.ref D) H' s' ?_
    exact .lst (by rw [Zs hD]; exact e') (r'.mono l')
  ·exact q1.elim
 ·intro D Cc H' s' I' q' hC h0 hL hcell hpin hns
  obtain ⟨m,hm⟩:=hns
  refine ⟨m,hm,fun h' hsb=>⟨.ref D,H', ?_,rfl,q'⟩⟩
  exact I'.turned (t' :=s'.toks) (fun b o hb e=>hsb.extBut b o hb e) hC (Ne.symm hL).symm (.inr h0) hcell hpin
end
section
variable {X:Cx} {Y:Fx} {tg iter elt:Expr} {ifs:List Expr} {scope:Scope} {pos pos' :Pos} {N' :List Str} {k:Nat} {js:List Nat} {fi:En->R (List T)} {tG:TG} {g:T->En->R En} {ft:En->R Bool} {fe:En->R T}
theorem Qy {i:Nat} {x:Str} {pc p' :Pos} (C:uI X Y tg iter elt ifs scope N' k js fi tG g ft fe) (hN:X.N.Nodup) (hi:X.N[i]? =some x) (hx:L2.Loc X.env.scope x)
  (hsw:swapsWith (.ListComp elt [⟨tg,iter,ifs,0⟩] scope pc) (some (.Name x p')) pos.line X.env=pure true) (hf:X.fn x=true\/X.env.scope.names.lookup x=some .local:=by first | exact .inl rfl | exact .inr rfl | assumption):
  W6 X Y (.Assign [.Name x p'] (.ListComp elt [⟨tg,iter,ifs,0⟩] scope pc) pos) (zT i (zY fi g ft fe k js)):= .mk fun ρ=>by
 intro pins s σ H D I ⟨B,J,q⟩
 rw [exec_Assign_Name_used _ _ _ _ hsw]
 refine wpAny_bind (wpAny_standAt (wpAny_bind ?_))
 show wpAny _ X.A (do let _ ← comprehension (.ListComp elt [⟨tg,iter,ifs,0⟩] scope pc) scope X.env _ (newList []) false (eval iter X.env) (some (assign (.Name x p') X.env))) _ _ s
 refine wpAny_bind (thn (wH (use:=some (assign (.Name x p') X.env)) (Q:=fun _ s' =>SP X pins D .next s') (F:=fun D' H' =>D.nx (σ.set i (some (.ref D'))) H') (te:=fun σ H Q=>∃ Y' ρ',Y'.cl=Y.cl/\tS Y' rC fe ρ' σ H Q) (tt:=fun σ H Q=>∃ Y' ρ',Y'.cl=Y.cl/\tS Y' rE ft ρ' σ H Q) C.sc C.cp C.cm (C.it ρ) C.gt
  (fun cl Cx' s3 H3 fp pins pins' s σ H Q I ⟨Y',ρ',ey,q⟩=>C.tt Y' ey cl Cx' s3 H3 fp pins ρ' pins' s σ H Q I q) (fun cl Cx' s3 H3 fp pins pins' s σ H Q I ⟨Y',ρ',ey,q⟩=>C.el Y' ey cl Cx' s3 H3 fp pins ρ' pins' s σ H Q I q) I ?_ ?_ C.hs) fun _ s' hq=>wpAny_pure (wpAny_pure hq))
 ·have q' :PoS Y B (((fi ρ).s fun ts=>(zS g ft fe k js ρ ts).s fun vs=> .nx (ρ.set i (.vl (.lst vs))))) D:=by
   unfold zT zY at q
   revert q
   cases fi ρ with
   | bad=>exact fun q=>q
   | ex c=>exact fun q=>q
   | ok ts=>
    intro q
    have q2:PoS Y B (((zS g ft fe k js ρ ts).bind fun vs=>R.ok (T.lst vs)).s fun t=>RS.nx (List.set ρ i (Sl.vl t))) D:=q
    show PoS Y B ((zS g ft fe k js ρ ts).s fun vs=>RS.nx (List.set ρ i (Sl.vl (T.lst vs)))) D
    revert q2
    cases zS g ft fe k js ρ ts with
    | bad=>exact fun q=>q
    | ex c=>exact fun q=>q
    | ok vs=>exact fun q=>q
  refine w4 J q' fun ts it' H1 _ s1 r1 J1 q1=> ?_
  intro D' hD
  unfold zS at q1
  split at q1
  ·rename_i hl
   cases ev:zM g ft fe ts (Wq k js ρ) with
   | bad=>rw [ev] at q1; exact q1.elim
   | ex c=>rw [ev] at q1; exact q1.elim
   | ok vs=>
    rw [ev] at q1
    refine JL C.gk C.gn J1 r1 hl ev hD fun H' xs B' s' e' r' l' b' sb' => ?_
    have rr:Rep (zW (zW B H H1) H1 H') (.ref D') (.lst vs):= .lst (by rw [Zs hD]; exact e') (r'.mono l')
    exact q1 _ _ _ (zW.ge J1.sB s') ((J1.grow s').setV i rr)
  ·exact q1.elim
 ·intro D' Cc H' s' I' q' hC h0 hL hcell hpin hns
  obtain ⟨m,hm⟩:=hns
  show wpAny _ X.A (assign (.Name x p') X.env (.ref D')) _ _ s'
  refine wpAny_assign_Name (W8 (v:= .ref D') I' hN hi hx rfl (fun s'' I'' ⟨a,hsb,ha⟩=> ?_) hf)
  have hne:Cc ≠ a:=by
   rcases ha with rfl | ha
   ·exact hL
   ·exact (hcell x a ha).symm
  refine ⟨m,hm.sameBut hsb hne,fun h' hsb' =>⟨_,H', ?_,q'⟩⟩
  exact I''.turned (t' :=s''.toks) (fun b o hb e=>hsb'.extBut b o hb e) hC hL (.inr h0) hcell hpin
end
def Itc (x:Str):It:=⟨fun i _=>i < x.cps.size,fun i H v H' =>H' =H/\∃ c,x.cps[i]? =some c/\v= .str ⟨#[c]⟩,fun i _=>x.cps.size<=i⟩
theorem wp {P:Program} {w:World} {K:PySem.W.Frag} {tg:Expr} {x:Str} {t:Tok} {ty:String} (it:Addr) (hty:ty="str_ascii_iterator"\/ty="str_iterator"):Ud P w K tg (Itc x) [it] it (fun i h=>h.IsStrIter it ty x t i):=by
 have W:∀ A:Around,A.handled=none->Walks P w A it [it] [it] x.cps.size (SignAt x) (fun i h=>h.IsStrIter it ty x t i):=fun A hA=>by
  rcases hty with rfl | rfl
  ·exact Walks.strAscii hA it x t
  ·exact Walks.strWide hA it x t
 have hn:["enumerate","zip","dict_itemiterator","dict_reverseitemiterator","odict_iterator","itertools.zip_longest","itertools.pairwise"].contains ty=false:=by rcases hty with rfl | rfl <;> decide
 refine ⟨by simp,fun i h st b hb=> ?_,fun i h h' st k=> ?_, ?_, ?_,fun A i s Q E st h=> ?_⟩
 ·have e:b=it:=by simpa using hb
  subst e
  obtain ⟨o,e,c,d⟩:=st
  exact ⟨o,e,fun v z=>by rw [d] at z; cases z⟩
 ·obtain ⟨o,e,r⟩:=st
  exact ⟨o,k it (by simp) o e,r⟩
 ·intro X hP hw hK hc i pins s σ H E I hf st hg
  subst hP hw hK
  obtain ⟨f0,f1,f2,f3,f4,f5⟩:=hf it (by simp)
  refine (W X.A (I.ok.hd hc)).item i s _ _ hg st fun v h' tk hv st' kk=> ?_
  obtain ⟨c,u,hc',rfl⟩:=hv
  have I1:L2.Inv X pins σ H { s with heap:=h',toks:=tk }:=I.turned (fun b o hb e=>kk b o (by simpa using hb) e) f0 f1 f3 f4 f5
  obtain ⟨o,e,cl,d⟩:=id st'
  exact ⟨_,rfl,Ue (s:={ s with heap:=h',toks:=tk }) e cl d hn ⟨.str ⟨#[c]⟩,H,I1,⟨u,rfl⟩,⟨rfl,c,hc',rfl⟩,st',fun b hb=>(hf b hb).1⟩⟩
 ·intro X hP hw hK hc i pins s σ H E I hf st hg
  subst hP hw hK
  obtain ⟨f0,f1,f2,f3,f4,f5⟩:=hf it (by simp)
  have hx:x.cps[i]? =none:=Array.getElem?_eq_none hg
  rcases hty with rfl | rfl
  ·exact wpAny_pyNext_ascii_end (I.ok.hd hc) st hx fun h' eb=>⟨rfl,I.turned (t' :=s.toks) (fun b o hb e=>eb b o hb e) f0 f1 f3 f4 f5⟩
  ·exact wpAny_pyNext_wide_end (I.ok.hd hc) st hx fun h' eb=>⟨rfl,I.turned (t' :=s.toks) (fun b o hb e=>eb b o hb e) f0 f1 f3 f4 f5⟩
 ·rcases hty with rfl | rfl
  ·exact wpAny_pyIter_striter_ascii st h
  ·exact wpAny_pyIter_striter_wide st h
def ZP (x:Str):List T:=x.cps.toList.map fun c=>T.str ⟨#[c]⟩
theorem qE {B1 H1:Hp} {x:Str}:rI B1 H1 (Itc x) (ZP x):=fun B2 H2 s1 s2=>by
 have hl:(ZP x).length=x.cps.size:=by unfold ZP; simp
 refine ⟨fun i hi=>by rw [hl] at hi; exact hi,fun i t v H3 e y=> ?_,fun i hi=>by rw [hl] at hi; exact hi⟩
 obtain ⟨rfl,c,hc,rfl⟩:=y
 refine ⟨zK.refl _, ?_⟩
 unfold ZP at e
 rw [List.getElem?_map] at e
 have hc' :x.cps.toList[i]? =some c:=by simpa using hc
 rw [hc'] at e
 cases e
 exact .str _
section
variable {X:Cx} {Y:Fx} {a b c d tg:Expr} {fa fb fc fd:En->R T} {pos p:Pos}
theorem xX {l:Expr} {tl:TE} (hl:PE X l tl):PI X tg l (fun σ H R=>tl σ H fun x H1=>(∃ a,x= .ref a/\(((∃ xs,SqL X.K H1 a xs)/\R (Itl X.K a) H1)\/((∃ xs,SqT X.K H1 a xs)/\R (Itt X.K a) H1)))\/(∃ z,x= .str z/\R (Itc z) H1)):=by
 intro pins s σ H R I h
 refine thn (hl pins s σ H _ I h) fun v s1 ⟨x,H1,I1,r1,q1⟩=> ?_
 have ok:∀ b∈[s1.heap.objs.size],W2 X pins H1 b:=fun b hb=>by
  have e:b=s1.heap.objs.size:=by simpa using hb
  subst e
  exact I1.fpOk (Nat.le_refl _) (I1.hok.fresh (Nat.le_refl _))
 rcases q1 with ⟨a,e,q⟩ | ⟨z,e,q⟩
 ·subst e
  obtain rfl:v=Value.ref a:=r1
  rcases q with ⟨⟨xs,hq⟩,q⟩ | ⟨⟨xs,hq⟩,q⟩
  ·obtain ⟨its,rv,p,hz⟩:=I1.list hq
   exact wpAny_pyIter_list p.isList ⟨s1.heap.objs.size,[s1.heap.objs.size],_,_,H1,rfl,I1.kept (t' :=s1.toks) fun b o e=>Heap.get?_push_of_some _ e,UW a _,⟨_,Heap.get?_push_size _ rfl,rfl,rfl⟩,ok,q⟩
  ·obtain ⟨its,rv,p,hz⟩:=I1.tuple hq
   exact wpAny_pyIter_tuple (show s1.heap.IsTuple a its.toArray from p) ⟨s1.heap.objs.size,[s1.heap.objs.size],_,_,H1,rfl,I1.kept (t' :=s1.toks) fun b o e=>Heap.get?_push_of_some _ e,Uf a _,⟨_,Heap.get?_push_size _ rfl,rfl,rfl⟩,ok,q⟩
 ·subst e
  obtain ⟨t,rfl⟩:=r1
  cases ha:z.cps.all (· < 128)
  ·exact wpAny_pyIter_wide ha ⟨s1.heap.objs.size,[s1.heap.objs.size],_,_,H1,rfl,I1.kept (t' :=s1.toks) fun b o e=>Heap.get?_push_of_some _ e,wp _ (.inr rfl),⟨_,Heap.get?_push_size _ rfl,rfl,rfl⟩,ok,q⟩
  ·exact wpAny_pyIter_ascii ha ⟨s1.heap.objs.size,[s1.heap.objs.size],_,_,H1,rfl,I1.kept (t' :=s1.toks) fun b o e=>Heap.get?_push_of_some _ e,wp _ (.inl rfl),⟨_,Heap.get?_push_size _ rfl,rfl,rfl⟩,ok,q⟩
def jX:T->R (List T)
 | .lst xs=> .ok xs
 | .tup xs=> .ok xs
 | .str x=> .ok (ZP x)
 | _=> .bad
def j6 (fa:En->R T):En->R (List T):=fun ρ=>(fa ρ).bind jX
theorem ZZ (ha:Snd X Y a fa):Uu X Y tg a (j6 fa):= .mk fun ρ=>PI.imp (xX (ha ρ)) fun σ H R ⟨B,I,q⟩=>step I q fun t v H1 _ s1 r1 I1 q1=>by
 cases r1 with
 | @tup l xs ts h r=>
  exact .inl ⟨l,rfl, .inr ⟨⟨xs,SqT.of (I1.sB _ _ h)⟩,j0 I1 (show Po Y rI _ H1 (.ok ts) R from q1) (xU h r)⟩⟩
 | @lst l xs ts h r=>
  exact .inl ⟨l,rfl, .inl ⟨⟨xs,SqL.of (I1.sB _ _ h)⟩,j0 I1 (show Po Y rI _ H1 (.ok ts) R from q1) (xV h r)⟩⟩
 | str z=>exact .inr ⟨z,rfl,j0 I1 (show Po Y rI _ H1 (.ok (ZP z)) R from q1) qE⟩
 | _=>exact q1.elim
end
theorem Inv.laidT {X:Cx} {pins:List (Addr×Obj)} {σ:Sg} {H:Hp} {s:Shared} {h' :Heap} {tk:Nat} {ch:List Addr} {a:Addr} {xs:List V} (I:L2.Inv X pins σ H s) (hf:∀ b∈ch,W2 X pins H b) (k:∀ b o,b ∉ ch->s.heap.get? b=some o->h'.get? b=some o)
  (th:∀ b o,b∈ch->s.heap.get? b=some o->∃ o',h'.get? b=some o') (ha:s.heap.objs.size<=a) (new:ZF X.prog X.w (upd H a (.tup xs)) h' a (.tup xs)):L2.Inv X pins σ (upd H a (.tup xs)) { s with heap:=h',toks:=tk }:=by
 have hn:H a=none:=I.hok.fresh ha
 have nch:∀ b u,H b=some u->b ∉ ch:=fun b u e hb=>by rw [(hf b hb).1] at e; cases e
 refine I.call' (s' :={ s with heap:=h',toks:=tk }) (ch:=ch) rfl ⟨fun b o e n _ hc=>k b o hc e,fun b o e n _ hc=>⟨o.slots,k b o hc e⟩,fun b o e n _=>by rw [zH (Nat.ne_of_lt (Nat.lt_of_lt_of_le (Heap.lt_size e) ha))]; exact n,fun b o e hc=>⟨o,k b o hc e⟩,
  fun b ys e=>by rw [zH (zV e hn)]; exact e,fun b o u e=>by rw [zH (zV e hn)]; exact e,fun b ps e=>⟨#[],by rw [zH (zV e hn),e]; simp⟩⟩ (fun b u e=> ?_) I.bare fun b hb=> ?_
 ·by_cases hb:b=a
  ·subst hb; rw [Zb] at e; cases e; exact new
  ·rw [zH hb] at e
   refine (I.hok b u e).stay (fun c v hc q=> ?_) (fun c q=>by rw [zH (zV q hn)]; exact q) fun c ys q=>by rw [zH (zV q hn)]; exact q
   rcases hc with rfl | hc
   ·exact k c v (nch c u e) q
   ·exact k c v (nch c _ hc) q
 ·obtain ⟨f0,f1,f2,f3,f4,f5⟩:=hf b hb
  exact ⟨f3,f1,f4,f5⟩
def Ite (K:PySem.W.Frag) (l:Addr):It:=
 ⟨fun i H=>∃ xs x,SqL K H l xs/\xs[i]? =some x,fun i H v H' =>∃ p x,H p=none/\v= .ref p/\(∀ xs,SqL K H l xs->xs[i]? =some x)/\H' =upd H p (.tup [.int i,x]),fun i H=>∃ xs,SqL K H l xs/\xs.length<=i⟩
theorem yA {P:Program} {w:World} {K:PySem.W.Frag} {elts:List Expr} {kk:Nat} {pt:Pos} (e it l:Addr) (hei:e ≠ it) (hle:l ≠ e) (hli:l ≠ it):
  Ud P w K (.Tuple elts kk pt) (Ite K l) [e,it] e (fun i h=>(∃ old,IsEnum h e it i old)/\h.IsListIter it l i) where
 mem:=by simp
 obj:=fun i h st b hb=>by
  obtain ⟨⟨old,he⟩,o,e1,c,d⟩:=st
  rcases List.mem_cons.mp hb with rfl | hb
  ·exact ⟨_,he,fun v z=>nomatch z⟩
  ·have z:b=it:=by simpa using hb
   subst z
   exact ⟨o,e1,fun v z=>by rw [d] at z; cases z⟩
 keep:=fun i h h' st k=>by
  obtain ⟨⟨old,he⟩,hit⟩:=st
  exact ⟨⟨old,k e (by simp) _ he⟩,hit.at fun o x=>k it (by simp) o x⟩
 item:=by
  intro X hP hw hK hc i pins s σ H E I hf st hg
  subst hP hw hK
  obtain ⟨xs,x,hq,hx⟩:=hg
  obtain ⟨its,rv,p,hz⟩:=I.list hq
  obtain ⟨u,hu,ru⟩:=rv.get hx
  obtain ⟨⟨old,he⟩,hit⟩:=st
  have hi:i < its.toArray.size:=by
   have:=(List.getElem?_eq_some_iff.mp hu).1
   simpa using this
  refine (WalksT.enumerate (prog:=X.prog) (w:=X.w) (I.ok.hd hc) e it l hei hle hli its.toArray).item i s _ _ hi ⟨⟨old,he⟩,hit,p.isList⟩ fun T vals h' tk hP hT hTup hM hk=> ?_
  obtain ⟨t,y,hy,rfl⟩:=hP
  have hyu:y=u:=by
   have:its[i]? =some y:=by simpa using hy
   rw [hu] at this; exact (Option.some.inj this).symm
  subst hyu
  refine ⟨.ref T,rfl, ?_⟩
  refine (WalksT.enumerate (prog:=X.prog) (w:=X.w) (I.ok.hd hc) e it l hei hle hli its.toArray).go elts kk pt i T _ _ _ hM fun h2 hst2 hk2=> ?_
  have hTn:H T=none:=I.hok.fresh hT
  have hTne:∀ b∈[e,it],b ≠ T:=fun b hb z=>by
   obtain ⟨_,_,_,h3,h4⟩:=hM
   rcases List.mem_cons.mp hb with rfl | hb
   ·exact h3 z.symm
   ·have:b=it:=by simpa using hb
    subst this; exact h4 z.symm
  have Y5:IsTup h2 T #[.int i t,y]:=by
   obtain ⟨o,eo,r⟩:=hTup
   exact ⟨o,hk2 T o (fun hb=>hTne T hb rfl) eo,r⟩
  refine ⟨.ref T,upd H T (.tup [.int i,x]),Inv.laidT (s:=s) (h' :=h2) (ch:=[e,it]) (tk:=tk) I hf (fun b o hb e=>hk2 b o hb (hk b o hb e)) (fun b o hb _=> ?_) hT ⟨by rw [sizeLine_eq]; show 2<=16777216; decide,[.int i t,y], .cons ⟨t,rfl⟩ (.cons ru .nil),Y5, .inl ⟨_,_,rfl⟩⟩,rfl,⟨T,x,hTn,rfl,fun ys hy=>by rw [I.list_inj hy hq]; exact hx,rfl⟩,⟨hst2.1,hst2.2.1⟩,fun b hb=> ?_⟩
  ·obtain ⟨⟨old2,he2⟩,⟨o2,eo2,_⟩,_⟩:=hst2
   rcases List.mem_cons.mp hb with rfl | hb
   ·exact ⟨_,he2⟩
   ·have:b=it:=by simpa using hb
    subst this; exact ⟨o2,eo2⟩
  ·rw [zH (hTne b hb)]; exact (hf b hb).1
 done:=by
  intro X hP hw hK hc i pins s σ H E I hf st hg
  subst hP hw hK
  obtain ⟨xs,hq,hx⟩:=hg
  obtain ⟨its,rv,p,hz⟩:=I.list hq
  obtain ⟨⟨old,he⟩,hit⟩:=st
  have hl:=rv.length
  refine wpAny_pyNext_enum_end (I.ok.hd hc) he hit p.isList (Array.getElem?_eq_none (by simp; omega)) fun h' hk=>⟨rfl, ?_⟩
  obtain ⟨f0,f1,f2,f3,f4,f5⟩:=hf it (by simp)
  exact I.turned (t' :=s.toks) (fun b o hb e=>hk b o hb e) f0 f1 f3 f4 f5
 self:=fun _ _ _ _ _ st h=>let ⟨⟨_,he⟩,_⟩:=st; wpAny_pyIter_enum he h
def ZQ (xs:List T):List T:=(xs.zipIdx).map fun p=>T.tup [.int (p.2:Nat),p.1]
theorem JM {xs:List T} {i:Nat} {t:T} (h:(ZQ xs)[i]? =some t):∃ x,xs[i]? =some x/\t= .tup [.int (i:Nat),x]:=by
 unfold ZQ at h
 rw [List.getElem?_map,List.getElem?_zipIdx] at h
 cases e:xs[i]? with
 | none=>rw [e] at h; cases h
 | some x=>rw [e] at h; cases h; exact ⟨x,rfl,by simp⟩
theorem jq (xs:List T):(ZQ xs).length=xs.length:=by unfold ZQ; simp
theorem V0 {K:PySem.W.Frag} {B1 H1:Hp} {a:Addr} {xs:List V} {ts:List T} (h:B1 a=some (.lst xs)) (r:zR B1 xs ts):rI B1 H1 (Ite K a) (ZQ ts):=fun B2 H2 s1 s2=>by
 have h2:=s2 _ _ (s1 _ _ h)
 rw [jq]
 refine ⟨fun i hi=> ?_,fun i t x H3 e y=> ?_,fun i hi=>⟨xs,SqL.of h2,by rw [r.length]; exact hi⟩⟩
 ·obtain ⟨v,e,_⟩:=r.get (List.getElem?_eq_getElem hi)
  exact ⟨xs,v,SqL.of h2,e⟩
 ·obtain ⟨p,v,hp,rfl,y,rfl⟩:=y
  obtain ⟨t',et,rfl⟩:=JM e
  obtain ⟨v',e1,r1⟩:=r.get et
  have:=y xs (SqL.of h2)
  rw [e1] at this; cases this
  refine ⟨zK.new hp _, .tup (jk hp _) (.cons (.int _) (.cons ?_ .nil))⟩
  exact (r1.mono s1).mono (zW.ge s2 (zK.new hp _))
section
variable {X:Cx} {Y:Fx} {a:Expr} {fa:En->R T} {pos p pt:Pos} {elts:List Expr} {kk:Nat}
theorem V1 {ta:TA} (hg:Gl X "enumerate") (hm:X.mg "enumerate"=none) (ha:PA X [a] ta) (hs:St1 X a:=by exact st1 rfl):
  PI X (.Tuple elts kk pt) (.Call (.Name "enumerate" p) [a] [] pos) (fun σ H R=>ta σ H fun vs H1=>∃ l xs,vs=[.ref l]/\H1 l=some (.lst xs)/\R (Ite X.K l) H1):=by
 intro pins s σ H R I h
 refine Call_ (jd I hg hm PyProof.Rows.Boot.«enumerate» (PyProof.Rows.callWith_type1 (thn (ha pos pins s σ H _ I h) fun us s1 ⟨vs,H1,I1,r1,q1⟩=> ?_) hs rfl))
 obtain ⟨l,xs,e,hl,q⟩:=q1
 subst e
 obtain ⟨u,rfl,ru⟩:=ZT r1
 obtain rfl:u=Value.ref l:=ru
 obtain ⟨_,its,n,rv,eo⟩:=(show ZF X.prog X.w H1 s1.heap l (.lst xs) from I1.hok l _ hl)
 have hlt:l < s1.heap.objs.size:=Heap.lt_size eo
 refine call_enumerate_1 eo fun h' he hit hsz hk=>wpAny_pyIter_enum he ?_
 have f:∀ b∈[s1.heap.objs.size+1,s1.heap.objs.size],W2 X pins H1 b:=fun b hb=>by
  rcases List.mem_cons.mp hb with rfl | hb
  ·exact I1.fpOk (Nat.le_succ _) (I1.hok.fresh (Nat.le_succ _))
  ·have z:b=s1.heap.objs.size:=by simpa using hb
   subst z
   exact I1.fpOk (Nat.le_refl _) (I1.hok.fresh (Nat.le_refl _))
 exact ⟨s1.heap.objs.size+1,[s1.heap.objs.size+1,s1.heap.objs.size],_,_,H1,rfl,I1.kept (t' :=s1.toks) hk,yA _ _ l (Nat.succ_ne_self _) (Nat.ne_of_lt (Nat.lt_succ_of_lt hlt)) (Nat.ne_of_lt hlt),⟨⟨_,he⟩,hit⟩,f,q⟩
def V2 (fa:En->R T):En->R (List T):=fun ρ=>(fa ρ).bind fun t=>match t with
 | .lst xs=> .ok (ZQ xs)
 | _=> .bad
theorem xY (hg:Gl X "enumerate") (hm:X.mg "enumerate"=none) (ha:Snd X Y a fa) (hs:St1 X a:=by exact st1 rfl):Uu X Y (.Tuple elts kk pt) (.Call (.Name "enumerate" p) [a] [] pos) (V2 fa):= .mk fun ρ=>
 PI.imp (V1 hg hm (zD (ha ρ) Z8 hs) hs) fun σ H R ⟨B,I,q⟩=>step I q fun t v H1 _ s1 r1 I1 q1=>by
  cases r1 with
  | @lst l xs ts h r=>exact ⟨l,xs,rfl,I1.sB _ _ h,j0 I1 (show Po Y rI _ H1 (.ok (ZQ ts)) R from q1) (V0 h r)⟩
  | _=>exact q1.elim
def u6:List T->Option (List Str)
 | []=>some []
 | .str x :: r=>match u6 r with | some ys=>some (x :: ys) | none=>none
 | _ :: _=>none
def wJ (sep:Str):T->R T
 | .lst ts=>match u6 ts with
  | some ys=>if (ys.map (·.length)).sum+ys.length*sep.length<=16777216 then .ok (.str (Txt.join sep ys)) else .bad
  | none=> .bad
 | _=> .bad
theorem wK {H:Hp}:∀ {xs:List V} {ts:List T} {its:List Value} {ys:List Str},zR H xs ts->Ze xs its->u6 ts=some ys->StrsAre its ys
 | _,_,_,ys, .nil, .nil,h=>by
  have h' :some []=some ys:=h
  cases h'; exact .nil
 | _,_,_,ys, .cons (t:=t) r rs, .cons (b:=u) rv vs,h=>by
  cases r with
  | str x=>
   unfold u6 at h
   split at h
   ·rename_i zs e
    cases h
    obtain ⟨tk,rfl⟩:=rv
    exact .cons x tk (wK rs vs e)
   ·cases h
  | _=>cases h
theorem V3:MtR X "str.join" (fun x xs H Q=>∃ z l zs ts ys,x= .str z/\xs=[.ref l]/\H l=some (.lst zs)/\zR H zs ts/\u6 ts=some ys/\(ys.map (·.length)).sum+ys.length*z.length<=16777216/\Q (.str (Txt.join z ys)) H):=by
 intro pins s σ H x xs v us Q I rx rv h
 obtain ⟨z,l,zs,ts,ys,rfl,rfl,hl,r,e,hb,q⟩:=h
 obtain ⟨t,rfl⟩:=rx
 obtain ⟨u,rfl,ru⟩:=ZT rv
 obtain rfl:u=Value.ref l:=ru
 obtain ⟨its,rv,p,_⟩:=zX I (.inl hl) r
 exact join_list p (by simpa using wK r rv e) hb fun t' k=>⟨.str _,H,I.tok k,⟨t',rfl⟩,q⟩
theorem Wr {z:Str} {kc:Nat} {pz pa:Pos} (ha:J6 X Y a fa) (hb:attributeBase (.Constant (.str z) kc pz) "join" X.env (eval (.Constant (.str z) kc pz) X.env)=eval (.Constant (.str z) kc pz) X.env:=by rfl) (hs:St1 X a:=by exact st1 rfl)
  (hz:(pa.endLine == p.line)=true:=by rfl):Snd X Y (.Call (.Attribute (.Constant (.str z) kc pz) "join" pa) [a] [] p) (ap1 (wJ z) fa):= .mk fun ρ=>by
 have e1:(((((backTo p (starEach [a] X.env)).all fun x=> !x.fst) && (backToKw p (keywordEach [] X.env)).all fun x=>x.fst.isSome) && decide (([a].length+([]:List Keyword).length+if ([]:List Keyword).isEmpty=true then 0 else 1) < 30))=true):=by rw [hs]; rfl
 refine PE.imp (Wj PySem.F.plainAttrs_str PySem.F.slot_str_join PySem.F.type_str_join V3 Qg (zD (ha ρ) Z8 hs) hb e1 hz hs rfl) fun σ H Q ⟨B,I,q⟩=> ?_
 refine ⟨rfl,step I q fun t v H1 _ s1 r1 I1 q1=> ?_⟩
 cases r1 with
 | @lst l xs ts h r=>
  have q1:Po Y rC _ H1 (match u6 ts with | some ys=>if (ys.map (·.length)).sum+ys.length*z.length<=16777216 then .ok (.str (Txt.join z ys)) else .bad | none=> .bad) Q:=q1
  split at q1
  ·rename_i ys e
   split at q1
   ·rename_i hl
    exact ⟨z,l,xs,ts,ys,rfl,rfl,h,r,e,hl,po0 I1.sB q1 rfl (.str _)⟩
   ·exact q1.elim
  ·exact q1.elim
 | _=>exact q1.elim
end
def dd:List Str->List Str->List Str
 | acc,[]=>acc
 | acc,x :: r=>dd (if x∈acc then acc else acc++[x]) r
section
variable {prog:Program} {w:World} {A:Around} {R:Result->Shared->Prop} {I:Addr} {fp wr:List Addr} {n:Nat} {P:Nat->Value->Prop} {St:Nat->Heap->Prop}
theorem jD {h h' :Heap} {S:Addr} {f g:Str->Bool} {m k:Nat} (x:h.SetOf (strKind prog w) S f m) (e:∀ o,h.get? S=some o->h'.get? S=some o) (ef:f=g) (em:m=k):h'.SetOf (strKind prog w) S g k:=by
 subst ef em
 obtain ⟨o,es,ep,t,ho,r⟩:=x
 exact ⟨o,es,ep,t,e o ho,r⟩
theorem qF (W:Walks prog w A.in1 I fp wr n P St) (S:Addr) (hSf:S ∉ fp) (val:Nat->Str) (hval:∀ i v,P i v->∃ t,v=Value.str (val i) t) (hb:n+1 < scanBound):
  ∀ (k i:Nat) (acc:List Str) (s:Shared),n - i=k->i<=n->acc.length<=i->St i s.heap->s.heap.SetOf (strKind prog w) S (fun x=>decide (x∈acc)) acc.length->
   (∀ h' tk,(∀ b o,b ∉ S :: wr->s.heap.get? b=some o->h'.get? b=some o)->h'.SetOf (strKind prog w) S (fun x=>decide (x∈dd acc ((List.range' i k).map val))) (dd acc ((List.range' i k).map val)).length->
    R (.ok (.ret .none)) { s with heap:=h',toks:=tk })->codeAny (model prog w) A (.builtin "set.update.loop" ⟨[.ref S, .ref I],[]⟩) R s:=by
 intro k
 induction k with
 | zero=>
  intro i acc s hk hi hal hst hS hR
  obtain rfl:i=n:=by omega
  refine codeAny_builtin F.entry_set_update_loop ?_
  rw [Around.under_plainId F.plain_set_update_loop _]
  refine wpAny_bind (m:=pyNext (.ref I)) (W.done s _ _ hst fun h' tk hk' =>wpAny_pure ?_)
  exact hR h' tk (fun b o hb e=>hk' b o (fun z=>hb (List.mem_cons_of_mem _ z)) e) (jD hS (fun o e=>hk' S o (fun z=>hSf (W.sub _ z)) e) rfl rfl)
 | succ k ih=>
  intro i acc s hk hi hal hst hS hR
  refine codeAny_builtin F.entry_set_update_loop ?_
  rw [Around.under_plainId F.plain_set_update_loop _]
  refine wpAny_bind (m:=pyNext (.ref I)) (W.item i s _ _ (by omega) hst fun v h1 tk1 hP hst1 hk1=> ?_)
  obtain ⟨t,rfl⟩:=hval i v hP
  have hS1:=jD hS (fun o e=>hk1 S o (fun z=>hSf (W.sub _ z)) e) rfl rfl
  refine wpAny_bind (m:=holding [Value.str (val i) t] (setAdd S (.str (val i) t))) (wpAny_holding ?_)
  unfold setAdd
  have isk:(strKind prog w).is (val i) (.str (val i) t)=true:=strKind_is _ _ _ _
  refine wpAny_holding (wpAny_bind ((strKind prog w).pyHash isk ?_))
  refine wpAny_setAddHashed_of (knd:=strKind prog w) (s:={ s with heap:=h1,toks:=tk1+1 }) isk rfl hS1 (by omega) fun h2 hsb hS2=> ?_
  have e2:(if decide (val i∈acc)=true then acc.length else acc.length+1)=(if val i∈acc then acc else acc++[val i]).length:=by
   by_cases hm:val i∈acc
   ·simp [hm]
   ·simp [hm]
  have e1:(fun x=>decide (x∈acc) || decide (x=val i))=(fun x=>decide (x∈(if val i∈acc then acc else acc++[val i]))):=by
   funext x
   by_cases hm:val i∈acc
   ·simp only [if_pos hm]
    by_cases hx:x=val i
    ·subst hx; simp [hm]
    ·simp [hx]
   ·simp [hm,Bool.decide_or]
  have hS3:=jD (h' :=h2) hS2 (fun o e=>e) e1 e2
  refine wpAny_pure ⟨plainId_quiet F.plain_set_update_loop _,ih (i+1) _ _ (by omega) (by omega) ?_ (W.frame _ h1 _ hst1 fun b hb o e=> ?_) hS3 fun h3 tk3 hk3 hS4=> ?_⟩
  ·split
   ·omega
   ·rw [List.length_append,List.length_singleton]; omega
  ·exact (hsb.2 b (fun z:b=S=>hSf (z ▸ hb))).trans e
  ·rw [List.range'_succ,List.map_cons] at hR
   refine hR h3 tk3 (fun b o hb e=>hk3 b o hb ?_) hS4
   exact (hsb.2 b (fun z:b=S=>hb (z ▸ List.mem_cons_self))).trans (hk1 b o (fun z=>hb (List.mem_cons_of_mem _ z)) e)
end
section
variable {prog:Program} {w:World} {A:Around} {E:Value->Shared->Prop} {s:Shared}
set_option maxRecDepth 100000 in
set_option maxHeartbeats 3200000 in
theorem yB {l:Addr} {its:List Value} {ys:List Str} {Q:Value->Shared->Prop} (hh:A.handled=none) (hl:s.heap.IsList l its.toArray) (hi:StrsAre its ys) (hb:its.length+1 < scanBound)
  (h:∀ (h' :Heap) (tk:Nat),h'.SetOf (strKind prog w) s.heap.objs.size (fun x=>decide (x∈dd [] ys)) (dd [] ys).length->(∀ b o,b < s.heap.objs.size->s.heap.get? b=some o->h'.get? b=some o)->
   Q (.ref s.heap.objs.size) { s with heap:=h',toks:=tk }):wpAny (model prog w) A (call (.type "set") [.ref l]) Q E s:=by
 have getv:∀ {its:List Value} {ys:List Str},StrsAre its ys->its.length=ys.length/\∀ (i:Nat) (v:Value),its[i]? =some v->∃ t,v=Value.str (ys.getD i ⟨#[]⟩) t:=fun {its ys} hi=>by
  induction hi with
  | nil=>exact ⟨rfl,fun i v e=>by simp at e⟩
  | cons y t _ ih=>
   refine ⟨by simp [ih.1],fun i v e=> ?_⟩
   cases i with
   | zero=>exact ⟨t,by simpa using e.symm⟩
   | succ i=>exact ih.2 i v (by simpa using e)
 obtain ⟨hlen,hget⟩:=getv hi
 have hys:(List.range' 0 its.length).map (fun i=>ys.getD i ⟨#[]⟩)=ys:=by
  rw [hlen]
  refine List.ext_getElem? fun i=> ?_
  rw [List.getElem?_map]
  by_cases hi' :i < ys.length
  ·rw [List.getElem?_range' hi',List.getElem?_eq_getElem hi']
   simp [List.getElem?_eq_getElem hi']
  ·rw [List.getElem?_eq_none (by simp; omega),List.getElem?_eq_none (by omega)]
   rfl
 obtain ⟨c,tl,hmro⟩:=F.called_set.mro
 have hmade:=F.called_set.made
 have hsub:=F.called_set.sub
 have h1:=F.called_set.notType
 have h2:=F.called_set.canCreate
 have hct:=F.typeCall_set_1 (.ref l)
 refine wpAny_call (codeAny_of_tree (show wpAny _ _ (callAny (.type "set") _) _ _ _ from ?_))
 refine wpAny_pure ⟨Code.quiet_builtin _ (by decide+kernel),codeAny_builtin F.entry_type_call ?_⟩
 rw [Around.under_plain (weight_type_call_type "set" [.ref l] []) rfl]
 repeat any_goals (first | assumption | wp_step)
 refine codeAny_mono (code_set_new_1 (.ref l) (E:=E) (Q₁:=fun obj s₁=>∃ led:Bool,obj= .ref s.heap.objs.size/\s₁={ s with heap:=s.heap.push { cls:= .type "set",dict:=none,data:= .set #[] 0 (.fresh 0 0 led) } }) fun led=>⟨led,rfl,rfl⟩) fun r s₁ hr=> ?_
 cases r with
 | error e=>exact hr
 | ok fl=>
  cases fl with
  | ret obj=>
   obtain ⟨led,rfl,rfl⟩:=hr
   generalize hG:s.heap.push { cls:= .type "set",dict:=none,data:= .set #[] 0 (.fresh 0 0 led) }=G
   have hS:G.get? s.heap.objs.size=some { cls:= .type "set",dict:=none,data:= .set #[] 0 (.fresh 0 0 led) }:=by rw [← hG]; exact Heap.get?_push_size _ rfl
   have hGs:G.objs.size=s.heap.objs.size+1:=by rw [← hG,Heap.size_push]
   have hGk:∀ b o,s.heap.get? b=some o->G.get? b=some o:=fun b o e=>by rw [← hG]; exact Heap.get?_push_of_some _ e
   have hT:Shared.TypeIs { s with heap:=G } (.ref s.heap.objs.size) "set":=⟨_,hS,rfl⟩
   have hli:=F.called_set.init.lookup
   have hbi:=F.called_set.init.bind (.ref s.heap.objs.size)
   repeat any_goals (first | assumption | wp_step)
   refine codeAny_mono (codeAny_call_builtin (R:=wants (fun r s₂=>r= .none/\∃ h' tk,s₂={ s with heap:=h',toks:=tk }/\h'.SetOf (strKind prog w) s.heap.objs.size (fun x=>decide (x∈dd [] ys)) (dd [] ys).length/\
     (∀ b o,b < s.heap.objs.size->s.heap.get? b=some o->h'.get? b=some o)) E) F.called_set.init.plain F.entry_set_init (check_set_init_1 hT ?_)) fun r₂ s₂ hr₂=> ?_
   ·obtain ⟨⟨ocls,odict,odata,oslots⟩,hol,hcl,nl,hdl⟩:=hl
    simp only at hcl hdl
    subst hcl; subst hdl
    have hol' :=hGk _ _ hol
    have hsls:=F.sub_list_set
    have hslf:=F.sub_list_frozenset
    have hne:(Value.type "list" == Value.type "dict")=false:=by decide
    have hl1:G.IsList l its.toArray:=⟨_,hol',rfl,nl,rfl⟩
    have hlS:l < s.heap.objs.size:=Heap.lt_size hol
    unfold Builtin.«set.__init__» noKeywords Builtin.Frozenset.updateFrom
    generalize hPI:pyIter=PI
    wp_walk
    subst hPI
    refine wpAny_pyIter_list hl1 (wpAny_bind (wpAny_runValue ?_))
    have hSf:s.heap.objs.size ∉ [G.objs.size,l]:=by
     rw [hGs]
     intro z
     rcases List.mem_cons.mp z with z | z
     ·exact absurd z (Nat.ne_of_lt (Nat.lt_succ_self _))
     ·exact absurd (List.mem_singleton.mp z) (Nat.ne_of_gt hlS)
    refine qF (Walks.list (A:=A.in1.in1.in1) (by simp [hh]) G.objs.size l (by rw [hGs]; exact Nat.ne_of_lt (Nat.lt_succ_of_lt hlS)) its.toArray) s.heap.objs.size hSf (fun i=>ys.getD i ⟨#[]⟩) (fun i v e=>hget i v (by simpa using e)) (by simpa using hb) its.length 0 [] _ (by simp) (Nat.zero_le _) (Nat.le_refl _)
     ⟨⟨_,Heap.get?_push_size _ rfl,rfl,rfl⟩,hl1.push _⟩ ?_ ?_
    ·have hget' :(G.push { cls:= .type "list_iterator",data:= .fields #[.ref l, .int 0 0] }).get? s.heap.objs.size=some { cls:= .type "set",dict:=none,data:= .set #[] 0 (.fresh 0 0 led) }:=Heap.get?_push_of_some _ hS
     exact jD ((PyProof.Rows.setObjOf_fresh (knd:=strKind prog w) led).setOf hget' (by unfold scanBound; omega)) (fun o e=>e) (by funext x; simp) rfl
    ·intro h' tk' hm hS'
     rw [hys] at hS'
     refine wpAny_pure (show wpAny _ _ (ret Value.none) _ _ _ from wpAny_pure ⟨rfl,h',tk',rfl,hS',fun b o hb e=> ?_⟩)
     refine hm b o (fun z=> ?_) (Heap.get?_push_of_some _ (hGk b o e))
     rcases List.mem_cons.mp z with z | z
     ·exact absurd z (Nat.ne_of_lt hb)
     ·have z' :b=G.objs.size:=List.mem_singleton.mp z
      rw [hGs] at z'
      exact absurd z' (Nat.ne_of_lt (Nat.lt_succ_of_lt hb))
   ·cases r₂ with
    | error e=>exact hr₂
    | ok fl₂=>
     cases fl₂ with
     | ret r=>
      obtain ⟨rfl,h',tk,rfl,hS',hk'⟩:=hr₂
      repeat any_goals (first | assumption | wp_step)
      exact h _ _ hS' hk'
     | _=>exact hr₂.elim
  | _=>exact hr.elim
end
section
variable {X:Cx} {Y:Fx} {a b:Expr} {fa fb:En->R T} {pos pos' p p' :Pos}
theorem yC (hh:X.A.handled=none):ZS X (.type "set") (fun vs H Q=>∃ l xs ts ys,vs=[.ref l]/\H l=some (.lst xs)/\zR H xs ts/\u6 ts=some ys/\ts.length+1 < 4096/\
  ∀ q,H q=none->Q (.ref q) (upd H q (.ext fun h=>h.SetOf (strKind X.prog X.w) q (fun x=>decide (x∈dd [] ys)) (dd [] ys).length))):=by
 intro pins s σ H vs us Q I rv h
 obtain ⟨l,xs,ts,ys,rfl,hl,r,ey,hb,q⟩:=h
 obtain ⟨u,rfl,ru⟩:=ZT rv
 obtain rfl:u=Value.ref l:=ru
 obtain ⟨its,rv,pl,hln,_⟩:=zX I (.inl hl) r
 refine yB hh pl (wK r rv ey) (by unfold scanBound; omega) fun h' tk hS hk=> ?_
 refine ⟨.ref s.heap.objs.size,_,I.laid (t' :=tk) (fun b u e=>hk b u (Heap.lt_size e) e) (Nat.le_refl _) ?_,rfl,q _ (I.hok.fresh (Nat.le_refl _))⟩
 obtain ⟨o,es,ep,t,ho,rr⟩:=id hS
 exact ⟨hS,⟨o,ho⟩,fun h1 h2 ⟨o1,es1,ep1,t1,ho1,rr1⟩ e=>⟨o1,es1,ep1,t1,e _ ho1,rr1⟩⟩
theorem yD:ZS X (.builtin "len") (fun vs H Q=>∃ q φ f n,vs=[.ref q]/\H q=some (.ext φ)/\(∀ h:Heap,φ h->h.SetOf (strKind X.prog X.w) q f n)/\Q (.int n) H):=by
 intro pins s σ H vs us Q I rv h
 obtain ⟨l,φ,f,n,rfl,hl,hφ,q⟩:=h
 obtain ⟨u,rfl,ru⟩:=ZT rv
 obtain rfl:u=Value.ref l:=ru
 obtain ⟨h1,_,_⟩:=(show ZF X.prog X.w H s.heap l (.ext φ) from I.hok l _ hl)
 obtain ⟨o,es,ep,t,ho,hex,hd,_,_,hb,hf,hn⟩:=hφ _ h1
 refine call_len_set ho hex hd hf ?_ ⟨.int es.size,H,I.tok _,⟨_,rfl⟩,by rw [hn]; exact q⟩
 have:es.size < 4096:=hb
 omega
def qG:T->R T
 | .lst ts=>match u6 ts with
  | some ys=>if ts.length+1 < 4096 then .ok (.int (dd [] ys).length) else .bad
  | none=> .bad
 | _=> .bad
theorem xZ (hh:X.A.handled=none) (gl:Gl X "len") (mg:X.mg "len"=none) (gl' :Gl X "set") (mg' :X.mg "set"=none) (ha:J6 X Y a fa) (hs:St1 X a:=by exact st1 rfl) (hs' :St1 X (.Call (.Name "set" p') [a] [] pos'):=by exact st1 rfl):
  Snd X Y (.Call (.Name "len" p) [.Call (.Name "set" p') [a] [] pos'] [] pos) (ap1 qG fa):= .mk fun ρ=>
 PE.imp (Jo yD gl mg PySem.boot_len (zD (jS (yC hh) gl' mg' PyProof.Rows.Boot.«set» (zD (ha ρ) Z8 hs) (by decide) (by decide) hs rfl) Z8 hs') (by decide) (by decide) hs' rfl) fun σ H Q ⟨B,I,q⟩=>
  step I q fun t v H1 _ s1 r1 I1 q1=>by
   cases r1 with
   | @lst l xs ts h r=>
    have q1:Po Y rC _ H1 (match u6 ts with | some ys=>if ts.length+1 < 4096 then .ok (.int (dd [] ys).length) else .bad | none=> .bad) Q:=q1
    split at q1
    ·rename_i ys e
     split at q1
     ·rename_i hl
      refine ⟨l,xs,ts,ys,rfl,h,r,e,hl,fun z hz=>⟨z,_,_,_,rfl,Zb,fun h hh=>hh, ?_⟩⟩
      exact q1 _ _ (zK.new hz _) (.int _)
     ·exact q1.elim
    ·exact q1.elim
   | _=>exact q1.elim
end
theorem KJ {X:Cx} {E:XK}:JB CX0 X E:=fun _ _ _ _ _ _ _ h=>h.elim
section
variable {X:Cx} {Y:Fx} {a b:Expr} {fa fb:En->R T} {pos pos' p p' :Pos}
theorem V4 {cl:Nat->Value} {k j n:Nat} {f:Addr} {fd:FuncData} {ps:List Str} {g:List T->R T} {x:Str} {es:List Expr} {ga:En->R (List T)} (hy:Y.cl=cl) (F:Zf X.prog X.w X.K X.mg X.base CX0 j f fd ps (spP cl n g)) (hr:Jl k X.A) (hj:j<=k) (gl:Gl X x)
  (mg:X.mg x=some (.ref f)) (kp:PySem.W.keepIn X.K (.ref f)=true) (bd:L2.Binds X.K fd ps []) (ha:ux X Y (a :: es) ga) (hd:(x == ("__debug__":Str))=false:=by decide)
  (hs:starEach (a :: es) X.env=(false,eval a X.env) :: starEach es X.env:=by exact Zg rfl) (hz:((backTo pos (starEach es X.env)).any fun x=>x.fst)=false:=by exact j9 rfl):Snd X Y (.Call (.Name x p) (a :: es) [] pos) (zc n g ga):=by
 subst hy
 exact Qr F (hr.mono hj) gl mg kp bd KJ ha hd hs hz
theorem jN {x:Str} {i:Int} {u:Value} (gl:Gl X x) (mg:X.mg x=some u) (hu:∃ t,u=Value.int i t) (hd:(x == ("__debug__":Str))=false:=by decide):Snd X Y (.Name x pos) (cE (.int i)):= .mk fun ρ=>
 PE.imp (vc (v:= .int i) gl mg hu hd) fun σ H Q ⟨B,I,q⟩=>j0 I q (.int i)
end
def KK (scope sc0:Scope):Bool:=(scope.kind == .function) && scope.names.all (fun x=>x.2 != .cell) && scope.names.all (fun x=>x.2 != .local || scope.names.lookup x.1 == some .local) &&
 scope.names.all (fun x=>x.2 != .free || sc0.names.lookup x.1 == some .cell || sc0.names.lookup x.1 == some .free)
theorem X0 {X:Cx} {scope:Scope} (sc0:Scope) (h0:X.env.scope=sc0) (h:KK scope sc0=true):CSc X scope:=by
 unfold KK at h
 simp only [Bool.and_eq_true,List.all_eq_true] at h
 obtain ⟨⟨⟨h1,h2⟩,h3⟩,h4⟩:=h
 refine ⟨eq_of_beq h1,fun x hx=>by simpa using h2 x hx,fun x hx hl=> ?_,fun x hx hf=> ?_⟩
 ·have:=h3 x hx
  rw [hl] at this
  simpa using this
 ·have:=h4 x hx
  rw [hf] at this
  show X.env.scope.names.lookup x.1=_\/X.env.scope.names.lookup x.1=_
  rw [h0]
  simpa using this
def KL (N N' :List Str) (scope sc0:Scope) (k:Nat) (js:List Nat):Bool:=(N'.length == k+js.length) && (List.range js.length).all fun i=>match js[i]? with
 | none=>true
 | some j=>match N'[k+i]?,N[j]? with
  | some x,some y=>(x == y) && (sc0.names.lookup x == some .cell || sc0.names.lookup x == some .free) && (scope.names.lookup x == some .free)
  | _,_=>false
theorem V5 {X:Cx} {scope:Scope} {N' :List Str} {k:Nat} {js:List Nat} (N:List Str) (sc0:Scope) (hN:X.N=N) (h0:X.env.scope=sc0) (h:KL N N' scope sc0 k js=true):KI X scope N' k js:=by
 unfold KL at h
 simp only [Bool.and_eq_true,List.all_eq_true] at h
 obtain ⟨h1,h2⟩:=h
 refine ⟨eq_of_beq h1,fun i j e=> ?_⟩
 have hi:i < js.length:=(List.getElem?_eq_some_iff.mp e).1
 have q:=h2 i (List.mem_range.mpr hi)
 rw [e] at q
 dsimp only at q
 split at q
 ·rename_i x y e1 e2
  simp only [Bool.and_eq_true,Bool.or_eq_true,beq_iff_eq] at q
  obtain ⟨⟨rfl,q2⟩,q3⟩:=q
  refine ⟨x,e1,by rw [hN]; exact e2, ?_,q3, ?_⟩
  ·unfold Vis
   rw [h0]
   exact .inr q2
  ·show X.env.scope.names.lookup x=_\/X.env.scope.names.lookup x=_
   rw [h0]
   exact q2
 ·cases q
theorem Zc {X:Cx} {Y:Fx} {tg iter elt:Expr} {ifs:List Expr} {scope:Scope} {k:Nat} {js:List Nat} {fi:En->R (List T)} {tG:TG} {g:T->En->R En} {ft:En->R Bool} {fe:En->R T} (N' :List Str) (N:List Str) (sc0:Scope) (hN:X.N=N) (h0:X.env.scope=sc0)
  (h:(KK scope sc0 && KL N N' scope sc0 k js)=true) (cm:X.calm=true) (it:Uu X Y tg iter fi) (gt:qB X scope N' fun XC=>PG XC tg tG) (gk:GOk tG g) (gn:GNo g) (tt:∀ Y',Y'.cl=Y.cl->qB X scope N' fun XC=>Uv XC Y' ifs ft)
  (el:∀ Y',Y'.cl=Y.cl->qB X scope N' fun XC=>Snd XC Y' elt fe) (hs:∀ x,foldedSetIterable iter X.env x=pure x:=by intro _; rfl):uI X Y tg iter elt ifs scope N' k js fi tG g ft fe:=by
 rw [Bool.and_eq_true] at h
 exact ⟨X0 sc0 h0 h.1,V5 N sc0 hN h0 h.2,cm,it,gt,gk,gn,tt,el,hs⟩
end PV
namespace PV
open PySem PySem.Spec PyProof.Rows L2 PySem.W
section
variable {X:Cx} {Y:Fx} {a b:Expr} {fa fb:En->R T} {pos pos' p p' :Pos}
theorem V6 {cl:Nat->Value} {k j n:Nat} {f:Addr} {fd:FuncData} {ps:List Str} {g:List T->R T} {x:Str} {es:List Expr} {ga:En->R (List T)} (hy:Y.cl=cl) (hp:JB (CX1 X.prog X.w) X Y.E) (F:Zf X.prog X.w X.K X.mg X.base (CX1 X.prog X.w) j f fd ps (spP cl n g)) (hr:Jl k X.A) (hj:j<=k) (gl:Gl X x)
  (mg:X.mg x=some (.ref f)) (kp:PySem.W.keepIn X.K (.ref f)=true) (bd:L2.Binds X.K fd ps []) (ha:ux X Y (a :: es) ga) (hd:(x == ("__debug__":Str))=false:=by decide)
  (hs:starEach (a :: es) X.env=(false,eval a X.env) :: starEach es X.env:=by exact Zg rfl) (hz:((backTo pos (starEach es X.env)).any fun x=>x.fst)=false:=by exact j9 rfl):Snd X Y (.Call (.Name x p) (a :: es) [] pos) (zc n g ga):=by
 subst hy
 exact Qr F (hr.mono hj) gl mg kp bd hp ha hd hs hz
end
def jr (c:Nat):En->RS:=fun _=> .ex c
section
variable {P:Program} {w:World} {K:PySem.W.Frag} {mg:Str->Option Value} {base:Heap} {N:List Str} {qual:Str} {scope:Scope} {f:Addr} {cd:Value} {A:Around} {outer:List Env} {s:Shared} {H:Hp} {E:XK} {Y:Fx}
theorem jb {x m:Str} {C:Addr} {bm bmN:List Value} {Bn Bb newId nid initId inN:String} {np cpos pos ap:Pos} {j c:Nat} (O:OwnCls x C bm newId mg base) (Fn:ExcBaseFacts Bn newId inN bmN) (hBn:bm.contains (.type Bn)=true) (FB:ExcBaseFacts Bb nid initId bm)
  (hY:Y.E=E) (hc:Y.cl c= .ref C) (hg:Gl (JY (CX1 P w) P w K mg base N qual scope f cd A outer s H E) x) (hd:(x == ("__debug__":Str))=false:=by decide):
  W6 (JY (CX1 P w) P w K mg base N qual scope f cd A outer s H E) Y (.Raise (some (.Call (.Name x np) [.Constant (.str m) j ap] [] cpos)) none pos) (jr c):= .mk fun ρ=>by
 subst hY
 refine PS.imp (yh O Fn hBn FB hg ((za zu zi:ux (JY (CX1 P w) P w K mg base N qual scope f cd A outer s H Y.E) Y [.Constant (.str m) j ap] _) ρ) (Zg rfl) hd) fun D σ H1 ⟨B,I,q⟩=>⟨B,I,fun vs H2 s2 r2=> ?_⟩
 have q:XP Y B c:=q
 refine ⟨?_, ?_⟩
 ·rw [r2.length]; exact (by decide:1<=sizeLine)
 ·have:=q none H2 (I.sH.trans s2) (I.sB.trans s2)
  rw [hc] at this
  exact this
theorem Fun.okX {x qual:Str} {st:Stmt} {f:Addr} {fd:FuncData} {N ps:List Str} {k:Nat} {sp:Sp} (F:Fun K x qual st f fd) (S:zm N ps (ze st)) (len:∀ vs H Q E,sp vs H Q E->vs.length=ps.length)
  (hbody:∀ (cdv:Value) (A:Around) (outer:List Env) (s:Shared) (H:Hp) (vs:List V) (Q:VK) (E:XK),Jl k (A.deeper (envOfC qual (ze st) s.heap.objs.size f cdv))->sp vs H Q E->
   ∃ t,PSs (JY (CX1 P w) P w K mg base N qual (ze st) f cdv A outer s H E) (ZH st) t/\t { nx:=fun _ H' =>Q .non H',rt:=Q } (start N vs) H):Zf P w K mg base (CX1 P w) (k+1) f fd ps sp:=by
 obtain ⟨oc,od,kV,doc,pm,an,cdv,ct,osl,rfl,lk,hcd⟩:=F.ex
 exact xI lk hcd S len fun A outer s H vs Q E hr hsp=>hbody cdv A outer s H vs Q E hr hsp
theorem je {cl:Nat->Value} {x qual:Str} {st:Stmt} {f:Addr} {fd:FuncData} {N ps:List Str} {k n:Nat} {fb:En->RS} {g:List T->R T} (F:Fun K x qual st f fd) (S:zm N ps (ze st)) (hn:n=ps.length)
  (hb:∀ (cdv:Value) (A:Around) (outer:List Env) (s:Shared) (H:Hp) (E:XK) (Y:Fx),Y.cl=cl->Y.E=E->Jl k (A.deeper (envOfC qual (ze st) s.heap.objs.size f cdv))->
   Ut (JY (CX1 P w) P w K mg base N qual (ze st) f cdv A outer s H E) Y (ZH st) fb)
  (hg:∀ ts,ts.length=n->g ts=zn (fb (en0 N.length ts))):Zf P w K mg base (CX1 P w) (k+1) f fd ps (spP cl n g):=by
 subst hn
 refine Fun.okX F S spP.len fun cdv A outer s H vs Q E hr ⟨B,ts,hl,sB,r,q⟩=> ?_
 refine ⟨_,hb cdv A outer s H E ⟨B,H,E,cl⟩ rfl rfl hr (en0 N.length ts),B,SI.start (Y:=⟨B,H,E,cl⟩) sB r, ?_⟩
 rw [hg ts hl] at q
 revert q
 cases fb (en0 N.length ts) with
 | rt t=>exact fun q v H' s r=>q v H' s r
 | rf t=>exact fun q a xs H' B' s0 n e r _ l=>q (.ref a) H' s0 (.lst (by rw [Zs n]; exact e) (r.mono l))
 | nx ρ=>exact fun q σ' H' B' s' I' =>q _ H' I'.sH .non
 | bk ρ=>exact fun q=>q.elim
 | ct ρ=>exact fun q=>q.elim
 | ex c=>exact fun q=>q
 | bad=>exact fun q=>q
end
end PV
namespace PySem.W
open PySem PySem.Calls PyProof.Rows PySem.Spec Builtin Builtin.ObjectAttr Builtin.Getset_descriptor
section
variable {prog:Program} {w:World} {A:Around} {E:Value->Shared->Prop} {s:Shared} {K:Frag} {x C:Addr}
end
end PySem.W
namespace PySem.W
open PySem PySem.Calls PyProof.Rows PySem.Spec Builtin Builtin.ObjectAttr Builtin.Getset_descriptor
section
variable {prog:Program} {w:World} {A:Around} {E:Value->Shared->Prop} {s:Shared} {K:Frag} {x C:Addr}
end
end PySem.W
namespace PySem.W
open PySem PySem.Calls PyProof.Rows PySem.Spec Builtin Builtin.ObjectAttr Builtin.Getset_descriptor
section
variable {prog:Program} {w:World} {A:Around} {E:Value->Shared->Prop} {s:Shared} {K:Frag} {x C:Addr}
end
end PySem.W
namespace PV
open PySem PySem.Spec PyProof.Rows L2 PySem.W
section
variable {X:Cx} {Y:Fx} {a b:Expr} {fa fb:En->R T} {pos pos' p p' :Pos}
end
section
variable {P:Program} {w:World} {K:PySem.W.Frag} {mg:Str->Option Value} {base:Heap}
end
end PV
namespace PySem.ZG
open PySem PySem.Spec PySem.Builtin.SmallTypes
structure u7 (i:Addr) (fp:List Addr) (v:Nat->Option Value) (St:Nat->Heap->Prop):Prop where
 mem:i∈fp
 item:∀ {prog:Program} {w:World} {A:Around} {E:Value->Shared->Prop} {s:Shared} {Q:Value->Shared->Prop} {k:Nat} {x:Value},St k s.heap->v k=some x->(∀ h',St (k+1) h' ->Heap.SameBut i s.heap h' ->Q x { s with heap:=h' })->wpAny (model prog w) A (nextOf (.ref i)) Q E s
 stop:∀ {prog:Program} {w:World} {A:Around} {E:Value->Shared->Prop} {s:Shared} {Q:Value->Shared->Prop} {k:Nat},A.handled=none->St k s.heap->v k=none->(∀ h' e,Heap.ExtBut i s.heap h' ->(∃ o,h'.get? e=some o/\o.cls= .type "StopIteration")->E (.ref e) { s with heap:=h' })->wpAny (model prog w) A (nextOf (.ref i)) Q E s
 keep:∀ {k:Nat} {h h' :Heap},St k h->(∀ b∈fp,∀ o,h.get? b=some o->h'.get? b=some o)->St k h'
 there:∀ {k:Nat} {h:Heap},St k h->∀ b∈fp,∃ o,h.get? b=some o
theorem u7.but {i:Addr} {fp:List Addr} {v:Nat->Option Value} {St:Nat->Heap->Prop} (N:u7 i fp v St) {k:Nat} {h h' :Heap} {b:Addr} (x:St k h) (e:Heap.ExtBut b h h') (n:b ∉ fp):St k h' :=
 N.keep x fun c hc o q=>e c o (fun z=>n (z ▸ hc)) q
theorem V7 {i l:Addr} (hil:l ≠ i) (xs:Array Value):u7 i [i,l] (fun k=>xs[k]?) (fun k h=>h.IsListIter i l k/\h.IsList l xs) where
 mem:= .head _
 item:=fun st hx h=>wpAny_nextOf_list_item st.1 st.2 hx fun h' a b=>h h' ⟨a,st.2.extBut b.extBut hil⟩ b
 stop:=fun hh st hx h=>wpAny_nextOf_list_end hh st.1 st.2 hx h
 keep:=fun st k=>⟨st.1.at fun o e=>k i (.head _) o e,st.2.at fun o e=>k l (.tail _ (.head _)) o e⟩
 there:=fun st b hb=>by
  obtain ⟨⟨o,e,_⟩,o2,e2,_⟩:=st
  rcases List.mem_cons.mp hb with z | hb
  ·exact ⟨o,z ▸ e⟩
  ·exact ⟨o2,(List.mem_singleton.mp hb) ▸ e2⟩
end PySem.ZG
namespace PySem.ZG
open PySem PySem.Spec PySem.Builtin.SmallTypes
section
variable {prog:Program} {w:World} {A:Around} {E:Value->Shared->Prop} {s:Shared} {it l:Addr} {k:Nat} {xs:Array Value} {Q:Value->Shared->Prop}
theorem uJ (hit:s.heap.IsTupleIter it l k) (h:wpAny (model prog w) A.in1 (Builtin.«tuple_iterator.__next__» ⟨[.ref it],[]⟩) (fun fin s' =>∃ v,fin= .done (.ret v)/\Q v s') E s):wpAny (model prog w) A (nextOf (.ref it)) Q E s:=by
 unfold nextOf
 exact wpAny_bind (wpAny_callSpecial?_slot (name:=Str.ofString "__next__") hit.typeIs PySem.F.slot_tuple_iterator_next (wpAny_call_entry PySem.F.slot_tuple_iterator_next hit.typeIs PySem.F.entry_tuple_iterator_next
  (wpAny_mono h (fun fin s' ⟨v,e,q⟩=>⟨v,e,wpAny_pure q⟩) fun _ _ z=>z) (PySem.F.args_tuple_iterator_next_1 _)))
theorem tup_item (hit:s.heap.IsTupleIter it l k) (ht:s.heap.IsTuple l xs) {x:Value} (hx:xs[k]? =some x) (h:∀ h',h'.IsTupleIter it l (k+1)->Heap.SameBut it s.heap h' ->Q x { s with heap:=h' }):wpAny (model prog w) A (nextOf (.ref it)) Q E s:=by
 refine uJ hit ?_
 obtain ⟨o,ho,hc,hd⟩:=id hit
 obtain ⟨ol,hol,_,nl,hdl⟩:=ht
 refine wpAny_bind (m:=field (.ref it) 0) (wpAny_field ho hd (x:= .ref l) rfl ?_)
 rw [if_neg (show ¬((Value.ref l == Value.none)=true) by exact Bool.false_ne_true)]
 refine wpAny_bind (m:=field (.ref it) 1) (wpAny_field ho hd (x:= .int k 0) rfl (wpAny_bind (m:=seqItems? (.ref l)) (wpAny_seqItems hol hdl ?_)))
 simp only [Int.toNat_natCast,hx]
 have g:=Heap.get?_update_self (Obj.mapFields (·.setIfInBounds 1 (rawInt (k+1:Nat)))) ho (Obj.isFreed_of_fields (Obj.data_mapFields hd _))
 refine wpAny_bind (wpAny_setField ho hd (by simp) (wpAny_pure ⟨x,rfl,h _ ⟨_,g,(Obj.cls_mapFields ..).trans hc, ?_⟩ (Heap.SameBut.update ..)⟩))
 rw [Obj.data_mapFields hd]; simp [rawInt]
theorem tup_stop (hh:A.handled=none) (hit:s.heap.IsTupleIter it l k) (ht:s.heap.IsTuple l xs) (hx:xs[k]? =none)
  (h:∀ h' e,Heap.ExtBut it s.heap h' ->(∃ o,h'.get? e=some o/\o.cls= .type "StopIteration")->E (.ref e) { s with heap:=h' }):wpAny (model prog w) A (nextOf (.ref it)) Q E s:=by
 refine uJ hit ?_
 obtain ⟨o,ho,hc,hd⟩:=id hit
 obtain ⟨ol,hol,_,nl,hdl⟩:=ht
 refine wpAny_bind (m:=field (.ref it) 0) (wpAny_field ho hd (x:= .ref l) rfl ?_)
 rw [if_neg (show ¬((Value.ref l == Value.none)=true) by exact Bool.false_ne_true)]
 refine wpAny_bind (m:=field (.ref it) 1) (wpAny_field ho hd (x:= .int k 0) rfl (wpAny_bind (m:=seqItems? (.ref l)) (wpAny_seqItems hol hdl ?_)))
 simp only [Int.toNat_natCast,hx]
 refine wpAny_bind (wpAny_rule (wpAny_bind (wpAny_setField ho hd (by simp) (wpAny_bind (m:=newExc (.type "StopIteration") []) ?_))))
 simp only [newExc,newTuple]
 refine wpAny_bind (wpAny_newObj_type (wpAny_bind (m:=firstArgMember _ _) (wpAny_of_eq (a:=Value.none) (by first | rfl | (simp only [firstArgMember]; rfl)) (wpAny_newObj_type ?_ (by size_fits)))) (by size_fits))
 simp only [raiseNew]
 refine wpAny_bind (wpAny_handled ?_)
 rw [show A.in1.handled=none from hh]
 exact wpAny_bind (wpAny_pure (wpAny_throw (h _ _ (((Heap.SameBut.update ..).extBut.push _).push _) ⟨_,Heap.get?_push_size _ rfl,rfl⟩)))
end
theorem nx_tup {i l:Addr} (hil:l ≠ i) (xs:Array Value):u7 i [i,l] (fun k=>xs[k]?) (fun k h=>h.IsTupleIter i l k/\h.IsTuple l xs) where
 mem:= .head _
 item:=fun st hx h=>tup_item st.1 st.2 hx fun h' a b=>h h' ⟨a,st.2.extBut b.extBut hil⟩ b
 stop:=fun hh st hx h=>tup_stop hh st.1 st.2 hx h
 keep:=fun st k=>by
  obtain ⟨⟨o,e,r⟩,o2,e2,r2⟩:=st
  exact ⟨⟨o,k i (.head _) o e,r⟩,o2,k l (.tail _ (.head _)) o2 e2,r2⟩
 there:=fun st b hb=>by
  obtain ⟨⟨o,e,_⟩,o2,e2,_⟩:=st
  rcases List.mem_cons.mp hb with z | hb
  ·exact ⟨o,z ▸ e⟩
  ·exact ⟨o2,(List.mem_singleton.mp hb) ▸ e2⟩
end PySem.ZG
namespace PySem.ZG
open PySem PySem.Spec PySem.Builtin.SmallTypes
structure Ap (z TI TO i1 i2:Addr) (fp1 fp2:List Addr):Prop where
 Iz:TI ≠ z
 Oz:TO ≠ z
 IO:TI ≠ TO
 I1:TI ≠ i1
 I2:TI ≠ i2
 z1:z ∉ fp1
 z2:z ∉ fp2
 O1:TO ∉ fp1
 O2:TO ∉ fp2
 a:i1 ∉ fp2
 b:i2 ∉ fp1
section
variable {prog:Program} {w:World} {A:Around} {E:Value->Shared->Prop} {s:Shared} {z TI TO i1 i2:Addr} {fp1 fp2:List Addr} {v1 v2:Nat->Option Value} {S1 S2:Nat->Heap->Prop} {k:Nat} {x y a b:Value}
theorem Ap.ne1 (D:Ap z TI TO i1 i2 fp1 fp2) (N1:u7 i1 fp1 v1 S1):i1 ≠ z/\i1 ≠ TO:=⟨fun e=>D.z1 (e ▸ N1.mem),fun e=>D.O1 (e ▸ N1.mem)⟩
theorem Ap.ne2 (D:Ap z TI TO i1 i2 fp1 fp2) (N2:u7 i2 fp2 v2 S2):i2 ≠ z/\i2 ≠ TO:=⟨fun e=>D.z2 (e ▸ N2.mem),fun e=>D.O2 (e ▸ N2.mem)⟩
theorem V8 {Q:Value->Shared->Prop} (N1:u7 i1 fp1 v1 S1) (N2:u7 i2 fp2 v2 S2) (D:Ap z TI TO i1 i2 fp1 fp2) (hz:IsZip s.heap z TI TO .none) (hTI:IsPair s.heap TI (.ref i1) (.ref i2)) (hTO:IsPair s.heap TO a b) (p1:S1 k s.heap) (p2:S2 k s.heap) (hx:v1 k=some x) (hy:v2 k=some y)
  (hQ:∀ h',IsZip h' z TI TO (rawInt s.heap.objs.size)->IsPair h' TO x y->S1 (k+1) h' ->S2 (k+1) h' ->IsPair h' s.heap.objs.size x y->
   (∀ c o,c ≠ z->c ≠ TO->c ≠ i1->c ≠ i2->s.heap.get? c=some o->h'.get? c=some o)->Q (.ref s.heap.objs.size) { s with heap:=h' }):
  wpAny (model prog w) A (Builtin.«zip.__next__» ⟨[.ref z],[]⟩) (fun fin s' =>∃ v,fin= .done (.ret v)/\Q v s') E s:=by
 refine wpAny_bind (m:=field (.ref z) 2) (wpAny_field hz rfl (x:= .bool false) rfl (wpAny_bind (m:=field (.ref z) 3) (wpAny_field hz rfl (x:= .ref TI) rfl (wpAny_bind (wpAny_seqItems hTI rfl ?_)))))
 refine wpAny_bind (m:=ownedTupleIsFree (.ref z)) ?_
 unfold ownedTupleIsFree
 refine wpAny_bind (wpAny_field hz rfl (x:= .none) rfl (wpAny_pure ?_))
 simp only [if_true]
 refine wpAny_bind (wpAny_rule (wpAny_bind (wpAny_field hz rfl (x:= .ref TO) rfl (wpAny_bind (wpAny_setField_rec hz (by simp) fun g1 z1 e1=> ?_)))))
 replace z1:IsZip g1 z TI TO .ellipsis:=z1
 refine wpAny_bind ?_
 simp only [List.zipIdx_cons,List.zipIdx_nil,List.forIn_cons,List.forIn_nil]
 refine wpAny_bind (wpAny_bind (wpAny_onRaise (wpAny_bind (m:=nextOf (.ref i1)) (N1.item (N1.but p1 e1.extBut D.z1) hx fun g2 q1 e2=>wpAny_pure ?_))))
 have t2:IsPair g2 TO a b:=e2.extBut _ _ (D.ne1 N1).2.symm (e1.extBut _ _ D.Oz hTO)
 refine wpAny_bind (wpAny_seqItems t2 rfl (wpAny_bind (wpAny_updateSeq_pair t2 fun g3 t3 e3=> ?_)))
 replace t3:IsPair g3 TO x b:=t3
 refine wpAny_bind (wpAny_letGo (wpAny_pure ?_))
 refine wpAny_bind (wpAny_bind (wpAny_onRaise (wpAny_bind (m:=nextOf (.ref i2)) (N2.item (N2.but (N2.but (N2.but p2 e1.extBut D.z2) e2.extBut D.a) e3.extBut D.O2) hy fun g4 q2 e4=>wpAny_pure ?_))))
 have t4:IsPair g4 TO x b:=e4.extBut _ _ (D.ne2 N2).2.symm t3
 refine wpAny_bind (wpAny_seqItems t4 rfl (wpAny_bind (wpAny_updateSeq_pair t4 fun g5 t5 e5=> ?_)))
 replace t5:IsPair g5 TO x y:=t5
 refine wpAny_bind (wpAny_letGo (wpAny_pure (wpAny_pure ?_)))
 refine wpAny_bind (wpAny_seqItems t5 rfl (wpAny_bind (wpAny_newTuple ?_)))
 have sz:g5.objs.size=s.heap.objs.size:=by rw [e5.1,e4.1,e3.1,e2.1,e1.1]
 have z5:IsZip g5 z TI TO .ellipsis:=e5.extBut _ _ D.Oz.symm (e4.extBut _ _ (D.ne2 N2).1.symm (e3.extBut _ _ D.Oz.symm (e2.extBut _ _ (D.ne1 N1).1.symm z1)))
 have k5:∀ c o,c ≠ z->c ≠ TO->c ≠ i1->c ≠ i2->s.heap.get? c=some o->g5.get? c=some o:=fun c o c1 c2 c3 c4 e=>
  e5.extBut _ _ c2 (e4.extBut _ _ c4 (e3.extBut _ _ c2 (e2.extBut _ _ c3 (e1.extBut _ _ c1 e))))
 have r1:S1 (k+1) g5:=N1.but (N1.but (N1.but q1 e3.extBut D.O1) e4.extBut D.b) e5.extBut D.O1
 have r2:S2 (k+1) g5:=N2.but q2 e5.extBut D.O2
 refine wpAny_bind (m:=ownedTupleHandOut (.ref z) (.ref g5.objs.size)) ?_
 unfold ownedTupleHandOut
 have z6:IsZip (g5.push { cls:= .type "tuple",data:= .seq #[x,y] }) z TI TO .ellipsis:=Heap.get?_push_of_some _ z5
 refine wpAny_bind (wpAny_setField_rec z6 (by simp) fun g7 z7 e7=> ?_)
 replace z7:IsZip g7 z TI TO (rawInt g5.objs.size):=z7
 refine wpAny_setField_rec z7 (by simp) fun g8 z8 e8=> ?_
 replace z8:IsZip g8 z TI TO (rawInt g5.objs.size):=z8
 have up:∀ c o,c ≠ z->g5.get? c=some o->g8.get? c=some o:=fun c o c1 e=>e8.extBut _ _ c1 (e7.extBut _ _ c1 (Heap.get?_push_of_some _ e))
 have hn:g5.objs.size ≠ z:=Nat.ne_of_gt (Heap.lt_size z5)
 have t8:IsPair g8 g5.objs.size x y:=e8.extBut _ _ hn (e7.extBut _ _ hn (Heap.get?_push_size _ rfl))
 rw [sz] at z8 t8
 refine wpAny_pure ⟨_,rfl, ?_⟩
 show Q (.ref g5.objs.size) _
 rw [sz]
 exact hQ g8 z8 (up _ _ D.Oz t5) (N1.keep r1 fun c hc o e=>up c o (fun q=>D.z1 (q ▸ hc)) e) (N2.keep r2 fun c hc o e=>up c o (fun q=>D.z2 (q ▸ hc)) e) t8 fun c o c1 c2 c3 c4 e=>up c o c1 (k5 c o c1 c2 c3 c4 e)
theorem V9 {Q:Fin->Shared->Prop} (hh:A.handled=none) (N1:u7 i1 fp1 v1 S1) (N2:u7 i2 fp2 v2 S2) (D:Ap z TI TO i1 i2 fp1 fp2) (hz:IsZip s.heap z TI TO .none) (hTI:IsPair s.heap TI (.ref i1) (.ref i2)) (hTO:IsPair s.heap TO a b) (p1:S1 k s.heap) (p2:S2 k s.heap) (hend:v1 k=none\/v2 k=none)
  (hE:∀ h' e,(∀ c o,c ≠ z->c ≠ TO->c ≠ i1->c ≠ i2->s.heap.get? c=some o->h'.get? c=some o)->(∃ o,h'.get? e=some o/\o.cls= .type "StopIteration")->E (.ref e) { s with heap:=h' }):
  wpAny (model prog w) A (Builtin.«zip.__next__» ⟨[.ref z],[]⟩) Q E s:=by
 refine wpAny_bind (m:=field (.ref z) 2) (wpAny_field hz rfl (x:= .bool false) rfl (wpAny_bind (m:=field (.ref z) 3) (wpAny_field hz rfl (x:= .ref TI) rfl (wpAny_bind (wpAny_seqItems hTI rfl ?_)))))
 refine wpAny_bind (m:=ownedTupleIsFree (.ref z)) ?_
 unfold ownedTupleIsFree
 refine wpAny_bind (wpAny_field hz rfl (x:= .none) rfl (wpAny_pure ?_))
 simp only [if_true]
 refine wpAny_bind (wpAny_rule (wpAny_bind (wpAny_field hz rfl (x:= .ref TO) rfl (wpAny_bind (wpAny_setField_rec hz (by simp) fun g1 z1 e1=> ?_)))))
 replace z1:IsZip g1 z TI TO .ellipsis:=z1
 refine wpAny_bind ?_
 simp only [List.zipIdx_cons,List.zipIdx_nil,List.forIn_cons,List.forIn_nil]
 have off:∀ {g:Heap} {e:Addr} {oe:Obj},IsZip g z TI TO .ellipsis->g.get? e=some oe->oe.cls= .type "StopIteration"->e ≠ z:=fun hg he hc q=>by
  subst q; rw [hg] at he; cases he; simp at hc
 cases hx:v1 k with
 | none=>
  refine wpAny_bind (wpAny_bind (wpAny_onRaise (wpAny_bind (m:=nextOf (.ref i1)) (N1.stop hh (N1.but p1 e1.extBut D.z1) hx fun g2 e e2 he=> ?_))))
  obtain ⟨oe,ho,hc⟩:=he
  have z2:IsZip g2 z TI TO .ellipsis:=e2 _ _ (D.ne1 N1).1.symm z1
  exact wpAny_setField_rec z2 (by simp) fun g3 _ e3=>hE g3 e (fun c o c1 _ c3 _ q=>e3.extBut _ _ c1 (e2 _ _ c3 (e1.extBut _ _ c1 q))) ⟨oe,e3.extBut _ _ (off z2 ho hc) ho,hc⟩
 | some x=>
  have hy:v2 k=none:=by
   rcases hend with q | q
   ·rw [hx] at q; cases q
   ·exact q
  refine wpAny_bind (wpAny_bind (wpAny_onRaise (wpAny_bind (m:=nextOf (.ref i1)) (N1.item (N1.but p1 e1.extBut D.z1) hx fun g2 q1 e2=>wpAny_pure ?_))))
  have t2:IsPair g2 TO a b:=e2.extBut _ _ (D.ne1 N1).2.symm (e1.extBut _ _ D.Oz hTO)
  refine wpAny_bind (wpAny_seqItems t2 rfl (wpAny_bind (wpAny_updateSeq_pair t2 fun g3 t3 e3=>wpAny_bind (wpAny_letGo (wpAny_pure ?_)))))
  refine wpAny_bind (wpAny_bind (wpAny_onRaise (wpAny_bind (m:=nextOf (.ref i2)) (N2.stop hh (N2.but (N2.but (N2.but p2 e1.extBut D.z2) e2.extBut D.a) e3.extBut D.O2) hy fun g4 e e4 he=> ?_))))
  obtain ⟨oe,ho,hc⟩:=he
  have z4:IsZip g4 z TI TO .ellipsis:=e4 _ _ (D.ne2 N2).1.symm (e3.extBut _ _ D.Oz.symm (e2.extBut _ _ (D.ne1 N1).1.symm z1))
  exact wpAny_setField_rec z4 (by simp) fun g5 _ e5=>hE g5 e (fun c o c1 c2 c3 c4 q=>e5.extBut _ _ c1 (e4 _ _ c4 (e3.extBut _ _ c2 (e2.extBut _ _ c3 (e1.extBut _ _ c1 q))))) ⟨oe,e5.extBut _ _ (off z4 ho hc) ho,hc⟩
theorem Va {Q:Option Value->Shared->Prop} (N1:u7 i1 fp1 v1 S1) (N2:u7 i2 fp2 v2 S2) (D:Ap z TI TO i1 i2 fp1 fp2) (hz:IsZip s.heap z TI TO .none) (hTI:IsPair s.heap TI (.ref i1) (.ref i2)) (hTO:IsPair s.heap TO a b) (p1:S1 k s.heap) (p2:S2 k s.heap) (hx:v1 k=some x) (hy:v2 k=some y)
  (hQ:∀ h',IsZip h' z TI TO (rawInt s.heap.objs.size)->IsPair h' TO x y->S1 (k+1) h' ->S2 (k+1) h' ->IsPair h' s.heap.objs.size x y->
   (∀ c o,c ≠ z->c ≠ TO->c ≠ i1->c ≠ i2->s.heap.get? c=some o->h'.get? c=some o)->Q (some (.ref s.heap.objs.size)) { s with heap:=h' }):wpAny (model prog w) A (pyNext (.ref z)) Q E s:=by
 have ty:s.TypeIs (.ref z) "zip":=⟨_,hz,rfl⟩
 unfold pyNext
 exact wpAny_bind (wpAny_attempt (wpAny_callSpecial?_slot (name:=Str.ofString "__next__") ty PySem.F.slot_zip_next (wpAny_call_entry PySem.F.slot_zip_next ty PySem.F.entry_zip_next
  (V8 N1 N2 D hz hTI hTO p1 p2 hx hy fun h' a1 a2 a3 a4 a5 a6=>wpAny_pure (hQ h' a1 a2 a3 a4 a5 a6)) (PySem.F.args_zip_next_1 _))))
theorem Vb {Q:Option Value->Shared->Prop} (hh:A.handled=none) (N1:u7 i1 fp1 v1 S1) (N2:u7 i2 fp2 v2 S2) (D:Ap z TI TO i1 i2 fp1 fp2) (hz:IsZip s.heap z TI TO .none) (hTI:IsPair s.heap TI (.ref i1) (.ref i2)) (hTO:IsPair s.heap TO a b) (p1:S1 k s.heap) (p2:S2 k s.heap) (hend:v1 k=none\/v2 k=none)
  (hQ:∀ h',(∀ c o,c ≠ z->c ≠ TO->c ≠ i1->c ≠ i2->s.heap.get? c=some o->h'.get? c=some o)->Q none { s with heap:=h' }):wpAny (model prog w) A (pyNext (.ref z)) Q E s:=by
 have ty:s.TypeIs (.ref z) "zip":=⟨_,hz,rfl⟩
 unfold pyNext
 refine wpAny_bind (wpAny_attempt (wpAny_callSpecial?_slot (name:=Str.ofString "__next__") ty PySem.F.slot_zip_next (wpAny_call_entry PySem.F.slot_zip_next ty PySem.F.entry_zip_next
  (V9 hh N1 N2 D hz hTI hTO p1 p2 hend fun h' e kp he=> ?_) (PySem.F.args_zip_next_1 _))))
 obtain ⟨o,ho,hc⟩:=he
 exact wpAny_bind (wpAny_isInstance (T:="StopIteration") (b:=true) ⟨o,ho,hc⟩ isSubtype_stop (wpAny_pure (hQ _ kp)))
end
end PySem.ZG
namespace PySem.ZG
open PySem PySem.Spec PySem.Builtin.SmallTypes
structure Vc (l:Addr) (o:Obj) (P:Heap->Prop):Prop where
 go:∀ {prog:Program} {w:World} {A:Around} {E:Value->Shared->Prop} {s:Shared} {Q:Value->Shared->Prop},P s.heap->Q (.ref s.heap.objs.size) { s with heap:=s.heap.push o }->wpAny (model prog w) A (pyIter (.ref l)) Q E s
 push:∀ {h:Heap} (o' :Obj),P h->P (h.push o')
 fresh:o.isFreed=false
abbrev oL (l:Addr):Obj:={ cls:= .type "list_iterator",data:= .fields #[.ref l, .int 0 0] }
abbrev oT (l:Addr):Obj:={ cls:= .type "tuple_iterator",data:= .fields #[.ref l, .int 0 0] }
theorem Vd (l:Addr) (xs:Array Value):Vc l (oL l) (fun h=>h.IsList l xs):=⟨fun p q=>wpAny_pyIter_list p q,fun o p=>Heap.IsList.push p o,rfl⟩
theorem X1 (l:Addr) (xs:Array Value):Vc l (oT l) (fun h=>h.IsTuple l xs):=⟨fun p q=>wpAny_pyIter_tuple p q,fun o p=>Heap.IsTuple.push p o,rfl⟩
abbrev zh2 (h:Heap) (o1 o2:Obj):Heap:=(h.push o1).push o2
abbrev zh3 (h:Heap) (o1 o2:Obj):Heap:=(zh2 h o1 o2).push { cls:= .type "tuple",data:= .seq #[.ref h.objs.size, .ref (h.push o1).objs.size] }
abbrev zh4 (h:Heap) (o1 o2:Obj):Heap:=(zh3 h o1 o2).push { cls:= .type "tuple",data:= .seq #[.none, .none] }
abbrev zh5 (h:Heap) (o1 o2:Obj):Heap:=(zh4 h o1 o2).push { cls:= .type "zip",data:= .fields #[.none, .bool false, .bool false, .ref (zh2 h o1 o2).objs.size, .ref (zh3 h o1 o2).objs.size] }
theorem X2 {l1 l2:Addr} {o1 o2:Obj} {P1 P2:Heap->Prop} (J1:Vc l1 o1 P1) (J2:Vc l2 o2 P2):
  Meets (Builtin.«zip.__new__» ⟨[.type "zip", .ref l1, .ref l2],[]⟩) (fun _ R s=>P1 s.heap/\P2 s.heap/\R (.ok (.ret (.ref (zh4 s.heap o1 o2).objs.size))) { s with heap:=zh5 s.heap o1 o2 }):=
 .of_wp fun prog w A R s h=>by
  obtain ⟨hp,g,d,tk,os⟩:=s
  obtain ⟨q1,q2,h⟩:=h
  have hsub:=sub_zip
  have c1:P1 (Shared.heap ⟨hp,g,d,tk,os⟩):=q1
  have c2:P2 (Shared.heap ⟨hp.push o1,g,d,tk,os⟩):=J2.push o1 q2
  wp_walk using J1.go c1,J2.go c2
  exact ⟨_,rfl,h⟩
end PySem.ZG
namespace PySem.ZG
open PySem PySem.Spec PySem.Builtin.SmallTypes
theorem Ve {prog:Program} {w:World} {A:Around} {E:Value->Shared->Prop} {s:Shared} {l1 l2:Addr} {o1 o2:Obj} {P1 P2:Heap->Prop} {Q:Value->Shared->Prop} (J1:Vc l1 o1 P1) (J2:Vc l2 o2 P2) (q1:P1 s.heap) (q2:P2 s.heap)
  (h:∀ h' n,n=s.heap.objs.size->IsZip h' (n+4) (n+2) (n+3) .none->IsPair h' (n+2) (.ref n) (.ref (n+1))->IsPair h' (n+3) .none .none->h'.get? n=some o1->h'.get? (n+1)=some o2->
   (∀ c o,s.heap.get? c=some o->h'.get? c=some o)->Q (.ref (n+4)) { s with heap:=h' }):wpAny (model prog w) A (call (.type "zip") [.ref l1, .ref l2]) Q E s:=by
 refine callType_new PySem.F.called_zip (by decide) (PySem.F.typeCall_zip_2 _ _) (PySem.F.newCall_zip_2 _ _) (fun obj=>PySem.F.args_object_init_3 obj _ _) PySem.F.entry_zip_new (X2 J1 J2) ⟨q1,q2, ?_⟩
 have n1:(s.heap.push o1).objs.size=s.heap.objs.size+1:=Heap.size_push ..
 have n2:(zh2 s.heap o1 o2).objs.size=s.heap.objs.size+2:=by rw [Heap.size_push,n1]
 have n3:(zh3 s.heap o1 o2).objs.size=s.heap.objs.size+3:=by rw [Heap.size_push,n2]
 have n4:(zh4 s.heap o1 o2).objs.size=s.heap.objs.size+4:=by rw [Heap.size_push,n3]
 have up:∀ {h:Heap} {c:Addr} {o:Obj} (o' :Obj),h.get? c=some o->(h.push o').get? c=some o:=fun o' e=>Heap.get?_push_of_some o' e
 have e5:(zh5 s.heap o1 o2).get? (zh4 s.heap o1 o2).objs.size=some _:=Heap.get?_push_size _ rfl
 have e4:(zh5 s.heap o1 o2).get? (zh3 s.heap o1 o2).objs.size=some _:=up _ (Heap.get?_push_size _ rfl)
 have e3:(zh5 s.heap o1 o2).get? (zh2 s.heap o1 o2).objs.size=some _:=up _ (up _ (Heap.get?_push_size _ rfl))
 have e2:(zh5 s.heap o1 o2).get? (s.heap.push o1).objs.size=some _:=up _ (up _ (up _ (Heap.get?_push_size _ J2.fresh)))
 have e1:(zh5 s.heap o1 o2).get? s.heap.objs.size=some _:=up _ (up _ (up _ (up _ (Heap.get?_push_size _ J1.fresh))))
 show _/\_
 rw [n2,n3,n4] at e5
 rw [n1,n2] at e3
 rw [n3] at e4
 rw [n1] at e2
 rw [n4]
 exact ⟨⟨_,e5,rfl⟩,h _ _ rfl e5 e3 e4 e1 e2 fun c o q=>up _ (up _ (up _ (up _ (up _ q))))⟩
end PySem.ZG
namespace PV
open PySem PySem.Spec PyProof.Rows L2 PySem.ZG
inductive SK where
 | l | t
def SK.it:SK->Heap->Addr->Addr->Nat->Prop
 | .l=>fun h i l k=>h.IsListIter i l k
 | .t=>fun h i l k=>h.IsTupleIter i l k
def SK.has:SK->Heap->Addr->Array Value->Prop
 | .l=>fun h l xs=>h.IsList l xs
 | .t=>fun h l xs=>h.IsTuple l xs
def SK.sq (K:PySem.W.Frag):SK->Hp->Addr->List V->Prop
 | .l=>fun H a xs=>SqL K H a xs
 | .t=>fun H a xs=>SqT K H a xs
def SK.tr:SK->List V->HO
 | .l=> .lst
 | .t=> .tup
def SK.ob:SK->Addr->Obj
 | .l=>oL
 | .t=>oT
theorem SK.nx (k:SK) {i l:Addr} (h:l ≠ i) (xs:Array Value):u7 i [i,l] (fun n=>xs[n]?) (fun n hp=>k.it hp i l n/\k.has hp l xs):=by
 cases k with
 | l=>exact V7 h xs
 | t=>exact nx_tup h xs
theorem SK.of (k:SK) (l:Addr) (xs:Array Value):Vc l (k.ob l) (fun h=>k.has h l xs):=by
 cases k with
 | l=>exact Vd l xs
 | t=>exact X1 l xs
theorem SK.start (k:SK) {h:Heap} {i l:Addr} (e:h.get? i=some (k.ob l)):k.it h i l 0:=by
 cases k with
 | l=>exact ⟨_,e,rfl,rfl⟩
 | t=>exact ⟨_,e,rfl,rfl⟩
theorem SK.obj {k:SK} {h:Heap} {i l:Addr} {n:Nat} (x:k.it h i l n):∃ o,h.get? i=some o/\∀ v,o.data ≠ .cell v:=by
 cases k with
 | l=>obtain ⟨o,e,_,d⟩:=x; exact ⟨o,e,fun v z=>by rw [d] at z; cases z⟩
 | t=>obtain ⟨o,e,_,d⟩:=x; exact ⟨o,e,fun v z=>by rw [d] at z; cases z⟩
theorem SK.at_ {k:SK} {h h' :Heap} {i l:Addr} {n:Nat} (x:k.it h i l n) (q:∀ o,h.get? i=some o->h'.get? i=some o):k.it h' i l n:=by
 cases k with
 | l=>obtain ⟨o,e,r⟩:=x; exact ⟨o,q o e,r⟩
 | t=>obtain ⟨o,e,r⟩:=x; exact ⟨o,q o e,r⟩
theorem SK.sqOf {K:PySem.W.Frag} (k:SK) {H:Hp} {a:Addr} {xs:List V} (e:H a=some (k.tr xs)):k.sq K H a xs:=by
 cases k with
 | l=>exact SqL.of e
 | t=>exact SqT.of e
theorem Inv.seq {X:Cx} {pins:List (Addr×Obj)} {σ:Sg} {H:Hp} {s:Shared} (I:L2.Inv X pins σ H s) (k:SK) {a:Addr} {xs:List V} (h:k.sq X.K H a xs):∃ its:List Value,Ze xs its/\k.has s.heap a its.toArray/\∃ o,s.heap.get? a=some o:=by
 cases k with
 | l=>
  obtain ⟨its,r,p,_⟩:=I.list h
  obtain ⟨o,_,e,_⟩:=id p
  exact ⟨its,r,p.isList,o,e⟩
 | t=>
  obtain ⟨its,r,p,_⟩:=I.tuple h
  obtain ⟨o,e,_⟩:=id p
  exact ⟨its,r,p,o,e⟩
def Itz (K:PySem.W.Frag) (k1 k2:SK) (l1 l2:Addr):It:=
 ⟨fun i H=>∃ xs ys x y,k1.sq K H l1 xs/\k2.sq K H l2 ys/\xs[i]? =some x/\ys[i]? =some y,fun i H v H' =>∃ p x y,H p=none/\v= .ref p/\(∀ xs,k1.sq K H l1 xs->xs[i]? =some x)/\(∀ ys,k2.sq K H l2 ys->ys[i]? =some y)/\H' =upd H p (.tup [x,y]),
  fun i H=>∃ xs ys,k1.sq K H l1 xs/\k2.sq K H l2 ys/\(xs.length<=i\/ys.length<=i)⟩
theorem Inv.seq_inj {X:Cx} {pins:List (Addr×Obj)} {σ:Sg} {H:Hp} {s:Shared} (I:L2.Inv X pins σ H s) (k:SK) {a:Addr} {xs ys:List V} (h:k.sq X.K H a xs) (h' :k.sq X.K H a ys):xs=ys:=by
 cases k with
 | l=>exact I.list_inj h h'
 | t=>exact I.tuple_inj h h'
theorem nN {a b:Nat} (h:a ≠ b): @Ne Addr a b:=h
theorem nM {a b c:Nat} (h:a ≠ b) (h' :a ≠ c):¬ @Membership.mem Addr (List Addr) _ [b,c] a:=fun q=>by
 rcases List.mem_cons.mp q with z | z
 ·exact h z
 ·exact h' (List.mem_singleton.mp z)
theorem qH {P:Program} {w:World} {K:PySem.W.Frag} {elts:List Expr} {kk:Nat} {pt:Pos} (k1 k2:SK) {n l1 l2:Nat} (h1:l1 < n) (h2:l2 < n):
  Ud P w K (.Tuple elts kk pt) (Itz K k1 k2 l1 l2) [n+4,n+2,n+3,n,n+1] (n+4)
   (fun i h=>IsZip h (n+4) (n+2) (n+3) .none/\IsPair h (n+2) (.ref n) (.ref (n+1))/\(∃ a b,IsPair h (n+3) a b)/\k1.it h n l1 i/\k2.it h (n+1) l2 i):=by
 have D:Ap (n+4) (n+2) (n+3) n (n+1) [n,l1] [n+1,l2]:=by
  refine ⟨nN (by omega),nN (by omega),nN (by omega),nN (by omega),nN (by omega),nM (by omega) (by omega),nM (by omega) (by omega),nM (by omega) (by omega),nM (by omega) (by omega),nM (by omega) (by omega),nM (by omega) (by omega)⟩
 refine ⟨by simp,fun i h st b hb=> ?_,fun i h h' st k=> ?_, ?_, ?_, ?_⟩
 ·obtain ⟨hz,hI,⟨a,c,hO⟩,p1,p2⟩:=st
  simp only [List.mem_cons,List.not_mem_nil,or_false] at hb
  rcases hb with rfl | rfl | rfl | rfl | rfl
  ·exact ⟨_,hz,fun v z=>nomatch z⟩
  ·exact ⟨_,hI,fun v z=>nomatch z⟩
  ·exact ⟨_,hO,fun v z=>nomatch z⟩
  ·exact SK.obj p1
  ·exact SK.obj p2
 ·obtain ⟨hz,hI,⟨a,c,hO⟩,p1,p2⟩:=st
  exact ⟨k _ (by simp) _ hz,k _ (by simp) _ hI,⟨a,c,k _ (by simp) _ hO⟩,SK.at_ p1 fun o e=>k n (by simp) o e,SK.at_ p2 fun o e=>k (n+1) (by simp) o e⟩
 ·intro X hP hw hK hc i pins s σ H E I hf st hg
  subst hP hw hK
  obtain ⟨xs,ys,x,y,s1,s2,hx,hy⟩:=hg
  obtain ⟨hz,hI,⟨a,c,hO⟩,p1,p2⟩:=st
  obtain ⟨its1,r1,b1,_⟩:=Inv.seq I k1 s1
  obtain ⟨its2,r2,b2,_⟩:=Inv.seq I k2 s2
  obtain ⟨u,hu,ru⟩:=r1.get hx
  obtain ⟨v,hv,rv⟩:=r2.get hy
  refine Va (k1.nx (Nat.ne_of_lt h1) its1.toArray) (k2.nx (i:=n+1) (nN (by omega)) its2.toArray) D hz hI hO ⟨p1,b1⟩ ⟨p2,b2⟩ (x:=u) (y:=v) (by simpa using hu) (by simpa using hv) fun g a1 a2 a3 a4 a5 kp=>⟨_,rfl, ?_⟩
  refine wpAny_letOwnedTupleGo_zip a1 fun g2 z2 e2=> ?_
  have hlt:n+4 < s.heap.objs.size:=Heap.lt_size hz
  have ne:∀ b:Nat,b<=n+4->s.heap.objs.size ≠ b:=fun b hb=>by
   have hlt:n+4 < s.heap.objs.size:=hlt
   omega
  have kp2:∀ b o,b ∉ [n+4,n+2,n+3,n,n+1]->s.heap.get? b=some o->g2.get? b=some o:=fun b o hb e=>by
   simp only [List.mem_cons,List.not_mem_nil,or_false,not_or] at hb
   exact e2.extBut _ _ hb.1 (kp b o hb.1 hb.2.2.1 hb.2.2.2.1 hb.2.2.2.2 e)
  have g2P:IsPair g2 s.heap.objs.size u v:=e2.extBut _ _ (ne _ (Nat.le_refl _)) a5
  have g2I:IsPair g2 (n+2) (.ref n) (.ref (n+1)):=e2.extBut _ _ D.Iz (kp _ _ D.Iz D.IO D.I1 D.I2 hI)
  have g2O:IsPair g2 (n+3) u v:=e2.extBut _ _ D.Oz a2
  have q1:k1.it g2 n l1 (i+1):=SK.at_ a3.1 fun o e=>e2.extBut _ _ (nN (by omega)) e
  have q2:k2.it g2 (n+1) l2 (i+1):=SK.at_ a4.1 fun o e=>e2.extBut _ _ (nN (by omega)) e
  have hfr:H s.heap.objs.size=none:=I.hok.fresh (Nat.le_refl _)
  refine ⟨.ref s.heap.objs.size,upd H s.heap.objs.size (.tup [x,y]),Inv.laidT (s:=s) (h' :=g2) (ch:=[n+4,n+2,n+3,n,n+1]) (tk:=s.toks) I hf kp2 (fun b o hb _=> ?_) (Nat.le_refl _)
   ⟨by rw [sizeLine_eq]; show 2<=16777216; decide,[u,v], .cons ru (.cons rv .nil),⟨_,g2P,rfl,_,rfl⟩, .inr ⟨_,g2P,rfl⟩⟩,rfl,⟨_,x,y,hfr,rfl,fun zs hq=>by rw [← Inv.seq_inj I k1 s1 hq]; exact hx,fun zs hq=>by rw [← Inv.seq_inj I k2 s2 hq]; exact hy,rfl⟩,⟨z2,g2I,⟨u,v,g2O⟩,q1,q2⟩,fun b hb=> ?_⟩
  ·simp only [List.mem_cons,List.not_mem_nil,or_false] at hb
   rcases hb with rfl | rfl | rfl | rfl | rfl
   ·exact ⟨_,z2⟩
   ·exact ⟨_,g2I⟩
   ·exact ⟨_,g2O⟩
   ·obtain ⟨o',e',_⟩:=SK.obj q1; exact ⟨o',e'⟩
   ·obtain ⟨o',e',_⟩:=SK.obj q2; exact ⟨o',e'⟩
  ·have hb2:(b:Nat)<=n+4:=by
    have hb:b=n+4\/b=n+2\/b=n+3\/b=n\/b=n+1:=by simpa using hb
    rcases hb with rfl | rfl | rfl | rfl | rfl
    ·exact Nat.le_refl _
    ·exact Nat.add_le_add_left (by decide) n
    ·exact Nat.add_le_add_left (by decide) n
    ·exact Nat.le_add_right _ _
    ·exact Nat.add_le_add_left (by decide) n
   rw [zH fun z=>ne b hb2 z.symm]
   exact (hf b hb).1
 ·intro X hP hw hK hc i pins s σ H E I hf st hg
  subst hP hw hK
  obtain ⟨xs,ys,s1,s2,hend⟩:=hg
  obtain ⟨hz,hI,⟨a,c,hO⟩,p1,p2⟩:=st
  obtain ⟨its1,r1,b1,_⟩:=Inv.seq I k1 s1
  obtain ⟨its2,r2,b2,_⟩:=Inv.seq I k2 s2
  have l1' :=r1.length
  have l2' :=r2.length
  refine Vb (I.ok.hd hc) (k1.nx (Nat.ne_of_lt h1) its1.toArray) (k2.nx (i:=n+1) (nN (by omega)) its2.toArray) D hz hI hO ⟨p1,b1⟩ ⟨p2,b2⟩ (k:=i) ?_ fun g kp=>⟨rfl, ?_⟩
  ·rcases hend with q | q
   ·exact .inl (Array.getElem?_eq_none (by rw [List.size_toArray,← l1']; exact q))
   ·exact .inr (Array.getElem?_eq_none (by rw [List.size_toArray,← l2']; exact q))
  ·have kp2:∀ b o,b ∉ [n+4,n+3,n,n+1]->s.heap.get? b=some o->g.get? b=some o:=fun b o hb e=>by
    simp only [List.mem_cons,List.not_mem_nil,or_false,not_or] at hb
    exact kp b o hb.1 hb.2.1 hb.2.2.1 hb.2.2.2 e
   have nch:∀ b u,H b=some u->b ∉ [n+4,n+3,n,n+1]:=fun b u e hb=>by
    have hb' :b∈[n+4,n+2,n+3,n,n+1]:=by
     simp only [List.mem_cons,List.not_mem_nil,or_false] at hb ⊢
     rcases hb with q | q | q | q
     ·exact .inl q
     ·exact .inr (.inr (.inl q))
     ·exact .inr (.inr (.inr (.inl q)))
     ·exact .inr (.inr (.inr (.inr q)))
    rw [(hf b hb').1] at e; cases e
   refine I.call' (s' :={ s with heap:=g }) (ch:=[n+4,n+3,n,n+1]) rfl ⟨fun b o e _ _ hc=>kp2 b o hc e,fun b o e _ _ hc=>⟨o.slots,kp2 b o hc e⟩,fun b o e q _=>q,fun b o e hc=>⟨o,kp2 b o hc e⟩,fun b ys e=>e,fun b o u e=>e,fun b ps e=>⟨#[],by rw [e]; simp⟩⟩ (fun b u e=> ?_) I.bare fun b hb=> ?_
   ·refine (I.hok b u e).stay (fun c v hc q=>kp2 c v ?_ q) (fun _ q=>q) fun _ _ q=>q
    rcases hc with rfl | hc
    ·exact nch c u e
    ·exact nch c _ hc
   ·have hb' :b∈[n+4,n+2,n+3,n,n+1]:=by
     simp only [List.mem_cons,List.not_mem_nil,or_false] at hb ⊢
     rcases hb with q | q | q | q
     ·exact .inl q
     ·exact .inr (.inr (.inl q))
     ·exact .inr (.inr (.inr (.inl q)))
     ·exact .inr (.inr (.inr (.inr q)))
    obtain ⟨f0,f1,f2,f3,f4,f5⟩:=hf b hb'
    exact ⟨f3,f1,f4,f5⟩
 ·intro A i s Q E st h
  exact wpAny_pyIter_zip st.1 h
def qI (xs ys:List T):List T:=(xs.zip ys).map fun p=>T.tup [p.1,p.2]
theorem qJ {xs ys:List T} {i:Nat} {t:T} (h:(qI xs ys)[i]? =some t):∃ x y,xs[i]? =some x/\ys[i]? =some y/\t= .tup [x,y]:=by
 unfold qI at h
 rw [List.getElem?_map] at h
 cases e:(xs.zip ys)[i]? with
 | none=>rw [e] at h; cases h
 | some p=>
  rw [e] at h
  cases h
  have:=List.getElem?_zip_eq_some.mp e
  exact ⟨p.1,p.2,this.1,this.2,rfl⟩
theorem u8 (xs ys:List T):(qI xs ys).length=min xs.length ys.length:=by unfold qI; simp
theorem X3 {K:PySem.W.Frag} {B1 H1:Hp} {k1 k2:SK} {a b:Addr} {xs ys:List V} {ts us:List T} (ha:B1 a=some (k1.tr xs)) (hb:B1 b=some (k2.tr ys)) (ra:zR B1 xs ts) (rb:zR B1 ys us):rI B1 H1 (Itz K k1 k2 a b) (qI ts us):=fun B2 H2 s1 s2=>by
 have a2:=k1.sqOf (K:=K) (s2 _ _ (s1 _ _ ha))
 have b2:=k2.sqOf (K:=K) (s2 _ _ (s1 _ _ hb))
 rw [u8]
 refine ⟨fun i hi=> ?_,fun i t x H3 e y=> ?_,fun i hi=>⟨xs,ys,a2,b2, ?_⟩⟩
 ·obtain ⟨v,e1,_⟩:=ra.get (List.getElem?_eq_getElem (show i < ts.length by omega))
  obtain ⟨u,e2,_⟩:=rb.get (List.getElem?_eq_getElem (show i < us.length by omega))
  exact ⟨xs,ys,v,u,a2,b2,e1,e2⟩
 ·obtain ⟨p,v,u,hp,rfl,y1,y2,rfl⟩:=y
  obtain ⟨t1,t2,et,eu,rfl⟩:=qJ e
  obtain ⟨v',e1,r1⟩:=ra.get et
  obtain ⟨u',e2,r2⟩:=rb.get eu
  have q1:=y1 xs a2
  have q2:=y2 ys b2
  rw [e1] at q1; cases q1
  rw [e2] at q2; cases q2
  have up:=zW.ge s2 (zK.new hp (.tup [v,u]))
  exact ⟨zK.new hp _, .tup (jk hp _) (.cons ((r1.mono s1).mono up) (.cons ((r2.mono s1).mono up) .nil))⟩
 ·rw [ra.length,rb.length]; omega
section
variable {X:Cx} {Y:Fx} {a b:Expr} {fa fb:En->R T} {pos p pt:Pos} {elts:List Expr} {kk:Nat}
theorem X4 {ta:TA} (hg:Gl X "zip") (hm:X.mg "zip"=none) (ha:PA X [a,b] ta) (hs:starEach [a,b] X.env=[(false,eval a X.env),(false,eval b X.env)]) (hs2:starEach [b] X.env=[(false,eval b X.env)]):
  PI X (.Tuple elts kk pt) (.Call (.Name "zip" p) [a,b] [] pos) (fun σ H R=>ta σ H fun vs H1=>∃ k1 k2 l1 l2 xs ys,vs=[.ref l1, .ref l2]/\H1 l1=some (SK.tr k1 xs)/\H1 l2=some (SK.tr k2 ys)/\R (Itz X.K k1 k2 l1 l2) H1):=by
 intro pins s σ H R I h
 refine Call_ (jd I hg hm PyProof.Rows.Boot.«zip» (PyProof.Rows.callWith_type1 (thn (ha pos pins s σ H _ I h) fun us s1 ⟨vs,H1,I1,r1,q1⟩=> ?_) (by rw [hs,hs2]) (by rw [hs2]; rfl)))
 obtain ⟨k1,k2,l1,l2,xs,ys,e,h1,h2,q⟩:=q1
 subst e
 obtain ⟨u,v,rfl,ru,rv⟩:=y6 r1
 obtain rfl:u=Value.ref l1:=ru
 obtain rfl:v=Value.ref l2:=rv
 obtain ⟨its1,_,b1,o1,e1⟩:=Inv.seq I1 k1 (k1.sqOf h1)
 obtain ⟨its2,_,b2,o2,e2⟩:=Inv.seq I1 k2 (k2.sqOf h2)
 refine Ve (k1.of l1 its1.toArray) (k2.of l2 its2.toArray) b1 b2 fun g n hn z1 z2 z3 z4 z5 kp=>wpAny_pyIter_zip z1 ?_
 subst hn
 have f:∀ b∈[s1.heap.objs.size+4,s1.heap.objs.size+2,s1.heap.objs.size+3,s1.heap.objs.size,s1.heap.objs.size+1],W2 X pins H1 b:=fun b hb=>by
  have hb' :s1.heap.objs.size<=b:=by
   simp only [List.mem_cons,List.not_mem_nil,or_false] at hb
   rcases hb with rfl | rfl | rfl | rfl | rfl
   ·exact Nat.le_add_right _ _
   ·exact Nat.le_add_right _ _
   ·exact Nat.le_add_right _ _
   ·exact Nat.le_refl _
   ·exact Nat.le_add_right _ _
  exact I1.fpOk hb' (I1.hok.fresh hb')
 exact ⟨s1.heap.objs.size+4,_,_,_,H1,rfl,I1.kept (t' :=s1.toks) kp,qH k1 k2 (Heap.lt_size e1) (Heap.lt_size e2),⟨z1,z2,⟨_,_,z3⟩,SK.start k1 z4,SK.start k2 z5⟩,f,q⟩
def wL:T->R (List T)
 | .lst xs=> .ok xs
 | .tup xs=> .ok xs
 | _=> .bad
def KM (fa fb:En->R T):En->R (List T):=fun ρ=>(fa ρ).bind fun t=>(fb ρ).bind fun u=>(wL t).bind fun xs=>(wL u).bind fun ys=> .ok (qI xs ys)
theorem yE {B:Hp} {v:V} {t:T} {xs:List T} (r:Rep B v t) (e:wL t= .ok xs):∃ (k:SK) (a:Addr) (vs:List V),v= .ref a/\B a=some (k.tr vs)/\zR B vs xs:=by
 cases r with
 | lst h r=>cases e; exact ⟨.l,_,_,rfl,h,r⟩
 | tup h r=>cases e; exact ⟨.t,_,_,rfl,h,r⟩
 | _=>cases e
theorem uK (t:T) (c:Nat):wL t ≠ .ex c:=by cases t <;> exact fun z=>nomatch z
theorem KN (hg:Gl X "zip") (hm:X.mg "zip"=none) (ha:Snd X Y a fa) (hb:Snd X Y b fb) (hs:starEach [a,b] X.env=[(false,eval a X.env),(false,eval b X.env)]:=by exact st2 rfl rfl) (hs2:starEach [b] X.env=[(false,eval b X.env)]:=by exact st1 rfl):
  Uu X Y (.Tuple elts kk pt) (.Call (.Name "zip" p) [a,b] [] pos) (KM fa fb):= .mk fun ρ=>
 PI.imp (X4 hg hm (zD (ha ρ) (zD (hb ρ) Z8 hs2) (by rw [hs,hs2])) hs hs2) fun σ H R ⟨B,I,q⟩=>step I q fun t v H1 _ s1 r1 I1 q1=>step I1 q1 fun u v' H2 _ s2 r2 I2 q2=>by
  cases e1:wL t with
  | bad=>rw [e1] at q2; exact q2.elim
  | ex c=>exact absurd e1 (uK _ _)
  | ok xs=>
   rw [e1] at q2
   cases e2:wL u with
   | bad=>rw [e2] at q2; exact q2.elim
   | ex c=>exact absurd e2 (uK _ _)
   | ok ys=>
    rw [e2] at q2
    obtain ⟨k1,a1,vs1,rfl,h1,w1⟩:=yE (r1.mono (zW.ge I1.sB s2)) e1
    obtain ⟨k2,a2,vs2,rfl,h2,w2⟩:=yE r2 e2
    exact ⟨k1,k2,a1,a2,vs1,vs2,rfl,I2.sB _ _ h1,I2.sB _ _ h2,j0 I2 (show Po Y rI _ H2 (.ok (qI xs ys)) R from q2) (X3 h1 h2 w1 w2)⟩
end
end PV
namespace PV
open PySem PySem.Spec PyProof.Rows L2
section
variable {X:Cx} {Y:Fx} {a b:Expr} {fa fb:En->R T} {pos p p' pos' :Pos}
def W7:T->R T
 | .bl b=> .ok (.int (b2 b))
 | .int i=> .ok (.int i)
 | _=> .bad
theorem KO (v:V) (t:T) (B H:Hp) (Q:VK) (r:Rep B v t) (sB:zK B H) (q:Po Y rC B H (W7 t) Q):
  (∃ i,[v]=[V.int i]/\Q (.int i) H)\/∃ k,[v]=[V.bl k]/\Q (.int (if k then 1 else 0)) H:=by
 cases r with
 | int i=>exact .inl ⟨i,rfl,po0 sB q rfl (.int i)⟩
 | bl k=>exact .inr ⟨k,rfl,po0 sB q rfl (by cases k <;> exact .int _)⟩
 | _=>exact q.elim
theorem uL (gl:Gl X "int") (mg:X.mg "int"=none) (ha:Snd X Y a fa) (hs:St1 X a:=by exact st1 rfl):Snd X Y (.Call (.Name "int" p) [a] [] pos) (ap1 W7 fa):=
 uD y8 KO gl mg (PyProof.Rows.Boot.«int») ha hs
theorem yF:ZS X (.type "range") (fun xs H Q=>∃ i j,xs=[.int i, .int j]/\∀ r,H r=none->Q (.ref r) (upd H r (.rng i j))):=by
 intro pins s σ H xs us Q I r h
 obtain ⟨i,j,rfl,q⟩:=h
 obtain ⟨u,v,rfl,ru,rv⟩:=y6 r
 obtain ⟨t,rfl⟩:=ru
 obtain ⟨t',rfl⟩:=rv
 exact call_range_2 ⟨.ref s.heap.objs.size,_,I.laid (t' :=s.toks+1) (fun b o e=>Heap.get?_push_of_some _ e) (Nat.le_refl _) (show ZF X.prog X.w _ _ _ (.rng i j) from ⟨_,_,_,Heap.get?_push_size _ rfl⟩),rfl,q _ (I.hok.fresh (Nat.le_refl _))⟩
def YX (lo:Int) (n:Nat):List V:=(List.range n).map fun (i:Nat)=>V.int (lo+(i:Int))
theorem wM (hh:X.A.handled=none):ZS X (.type "list") (fun xs H Q=>∃ r lo hi,xs=[.ref r]/\H r=some (.rng lo hi)/\(-1000000 < lo/\lo < 1000000/\ -1000000 < hi/\hi < 1000000)/\∀ l,H l=none->Q (.ref l) (upd H l (.lst (YX lo (hi - lo).toNat)))):=by
 intro pins s σ H xs us Q I rv h
 obtain ⟨r,lo,hi,rfl,e,⟨c1,c2,c3,c4⟩,q⟩:=h
 obtain ⟨u,rfl,ru⟩:=ZT rv
 obtain rfl:u=Value.ref r:=ru
 obtain ⟨t,v,v',eo⟩:=(show ZF X.prog X.w H s.heap r (.rng lo hi) from I.hok r _ e)
 have hn:Builtin.Range.rangeSize lo hi 1=((hi - lo).toNat:Int):=by rw [rangeSize_one]; split <;> omega
 refine call_list_range (n:=(hi - lo).toNat) hh eo (small_one (by omega) (by omega) (by omega) (by omega)) hn (by omega) fun h' tk acc c kp eo' hacc=> ?_
 have hv:Ze (YX lo (hi - lo).toNat) acc.toList:=by
  have key:∀ (n:Nat) (lo:Int) (vs:List Value),vs.length=n->(∀ (j:Nat) (v:Value),vs[j]? =some v->∃ t,v=Value.int (lo+(j:Int)) t)->Ze (YX lo n) vs:=by
   intro n
   induction n with
   | zero=>
    intro lo vs hl _
    rw [List.eq_nil_of_length_eq_zero hl]
    exact .nil
   | succ n ih=>
    intro lo vs hl hv
    cases vs with
    | nil=>cases hl
    | cons v vs=>
     have e:YX lo (n+1)=V.int (lo+0) :: YX (lo+1) n:=by
      unfold YX
      rw [List.range_succ_eq_map,List.map_cons,List.map_map]
      refine congrArg _ (List.map_congr_left fun j _=> ?_)
      show V.int (lo+((j+1:Nat):Int))=V.int (lo+1+(j:Int))
      congr 1; omega
     rw [e]
     refine .cons (hv 0 v rfl) (ih (lo+1) vs (by simpa using hl) fun j x hx=> ?_)
     obtain ⟨t,z⟩:=hv (j+1) x (by simpa using hx)
     exact ⟨t,by rw [z]; congr 1; omega⟩
  refine key _ lo acc.toList (by simpa using hacc.1) fun j v hj=> ?_
  obtain ⟨t,z⟩:=hacc.2 j v (by simpa using hj)
  exact ⟨t,by rw [z]; congr 1; omega⟩
 have hz:(YX lo (hi - lo).toNat).length<=sizeLine:=by
  rw [sizeLine_eq]; unfold YX; rw [List.length_map,List.length_range]; omega
 exact ⟨.ref s.heap.objs.size,_,I.laid (t' :=tk) kp (Nat.le_refl _) (show ZF X.prog X.w _ h' _ (.lst _) from ⟨hz,acc.toList,c,hv,by simpa using eo'⟩),rfl,q _ (I.hok.fresh (Nat.le_refl _))⟩
def kA (fi:En->R (List T)):En->R T:=fun ρ=>(fi ρ).bind fun ts=> .ok (.lst ts)
theorem yG {B:Hp} (lo:Int) (n:Nat):zR B (YX lo n) (rng lo n):=by
 unfold YX rng
 induction List.range n with
 | nil=>exact .nil
 | cons i is ih=>exact .cons (.int _) ih
theorem Vf (hh:X.A.handled=none) (gl:Gl X "list") (mg:X.mg "list"=none) (gl' :Gl X "range") (mg' :X.mg "range"=none) (ha:Snd X Y a fa) (hb:Snd X Y b fb)
  (hs:starEach [a,b] X.env=[(false,eval a X.env),(false,eval b X.env)]:=by exact st2 rfl rfl) (hs2:St1 X b:=by exact st1 rfl):Snd X Y (.Call (.Name "list" p) [.Call (.Name "range" p') [a,b] [] pos'] [] pos) (kA (Jn fa fb)):= .mk fun ρ=>
 PE.imp (jS (wM hh) gl mg PyProof.Rows.Boot.«list» (zD (jS yF gl' mg' boot_range (zD (ha ρ) (zD (hb ρ) Z8 hs2) (by rw [hs,hs2])) (by decide) (by decide) (by rw [hs,hs2]) (by rw [hs2]; rfl)) Z8 (st1 rfl)) (by decide) (by decide) (st1 rfl) rfl) fun σ H Q ⟨B,I,q⟩=>by
  have q:Po Y rC B H ((fa ρ).bind fun t=>(fb ρ).bind fun t' =>(match t,t' with | .int i, .int j=>if -1000000 < i/\i < 1000000/\ -1000000 < j/\j < 1000000 then R.ok (rng i (j - i).toNat) else .bad | _,_=> .bad).bind fun ts=> .ok (.lst ts)) Q:=by
   revert q
   unfold kA Jn
   cases fa ρ with
   | ok t=>cases fb ρ <;> exact fun q=>q
   | ex c=>exact fun q=>q
   | bad=>exact fun q=>q
  refine step I q fun t v H1 _ s1 r1 I1 q1=>step I1 q1 fun t' v' H2 _ s2 r2 I2 q2=> ?_
  cases r1 with
  | int i=>
   cases r2 with
   | int j=>
    by_cases c: -1000000 < i/\i < 1000000/\ -1000000 < j/\j < 1000000
    ·dsimp only at q2
     rw [if_pos c] at q2
     refine ⟨i,j,rfl,fun r hr=>⟨r,i,j,rfl,Zb,c,fun l hl=> ?_⟩⟩
     have hlr:l ≠ r:=fun z=>by rw [z,Zb] at hl; cases hl
     have hl2:H2 l=none:=by rw [zH hlr] at hl; exact hl
     refine q2 _ _ (zK.new hr _ |>.trans (zK.new hl _)) (.lst ?_ (yG _ _))
     rw [Zs hl2,Zb]
    ·dsimp only at q2
     rw [if_neg c] at q2
     exact q2.elim
   | _=>exact q2.elim
  | _=>cases r2 <;> exact q2.elim
def mvS (i j:Nat):En->RS:=fun ρ=>match ρ[j]? with
 | some (.ow ts)=> .nx ((ρ.set j (.vl (.lst ts))).set i (.vl (.lst ts)))
 | _=> .bad
theorem SI.give {Y:Fx} {B:Hp} {ρ:En} {σ:Sg} {H:Hp} (I:SI Y B ρ σ H) {j:Nat} {ts:List T} (hj:ρ[j]? =some (.ow ts)):∃ (a:Addr) (B' :Hp),σ[j]? =some (some (V.ref a))/\zK B B' /\Rep B' (.ref a) (.lst ts)/\SI Y B' (ρ.set j (.vl (.lst ts))) σ H:=by
 obtain ⟨a,xs,e,b0,h0,hh,rr,d⟩:=I.ow j ts hj
 have s1:zK B (upd B a (.lst xs)):=zK.new b0 _
 have rp:Rep (upd B a (.lst xs)) (.ref a) (.lst ts):= .lst Zb (rr.mono s1)
 refine ⟨a,_,e,s1,rp,⟨I.s0,I.sH,fun b o q=> ?_,fun b o q=> ?_,by rw [List.length_set]; exact I.len,fun k t q=> ?_,fun k us q=> ?_,fun k c q=> ?_⟩⟩
 ·by_cases hb:b=a
  ·subst hb; rw [Zb] at q; cases q; exact hh
  ·rw [zH hb] at q; exact I.sB b o q
 ·rw [zH fun z=>by rw [z,h0] at q; cases q]; exact I.old b o q
 ·rcases Z5 q with ⟨rfl,z⟩ | ⟨_,z⟩
  ·cases z; exact ⟨_,e,rp⟩
  ·obtain ⟨v,e1,r⟩:=I.vl k t z; exact ⟨v,e1,r.mono s1⟩
 ·rcases Z5 q with ⟨rfl,z⟩ | ⟨hk,z⟩
  ·cases z
  ·obtain ⟨a',xs',e',b0',h0',hh',rr',d'⟩:=I.ow k us z
   have hne:a' ≠ a:=fun w=>by subst w; exact d k us hk z e'
   refine ⟨a',xs',e',by rw [zH hne]; exact b0',h0',hh',rr'.mono s1,fun m ws hm hw=> ?_⟩
   rcases Z5 hw with ⟨rfl,w⟩ | ⟨_,w⟩
   ·cases w
   ·exact d' m ws hm w
 ·rcases Z5 q with ⟨rfl,z⟩ | ⟨_,z⟩
  ·cases z
  ·obtain ⟨a',e',r⟩:=I.xc k c z; exact ⟨a',e',s1 _ _ r⟩
theorem s_mv {i j:Nat} {x y:Str} {yp:Pos} (hv:PE X (.Name y yp) (vb j)) (hN:X.N.Nodup) (hi:X.N[i]? =some x) (hx:L2.Loc X.env.scope x) (hs:swapsWith (.Name y yp) (some (.Name x p')) pos.line X.env=pure false:=by rfl)
  (hf:X.fn x=true\/X.env.scope.names.lookup x=some .local:=by first | exact .inl rfl | exact .inr rfl | assumption):W6 X Y (.Assign [.Name x p'] (.Name y yp) pos) (mvS i j):= .mk fun ρ=>
 PS.imp (UV hN hi hx hv hs hf) fun D σ H ⟨B,I,q⟩=>by
  unfold mvS at q
  split at q
  ·rename_i ts e
   obtain ⟨a,B',e1,s1,r,J⟩:=I.give e
   exact ⟨_,e1,q _ _ B' s1 (J.setV i r)⟩
  ·exact q.elim
end
section
variable {X:Cx} {Y:Fx} {a b:Expr} {fa fb:En->R T} {pos p p' pos' :Pos}
end
def jt:List T->Option (List Int)
 | []=>some []
 | .int i :: r=>match jt r with | some l=>some (i :: l) | none=>none
 | _ :: _=>none
def Vg:T->R T
 | .lst ts=>match jt ts with | some l=> .ok (.int l.sum) | none=> .bad
 | _=> .bad
def kB (fi:En->R (List T)) (g:T->En->R En) (ft:En->R Bool) (fe:En->R T) (k:Nat) (js:List Nat):En->RS:=fun ρ=>(fi (frz ρ)).s fun ts=>(zS g ft fe k js (frz ρ) ts).s fun vs=> .rf vs
def nex (g:List T->R T):List T->R T:=fun ts=>quiet (g ts)
theorem noex {P:Program} {w:World} {K:PySem.W.Frag} {mg:Str->Option Value} {base:Heap} {cl:Nat->Value} {k n:Nat} {f:Addr} {fd:FuncData} {ps:List Str} {g:List T->R T} (F:Zf P w K mg base (CX1 P w) k f fd ps (spP cl n g)):Zf P w K mg base CX0 k f fd ps (spP cl n (nex g)):=by
 have key:∀ vs H Q E,spP cl n (nex g) vs H Q E->spP cl n g vs H Q (fun _ _ _=>False):=fun vs H Q E ⟨B,ts,hl,sB,r,q⟩=>⟨B,ts,hl,sB,r,by
  unfold nex at q
  revert q
  cases g ts with
  | ok t=>exact fun q=>q
  | ex c=>exact fun q=>q.elim
  | bad=>exact fun q=>q.elim⟩
 refine ⟨fun vs H Q E h=>F.len vs H Q _ (key vs H Q E h),fun A outer s H args us vs Q E hr he hb hv h=> ?_⟩
 refine codeAny_mono (F.run A outer s H args us vs Q _ hr he hb hv (key vs H Q E h)) fun r s' z=> ?_
 cases r with
 | ok fl=>cases fl <;> exact z
 | error e=>
  obtain ⟨_,_,_,_,_,_,_,z⟩:=(show CX1 P w outer H s (fun _ _ _=>False) e s' from z)
  exact z.elim
theorem yH:∀ {H:Hp} {xs:List V} {ts:List T} {its:List Value} {is:List Int},zR H xs ts->Ze xs its->jt ts=some is->∃ ps:List (Int×Tok),its=ps.map (fun p=>Value.int p.1 p.2)/\ps.map (·.1)=is
 | _,_,_,_,is, .nil, .nil,h=>by
  have h' :some []=some is:=h
  cases h'
  exact ⟨[],rfl,rfl⟩
 | H,_,_,_,is, .cons (v:=x) (t:=t) r rs, .cons (b:=u) rv vs,h=>by
  cases r with
  | int i=>
   unfold jt at h
   split at h
   ·rename_i l e
    cases h
    obtain ⟨ps,h1,h2⟩:=yH rs vs e
    obtain ⟨tk,rfl⟩:=rv
    exact ⟨(i,tk) :: ps,by rw [h1]; rfl,by rw [List.map_cons,h2]⟩
   ·cases h
  | _=>cases h
section
variable {X:Cx} {Y:Fx} {a b:Expr} {fa fb:En->R T} {pos p p' pos' :Pos}
theorem yI (hh:X.A.handled=none):ZS X (.builtin "sum") (fun vs H Q=>∃ l xs ts is,vs=[.ref l]/\H l=some (.lst xs)/\zR H xs ts/\jt ts=some is/\Q (.int is.sum) H):=by
 intro pins s σ H vs us Q I rv h
 obtain ⟨l,xs,ts,is,rfl,hl,r,hk,q⟩:=h
 obtain ⟨u,rfl,ru⟩:=ZT rv
 obtain rfl:u=Value.ref l:=ru
 obtain ⟨its,rv,p,_⟩:=zX I (.inl hl) r
 obtain ⟨ps,h1,h2⟩:=yH r rv hk
 have e:its.toArray=intItems ps.toArray:=by rw [h1]; simp [intItems]
 rw [e] at p
 refine sum_intListG hh p fun h' tk t' kp=> ?_
 have e2:preSum (numAt ps.toArray) ps.toArray.size=is.sum:=by
  rw [preSum_eq,List.take_of_length_le (by simp),← h2]
 rw [e2]
 exact ⟨.int is.sum,H,I.kept (t' :=tk) kp,⟨t',rfl⟩,q⟩
theorem X5 (hh:X.A.handled=none) (gl:Gl X "sum") (mg:X.mg "sum"=none) (ha:J6 X Y a fa) (hs:St1 X a:=by exact st1 rfl):Snd X Y (.Call (.Name "sum" p) [a] [] pos) (ap1 Vg fa):=
 uC (yI hh) (fun v t B H Q r sB q=>by
  cases r with
  | @lst l xs ts h r=>
   have q:Po Y rC B H (match jt ts with | some k=> .ok (.int k.sum) | none=> .bad) Q:=q
   split at q
   ·rename_i k e
    exact ⟨l,xs,ts,k,rfl,h,r,e,po0 sB q rfl (.int _)⟩
   ·exact q.elim
  | _=>exact q.elim) gl mg boot_sum ha hs
end
section
variable {X:Cx} {Y:Fx} {a b:Expr} {fa fb:En->R T} {pos p p' pos' :Pos}
end
section
variable {X:Cx} {Y:Fx} {tg iter elt:Expr} {ifs:List Expr} {scope:Scope} {pos pos' :Pos} {N' :List Str} {k:Nat} {js:List Nat} {fi:En->R (List T)} {tG:TG} {g:T->En->R En} {ft:En->R Bool} {fe:En->R T}
theorem X6 (C:uI X Y tg iter elt ifs scope N' k js fi tG g ft fe):W6 X Y (.Return (some (.ListComp elt [⟨tg,iter,ifs,0⟩] scope pos)) pos') (kB fi g ft fe k js):= .mk fun ρ=>by
 have pe:PE X (.ListComp elt [⟨tg,iter,ifs,0⟩] scope pos) (fun σ H Q=>∃ B,SI Y B (frz ρ) σ H/\PoS Y B ((fi (frz ρ)).s fun ts=>(zS g ft fe k js (frz ρ) ts).s fun vs=> .rf vs) { nx:=fun _ _=>False,rt:=Q }):=by
  intro pins s σ H Q I ⟨B,J,q⟩
  rw [eval_ListComp]
  refine wH (use:=none) (Q:=EP X pins σ Q) (F:=fun D H' =>Q (.ref D) H') (te:=fun σ H Q=>∃ Y' ρ',Y'.cl=Y.cl/\tS Y' rC fe ρ' σ H Q) (tt:=fun σ H Q=>∃ Y' ρ',Y'.cl=Y.cl/\tS Y' rE ft ρ' σ H Q) C.sc C.cp C.cm (C.it (frz ρ)) C.gt
   (fun cl Cx' s3 H3 fp pins pins' s σ H Q I ⟨Y',ρ',ey,q⟩=>C.tt Y' ey cl Cx' s3 H3 fp pins ρ' pins' s σ H Q I q) (fun cl Cx' s3 H3 fp pins pins' s σ H Q I ⟨Y',ρ',ey,q⟩=>C.el Y' ey cl Cx' s3 H3 fp pins ρ' pins' s σ H Q I q) I ?_ ?_ C.hs
  ·refine w4 J q fun ts it' H1 _ s1 r1 J1 q1=> ?_
   intro D hD
   unfold zS at q1
   split at q1
   ·rename_i hl
    cases ev:zM g ft fe ts (Wq k js (frz ρ)) with
    | bad=>rw [ev] at q1; exact q1.elim
    | ex c=>rw [ev] at q1; exact q1.elim
    | ok vs=>
     rw [ev] at q1
     refine JL C.gk C.gn J1 r1 hl ev hD fun H' xs B' s' e' r' l' b' sb' => ?_
     exact (show PoS Y _ (.rf vs) _ from q1) D xs H' B' (J1.sH.trans s') (J1.sH.free hD) e' r' b' (l'.trans (Qq J1.sH J1.old s' J1.sB))
   ·exact q1.elim
  ·intro D Cc H' s' I' q' hC h0 hL hcell hpin hns
   obtain ⟨m,hm⟩:=hns
   refine ⟨m,hm,fun h' hsb=>⟨.ref D,H', ?_,rfl,q'⟩⟩
   exact I'.turned (t' :=s'.toks) (fun b o hb e=>hsb.extBut b o hb e) hC (Ne.symm hL).symm (.inr h0) hcell hpin
 refine PS.imp (Qh pe) fun D σ H ⟨B,I,q⟩=>⟨_,I.frz, ?_⟩
 have q:=PoS.up I.up q
 unfold kB at q
 revert q
 cases fi (frz ρ) with
 | bad=>exact fun q=>q
 | ex c=>exact fun q=>q
 | ok ts=>
  show PoS Y _ ((zS g ft fe k js (frz ρ) ts).s fun vs=> .rf vs) D->PoS Y _ ((zS g ft fe k js (frz ρ) ts).s fun vs=> .rf vs) _
  cases zS g ft fe k js (frz ρ) ts with
  | bad=>exact fun q=>q
  | ex c=>exact fun q=>q
  | ok vs=>exact fun q=>q
end
section
variable {P:Program} {w:World} {K:PySem.W.Frag} {mg:Str->Option Value} {base:Heap}
end
end PV
namespace PySem.RV
open PySem PySem.Spec PyProof.Rows PySem.Builtin.SmallTypes
theorem uM:Manifest.owners.lookup (String.ofList "desrever".toList.reverse)=some Manifest.sig_reversed:=by kernel_rfl
theorem ju:Slot "reversed" "__next__" "reversed.__next__":=
 .of (owner:="reversed") (n:="__next__") (by rw [typeLookup_type,builtinLookup_eq_fast]; kernel_rfl) (by decide+kernel) (by decide+kernel) (by decide+kernel)
  (by first | exact .inl (by decide+kernel) | exact .inr (by decide+kernel)) (by rw [isSubtype_type]; kernel_rfl)
theorem wq:entryFor table "reversed.__next__"=some Builtin.«reversed.__next__»:=entryFor_of_tree (by kernel_rfl)
theorem Ws (a:Value):argsOk "reversed.__next__" ⟨[a],[]⟩:=by
 unfold argsOk; rw [signature?_of (id:="reversed.__next__") (n:="__txen__".toList) (o:="desrever".toList) (by kernel_rfl) uM]; kernel_rfl
theorem Wt:Slot "reversed" "__iter__" "reversed.__iter__":=
 .of (owner:="reversed") (n:="__iter__") (by rw [typeLookup_type,builtinLookup_eq_fast]; kernel_rfl) (by decide+kernel) (by decide+kernel) (by decide+kernel)
  (by first | exact .inl (by decide+kernel) | exact .inr (by decide+kernel)) (by rw [isSubtype_type]; kernel_rfl)
theorem yJ (a:Value):argsOk "reversed.__iter__" ⟨[a],[]⟩:=by
 unfold argsOk; rw [signature?_of (id:="reversed.__iter__") (n:="__reti__".toList) (o:="desrever".toList) (by kernel_rfl) uM]; kernel_rfl
theorem Uw:entryFor table "reversed.__iter__"=some Builtin.«dict_keyiterator.__iter__»:=
 entryFor_alias (id' :="dict_keyiterator.__iter__") (by kernel_rfl) (by first | rfl | decide+kernel | (unfold String.splitOn; simp+decide [String.splitOnAux])) (by decide+kernel) (by kernel_rfl)
theorem X7:typeLookup (.type "tuple") "__reversed__"=pure none:=by rw [typeLookup_type,builtinLookup_eq_fast]; kernel_rfl
theorem X8:isSubtype (.type "tuple") (.type "dict")=pure false:=by rw [isSubtype_type]; kernel_rfl
abbrev IsRv (h:Heap) (it:Addr) (v:Value) (i:Int):Prop:=h.get? it=some { cls:= .type "reversed",data:= .fields #[v,rawInt i] }
section
variable {prog:Program} {w:World} {A:Around} {E:Value->Shared->Prop} {s:Shared} {it l:Addr} {xs:Array Value}
theorem u9 {v:Value} {i:Int} (x:IsRv s.heap it v i):s.TypeIs (.ref it) "reversed":=⟨_,x,rfl⟩
theorem next_item {i:Nat} {x:Value} {Q:Option Value->Shared->Prop} (hit:IsRv s.heap it (.ref l) (i:Int)) (ht:IsTup s.heap l xs) (hf:(xs.size:Int) < 2 ^ 63) (hx:xs[i]? =some x)
  (hQ:∀ h' tk,IsRv h' it (.ref l) ((i:Int) - 1)->Heap.SameBut it s.heap h' ->Q (some x) { s with heap:=h',toks:=tk }):wpAny (model prog w) A (pyNext (.ref it)) Q E s:=by
 unfold pyNext
 refine wpAny_bind (wpAny_attempt (wpAny_callSpecial?_slot (name:=Str.ofString "__next__") (u9 hit) ju (wpAny_call_entry ju (u9 hit) wq ?_ (Ws _))))
 unfold Builtin.«reversed.__next__»
 refine wpAny_bind (wpAny_of_eq (a:=(Value.ref it,[])) rfl ?_)
 dsimp only
 refine wpAny_bind (wpAny_field hit rfl (x:= .ref l) rfl ?_)
 refine wpAny_bind (wpAny_field hit rfl (x:=rawInt (i:Int)) rfl ?_)
 show wpAny _ _ (if (i:Int) < 0 then _ else _) _ _ s
 rw [if_neg (by omega)]
 have hi:i < xs.size:=(Array.getElem?_eq_some_iff.mp hx).1
 have hT:=ht.typeIs (s:=s)
 refine wpAny_bind (wpAny_specialOf hT slot_tuple_getitem.lookup ?_)
 show wpAny _ _ (if (some _:Option Value).isNone=true then _ else _) _ _ s
 rw [if_neg (by simp)]
 refine wpAny_bind (wpAny_mkInt ?_)
 refine wpAny_bind (wpAny_attempt (getItem_tuple (s:={ s with toks:=s.toks+1 }) ht (by omega) (by omega) (seqIndex_of (by omega) (by omega)) (by simpa using hx) ?_))
 dsimp only
 refine wpAny_bind (wpAny_field (s:={ s with toks:=s.toks+1 }) hit rfl (x:=rawInt (i:Int)) rfl ?_)
 show wpAny _ _ (setField (.ref it) 1 (rawInt ((i:Int) - 1)) >>= _) _ _ _
 refine wpAny_bind (wpAny_setField_rec (s:={ s with toks:=s.toks+1 }) hit (by simp) fun g1 z1 e1=> ?_)
 exact wpAny_pure ⟨x,rfl,wpAny_pure (hQ g1 _ z1 e1)⟩
theorem next_end {Q:Option Value->Shared->Prop} (hh:A.handled=none) (hit:IsRv s.heap it (.ref l) (-1))
  (hQ:∀ h',Heap.ExtBut it s.heap h' ->Q none { s with heap:=h' }):wpAny (model prog w) A (pyNext (.ref it)) Q E s:=by
 unfold pyNext
 refine wpAny_bind (wpAny_attempt (wpAny_callSpecial?_slot (name:=Str.ofString "__next__") (u9 hit) ju (wpAny_call_entry ju (u9 hit) wq ?_ (Ws _))))
 unfold Builtin.«reversed.__next__»
 refine wpAny_bind (wpAny_of_eq (a:=(Value.ref it,[])) rfl ?_)
 dsimp only
 refine wpAny_bind (wpAny_field hit rfl (x:= .ref l) rfl ?_)
 refine wpAny_bind (wpAny_field hit rfl (x:=rawInt (-1)) rfl ?_)
 show wpAny _ _ (if (-1:Int) < 0 then _ else _) _ _ s
 rw [if_pos (by decide)]
 refine wpAny_bind (wpAny_rule ?_)
 refine wpAny_bind (show wpAny _ _ (do setField (.ref it) 1 (rawInt (-1)); setField (.ref it) 0 .none) _ _ _ from ?_)
 refine wpAny_bind (wpAny_setField_rec hit (by simp) fun g1 z1 e1=> ?_)
 refine wpAny_setField_rec (s:={ s with heap:=g1 }) z1 (by simp) fun g2 z2 e2=> ?_
 refine wpAny_bind (show wpAny _ _ (newExc (.type "StopIteration") [] >>= fun e=>raiseNew e) _ _ _ from ?_)
 refine wpAny_bind ?_
 simp only [newExc,newTuple]
 refine wpAny_bind (wpAny_newObj_type (wpAny_bind (m:=firstArgMember _ _) (wpAny_of_eq (a:=Value.none) (by first | rfl | (simp only [firstArgMember]; rfl)) (wpAny_newObj_type ?_ (by size_fits)))) (by size_fits))
 simp only [raiseNew]
 refine wpAny_bind (wpAny_handled ?_)
 rw [show A.in1.handled=none from hh]
 refine wpAny_bind (wpAny_pure (wpAny_throw ?_))
 refine wpAny_bind (wpAny_isInstance (T:="StopIteration") (b:=true) ⟨_,Heap.get?_push_size _ rfl,rfl⟩ isSubtype_stop ?_)
 exact wpAny_pure (hQ _ (((e1.extBut.trans e2.extBut).push _).push _))
theorem iter_rv {v:Value} {i:Int} {Q:Value->Shared->Prop} (hit:IsRv s.heap it v i) (h:Q (.ref it) s):wpAny (model prog w) A (pyIter (.ref it)) Q E s:=by
 refine wpAny_pyIter_slot (u9 hit) Wt (wpAny_call_entry Wt (u9 hit) Uw ?_ (yJ _))
 show wpAny _ _ (ret (.ref it)) _ _ s
 exact wpAny_pure ⟨_,rfl,"reversed",_,u9 hit,ju.lookup,h⟩
theorem Qz:mroOf (.type "reversed")=pure [.type "reversed", .type "object"]:=by rw [mroOf_type]; kernel_rfl
theorem X9:typeLookup (.type "reversed") "__new__"=pure (some (.builtin "reversed.__new__")):=by rw [typeLookup_type,builtinLookup_eq_fast]; kernel_rfl
theorem Vh:Bind.madeBy (.type "reversed")=pure (some "reversed.__new__"):=madeBy_type Qz X9 (by decide+kernel)
theorem Xa:isSubtype (.type "reversed") (.type "reversed")=pure true:=by rw [isSubtype_type]; kernel_rfl
theorem Xb (a:Value):newClass "reversed" ⟨[.type "reversed",a],[]⟩=pure (.type "reversed",[a]):=by
 unfold newClass
 simp only [isType,Xa,pure_bind,Bool.not_true,Bool.false_eq_true,if_false]
theorem yK:entryFor table "reversed.__new__"=some Builtin.«reversed.__new__»:=entryFor_of_tree (by kernel_rfl)
theorem qK {Q:Fin->Shared->Prop} (ht:IsTup s.heap l xs) (hf:(xs.size:Int) < 2 ^ 63)
  (h:∀ tk,Q (.done (.ret (.ref s.heap.objs.size))) { s with heap:=s.heap.push { cls:= .type "reversed",data:= .fields #[.ref l,rawInt ((xs.size:Int) - 1)] },toks:=tk }):
  wpAny (model prog w) A (Builtin.«reversed.__new__» ⟨[.type "reversed", .ref l],[]⟩) Q E s:=by
 have hT:=ht.typeIs (s:=s)
 unfold Builtin.«reversed.__new__»
 refine wpAny_bind (wpAny_of_eq (Xb _) ?_)
 try dsimp only
 refine wpAny_bind (wpAny_of_eq (a:=()) (by first | rfl | kernel_rfl) ?_)
 refine wpAny_bind (wpAny_of_eq (a:=()) (by first | rfl | kernel_rfl) ?_)
 try dsimp only
 refine wpAny_bind (wpAny_specialOf hT X7 ?_)
 try dsimp only
 refine wpAny_bind (m:=(do
   if ← isInstance (.ref l) (.type "dict") then return false
   match ← specialOf (.ref l) "__getitem__" with
   | none=>return false
   | some (.builtin id)=>
    if ["tuple.__getitem__","str.__getitem__","bytes.__getitem__","bytearray.__getitem__","memoryview.__getitem__","numpy.ndarray.__getitem__","sqlite3.Row.__getitem__"].contains id then return true
    if id == "sqlite3.Blob.__getitem__" then return false
    unsupported "reversed.__new__:is-it-a-sequence"
   | some _=>return true)) ?_
 refine wpAny_bind (wpAny_isInstance hT X8 ?_); rw [if_neg (by simp)]
 refine wpAny_bind (wpAny_specialOf hT slot_tuple_getitem.lookup ?_)
 dsimp only
 rw [if_pos (by decide)]
 refine wpAny_pure ?_
 rw [if_neg (by simp)]
 refine wpAny_bind (len_tuple ht hf ?_)
 refine wpAny_bind (wpAny_of_eq (a:=some (xs.size:Int)) rfl ?_)
 dsimp only
 refine wpAny_bind (show wpAny _ _ (newObj (.type "reversed") (.fields #[.ref l,rawInt ((xs.size:Int) - 1)])) _ _ _ from ?_)
 exact wpAny_newObj_type (wpAny_pure (h _)) (by size_fits)
theorem yL:Slot "reversed" "__init__" "object.__init__":=
 .of (owner:="object") (n:="__init__") (by rw [typeLookup_type,builtinLookup_eq_fast]; kernel_rfl) (by decide+kernel) (by decide+kernel) (by decide+kernel)
  (by first | exact .inl (by decide+kernel) | exact .inr (by decide+kernel)) (by rw [isSubtype_type]; kernel_rfl)
theorem yM:TypeCalled "reversed" "reversed.__new__" "object.__init__":=
 ⟨by decide+kernel,by decide+kernel,⟨_,_,Qz⟩,Vh,by decide+kernel,by rw [isSubtype_type]; kernel_rfl,yL⟩
theorem qL (a:Value):checkTypeCall "reversed" ⟨[a],[]⟩=pure ():=by kernel_rfl
theorem qM (a:Value):checkBuiltinCall "reversed.__new__" ⟨[.type "reversed",a],[]⟩=pure ():=by kernel_rfl
theorem call_rvT {Q:Value->Shared->Prop} (ht:IsTup s.heap l xs) (hf:(xs.size:Int) < 2 ^ 63)
  (h:∀ tk,Q (.ref s.heap.objs.size) { s with heap:=s.heap.push { cls:= .type "reversed",data:= .fields #[.ref l,rawInt ((xs.size:Int) - 1)] },toks:=tk }):wpAny (model prog w) A (call (.type "reversed") [.ref l]) Q E s:=by
 refine callType_new (S:=fun _ R s=>(∃ xs,IsTup s.heap l xs/\(xs.size:Int) < 2 ^ 63/\∀ tk,R (.ok (.ret (.ref s.heap.objs.size))) { s with heap:=s.heap.push { cls:= .type "reversed",data:= .fields #[.ref l,rawInt ((xs.size:Int) - 1)] },toks:=tk })) yM (by decide) (qL _) (qM _) (fun obj=>PySem.F.args_object_init_2 obj _) yK (.of_wp fun prog w A R s h=> ?_) ⟨xs,ht,hf,fun tk=> ?_⟩
 ·obtain ⟨xs,h1,h2,h3⟩:=h
  exact qK h1 h2 fun tk=>⟨_,rfl,h3 tk⟩
 ·exact ⟨⟨_,Heap.get?_push_size _ rfl,rfl⟩,h tk⟩
end
end PySem.RV
namespace PySem.RV
open PySem PySem.Spec PyProof.Rows
theorem qN:typeLookup (.type "list_reverseiterator") "__len__"=pure none:=by rw [typeLookup_type,builtinLookup_eq_fast]; kernel_rfl
theorem Vi:typeLookup (.type "list_reverseiterator") "__length_hint__"=pure (some (.builtin "list_reverseiterator.__length_hint__")):=by rw [typeLookup_type,builtinLookup_eq_fast]; kernel_rfl
section
variable {prog:Program} {w:World} {A:Around} {E:Value->Shared->Prop} {s:Shared} {I:Addr} {fp wr:List Addr} {G:Array GenState->Array GenState->Prop} {n:Nat} {P:Nat->Value->Prop} {St:Nat->Shared->Prop}
theorem Ux {Q:List Value->Shared->Prop} (W:WalksS prog w A.in1 I fp wr G n P St) (hT:∀ i s,St i s->s.TypeIs (.ref I) "list_reverseiterator") (hst:St 0 s) (hfp:∀ b∈fp,b < s.heap.objs.size) (hI:I∈fp)
  (hQ:∀ s' acc,Moved wr G s s' ->ItemsOf P acc n->Q acc.toList s') (hn:n<=sizeLine):wpAny (model prog w) A (collect (.ref I)) Q E s:=by
 have nf:s.heap.objs.size ∉ fp:=fun z=>Nat.lt_irrefl _ (hfp _ z)
 have nI:s.heap.objs.size ≠ I:=fun z=>nf (z ▸ hI)
 unfold collect
 refine wpAny_bind (wpAny_runValue (codeAny_builtin F.entry_proto_collect ?_))
 rw [Around.under_plainId F.plain_proto_collect _]
 refine (show wpAny _ A.in1 (newList [] >>= fun l=>again (.builtin "list.__iadd__" ⟨[l, .ref I],[]⟩)) _ _ s from ?_)
 refine wpAny_bind (wpAny_newObj_type (wpAny_pure ⟨plainId_quiet F.plain_list_iadd _,codeAny_builtin F.entry_list_iadd ?_⟩))
 rw [Around.under_plainId F.plain_list_iadd _]
 have g0:=W.frame 0 s (s.heap.push { cls:= .type "list",data:= .seq ([]:List Value).toArray }) s.toks hst (Nat.le_refl _) fun b _ o e=>Heap.get?_push_of_some _ e
 have g1:(s.heap.push { cls:= .type "list",data:= .seq ([]:List Value).toArray }).get? s.heap.objs.size=some { cls:= .type "list",data:= .seq ([]:List Value).toArray }:=Heap.get?_push_size _ rfl
 have g2:Builtin.List.listSameRef (.ref s.heap.objs.size) (.ref I)=false:=by simp [Builtin.List.listSameRef,nI]
 refine (show wpAny _ A.in1 (Builtin.List.listExtendWith (.ref s.heap.objs.size) (.ref I) (.ref s.heap.objs.size)) _ _ _ from ?_)
 unfold Builtin.List.listExtendWith
 refine wpAny_bind (wpAny_typeOf (hT 0 _ g0) ?_)
 rw [if_neg (by rw [g2]; decide)]
 refine wpAny_bind (W.self 0 _ _ _ g0 (wpAny_bind (wpAny_holding ?_)))
 unfold Builtin.List.listLengthHint
 refine wpAny_bind (wpAny_specialOf (hT 0 _ g0) qN ?_)
 refine (show wpAny _ A.in1 (specialOf (Value.ref I) (Str.ofString "__length_hint__") >>= _) _ _ _ from ?_)
 refine wpAny_bind (wpAny_specialOf (hT 0 _ g0) Vi ?_)
 generalize hid:("list_reverseiterator.__length_hint__":String)=id0
 wp_delta
 rw [show splitId id0=some ("list_reverseiterator","__length_hint__") from by subst hid; decide+kernel]
 subst hid
 refine wpAny_bind (wpAny_isInstance (b:=true) (hT 0 _ g0) (by rw [isSubtype_type]; kernel_rfl) ?_)
 refine wpAny_pure ?_
 rw [if_neg (by decide)]
 refine wpAny_pure ⟨plainId_quiet F.plain_extend_loop _,codeAny_extend_loopS W hn _ nf _ n 0 _ _ _ rfl (Nat.zero_le _) g0 g1 (ItemsOf.nil P) fun s' acc' c' hm hS' hacc=> ?_⟩
 refine (show wpAny _ A (load s.heap.objs.size >>= _) _ _ s' from ?_)
 exact wpAny_bind (wpAny_load hS' (wpAny_pure (hQ s' acc' (Moved.drop_new (o:={ cls:= .type "list",data:= .seq ([]:List Value).toArray }) (tk:=s.toks) hm (Nat.le_refl _)) hacc)))
theorem Xc {Q₁:Value->Shared->Prop} (W:WalksS prog w A.in1.in1 I fp wr G n P St) (hT:∀ i s,St i s->s.TypeIs (.ref I) "list_reverseiterator") (hst:St 0 s) (hfp:∀ b∈fp,b < s.heap.objs.size) (hI:I∈fp)
  (h:∀ s' acc,Moved wr G s s' ->ItemsOf P acc n->Q₁ (.ref s'.heap.objs.size) { s' with heap:=s'.heap.push { cls:= .type "tuple",data:= .seq acc } }) (hsz:n<=sizeLine):
  codeAny (model prog w) A (.call (.builtin "tuple.__new__") ⟨[.type "tuple", .ref I],[]⟩) (wants Q₁ E) s:=by
 refine codeAny_of_tree ?_
 refine (show wpAny _ A.in1 (do checkBuiltinCall "tuple.__new__" ⟨[.type "tuple", .ref I],[]⟩; again (.builtin "tuple.__new__" ⟨[.type "tuple", .ref I],[]⟩)) _ _ s from ?_)
 refine wpAny_bind (wpAny_of_eq (F.newCall_tuple_1 _) (wpAny_pure ⟨plainId_quiet F.plain_tuple_new _,codeAny_builtin F.entry_tuple_new ?_⟩))
 rw [Around.under_plainId F.plain_tuple_new _]
 have hsub:=sub_tuple_self
 have hinit:=init_tuple_lookup
 have hmh:=madeHere_tuple
 have ty:=hT 0 s hst
 wp_walk using wpAny_typeOf ty,Ux (hn:=hsz) W hT hst hfp hI
 intro s' acc hm hacc
 have e:acc.toList.toArray=acc:=by simp
 refine (show wpAny _ _ (Builtin.Tuple.tupleExact acc.toList.toArray >>= fun v=>ret v) _ _ _ from ?_)
 unfold Builtin.Tuple.tupleExact
 refine wpAny_bind (wpAny_newObj_type (wpAny_pure ?_) (by rw [e]; show acc.size<=sizeLine; rw [hacc.1]; exact hsz))
 rw [e]
 exact h s' acc hm hacc
theorem tuple_lr {Q:Value->Shared->Prop} (W:WalksS prog w A.in1.in1.in1 I fp wr G n P St) (hT:∀ i s,St i s->s.TypeIs (.ref I) "list_reverseiterator") (hst:St 0 s) (hfp:∀ b∈fp,b < s.heap.objs.size) (hI:I∈fp)
  (hQ:∀ s' acc,Moved wr G s s' ->ItemsOf P acc n->Q (.ref s'.heap.objs.size) { s' with heap:=s'.heap.push { cls:= .type "tuple",data:= .seq acc } }) (hsz:n<=sizeLine):
  wpAny (model prog w) A (call (.type "tuple") [.ref I]) Q E s:=
 callType_codes (Q₁:=fun obj s₁=>s₁.TypeIs obj "tuple"/\Q obj s₁) F.called_tuple (F.typeCall_tuple_1 _) F.entry_object_init
  (Xc (hsz:=hsz) W hT hst hfp hI fun s' acc hm hacc=>⟨⟨_,Heap.get?_push_size _ rfl,rfl⟩,hQ s' acc hm hacc⟩) fun obj s₁ h₁=>
   ⟨h₁.1,F.args_object_init_2 obj _,object_init_meets F.called_tuple.init.lookup F.called_tuple.made (by decide) prog w A.in1 _ s₁ ⟨h₁.1,rfl,h₁.2⟩⟩
end
end PySem.RV
namespace PV
open PySem PySem.Spec PyProof.Rows L2
def KP (K:PySem.W.Frag) (a:Addr) (n:Nat):It:=
 ⟨fun i H=>∃ xs x,SqT K H a xs/\xs.length=n/\xs.reverse[i]? =some x,fun i H x H' =>H' =H/\∀ xs,SqT K H a xs->xs.reverse[i]? =some x,fun i H=>∃ xs,SqT K H a xs/\xs.length=n/\n<=i⟩
def KQ (K:PySem.W.Frag) (a:Addr) (n:Nat):It:=
 ⟨fun i H=>∃ xs x,SqL K H a xs/\xs.length=n/\xs.reverse[i]? =some x,fun i H x H' =>H' =H/\∀ xs,SqL K H a xs->xs.reverse[i]? =some x,fun i H=>∃ xs,SqL K H a xs/\xs.length=n/\n<=i⟩
theorem QA {α:Type} {xs:List α} {i:Nat} {x:α} (h:xs.reverse[i]? =some x):i < xs.length/\xs[xs.length - 1 - i]? =some x:=by
 have hi:=(List.getElem?_eq_some_iff.mp h).1
 rw [List.length_reverse] at hi
 rw [List.getElem?_reverse hi] at h
 exact ⟨hi,h⟩
theorem qO {P:Program} {w:World} {K:PySem.W.Frag} {tg:Expr} (a it:Addr) (n:Nat):Ud P w K tg (KP K a n) [it] it (fun i h=>i<=n/\RV.IsRv h it (.ref a) ((n:Int) - 1 - (i:Int))) where
 mem:=by simp
 obj:=fun i h st b hb=>by
  have e:b=it:=by simpa using hb
  subst e
  exact ⟨_,st.2,fun v z=>nomatch z⟩
 keep:=fun i h h' st k=>⟨st.1,k it (by simp) _ st.2⟩
 item:=by
  intro X hP hw hK hc i pins s σ H E I hf st hg
  subst hP hw hK
  obtain ⟨xs,x,hq,hn,hx⟩:=hg
  obtain ⟨its,rv,p,hz⟩:=I.tuple hq
  obtain ⟨hi,hx'⟩:=QA hx
  obtain ⟨u,hu,ru⟩:=rv.get hx'
  obtain ⟨f0,f1,f2,f3,f4,f5⟩:=hf it (by simp)
  have hl:=rv.length
  have e:(n:Int) - 1 - (i:Int)=((xs.length - 1 - i:Nat):Int):=by omega
  have hit:=st.2
  rw [e] at hit
  have hb:(its.toArray.size:Int) < 2 ^ 63:=by
   rw [sizeLine_eq] at hz
   simp; omega
  refine RV.next_item hit p hb (x:=u) (by simpa using hu) fun h' tk st' sb=> ?_
  have I1:Inv X pins σ H { s with heap:=h',toks:=tk }:=I.turned (t' :=tk) (fun b o hb e=>(sb.2 b hb).trans e) f0 f1 f3 f4 f5
  have e2:((xs.length - 1 - i:Nat):Int) - 1=(n:Int) - 1 - ((i+1:Nat):Int):=by omega
  rw [e2] at st'
  exact ⟨u,rfl,Ue (s:={ s with heap:=h',toks:=tk }) st' rfl rfl (by decide) ⟨x,H,I1,ru,⟨rfl,fun ys hy=>by rw [I.tuple_inj hy hq]; exact hx⟩,⟨by omega,st'⟩,fun b hb=>(hf b hb).1⟩⟩
 done:=by
  intro X hP hw hK hc i pins s σ H E I hf st hg
  subst hP hw hK
  obtain ⟨xs,hq,hn,hx⟩:=hg
  obtain ⟨f0,f1,f2,f3,f4,f5⟩:=hf it (by simp)
  have hit:=st.2
  have h1:=st.1
  rw [show (n:Int) - 1 - (i:Int)= -1 by omega] at hit
  exact RV.next_end (I.ok.hd hc) hit fun h' eb=>⟨rfl,I.turned (t' :=s.toks) (fun b o hb e=>eb b o hb e) f0 f1 f3 f4 f5⟩
 self:=fun _ _ _ _ _ st h=>RV.iter_rv st.2 h
theorem qP {P:Program} {w:World} {K:PySem.W.Frag} {tg:Expr} (a it:Addr) (n:Nat):Ud P w K tg (KQ K a n) [it] it (fun i h=>i<=n/\h.IsRevIter it a ((n:Int) - 1 - (i:Int))) where
 mem:=by simp
 obj:=fun i h st b hb=>by
  have e:b=it:=by simpa using hb
  subst e
  obtain ⟨o,e,c,d⟩:=st.2
  exact ⟨o,e,fun v z=>by rw [d] at z; cases z⟩
 keep:=fun i h h' st k=>⟨st.1,st.2.at fun o e=>k it (by simp) o e⟩
 item:=by
  intro X hP hw hK hc i pins s σ H E I hf st hg
  subst hP hw hK
  obtain ⟨xs,x,hq,hn,hx⟩:=hg
  obtain ⟨its,rv,p,hz⟩:=I.list hq
  obtain ⟨hi,hx'⟩:=QA hx
  obtain ⟨u,hu,ru⟩:=rv.get hx'
  obtain ⟨f0,f1,f2,f3,f4,f5⟩:=hf it (by simp)
  have e:(n:Int) - 1 - (i:Int)=((xs.length - 1 - i:Nat):Int):=by omega
  have hit:=st.2
  rw [e] at hit
  refine wpAny_pyNext_rev_item hit p.isList (x:=u) (by simpa using hu) fun h' st' sb=> ?_
  have I1:Inv X pins σ H { s with heap:=h' }:=I.turned (t' :=s.toks) (fun b o hb e=>(sb.2 b hb).trans e) f0 f1 f3 f4 f5
  have e2:((xs.length - 1 - i:Nat):Int) - 1=(n:Int) - 1 - ((i+1:Nat):Int):=by omega
  rw [e2] at st'
  obtain ⟨o,e,c,d⟩:=id st'
  exact ⟨u,rfl,Ue (s:={ s with heap:=h' }) e c d (by decide) ⟨x,H,I1,ru,⟨rfl,fun ys hy=>by rw [I.list_inj hy hq]; exact hx⟩,⟨by omega,st'⟩,fun b hb=>(hf b hb).1⟩⟩
 done:=by
  intro X hP hw hK hc i pins s σ H E I hf st hg
  subst hP hw hK
  obtain ⟨xs,hq,hn,hx⟩:=hg
  obtain ⟨f0,f1,f2,f3,f4,f5⟩:=hf it (by simp)
  have hit:=st.2
  have h1:=st.1
  rw [show (n:Int) - 1 - (i:Int)= -1 by omega] at hit
  exact wpAny_pyNext_rev_end (I.ok.hd hc) hit fun h' eb=>⟨rfl,I.turned (t' :=s.toks) (fun b o hb e=>eb b o hb e) f0 f1 f3 f4 f5⟩
 self:=fun _ _ _ _ _ st h=>wpAny_pyIter_revIter st.2 h
theorem zR.rev {H:Hp}:∀ {vs:List V} {ts:List T},zR H vs ts->zR H vs.reverse ts.reverse
 | _,_, .nil=> .nil
 | _,_, .cons r t=>by rw [List.reverse_cons,List.reverse_cons]; exact (zR.rev t).append (.cons r .nil)
theorem Xd {K:PySem.W.Frag} {B1 H1:Hp} {a:Addr} {xs:List V} {ts:List T} (h:B1 a=some (.tup xs)) (r:zR B1 xs ts):rI B1 H1 (KP K a xs.length) ts.reverse:=fun B2 H2 s1 s2=>by
 have h2:=s2 _ _ (s1 _ _ h)
 have hr:=r.rev
 refine ⟨fun i hi=> ?_,fun i t x H3 e y=> ?_,fun i hi=>⟨xs,SqT.of h2,rfl,by rw [List.length_reverse] at hi; rw [r.length]; exact hi⟩⟩
 ·obtain ⟨v,e,_⟩:=hr.get (List.getElem?_eq_getElem hi)
  exact ⟨xs,v,SqT.of h2,rfl,e⟩
 ·obtain ⟨rfl,y⟩:=y
  obtain ⟨v,e1,r1⟩:=hr.get e
  have:=y xs (SqT.of h2)
  rw [e1] at this; cases this
  refine ⟨zK.refl _, ?_⟩
  rw [zW.self B2 _ s2]
  exact r1.mono s1
theorem Xe {K:PySem.W.Frag} {B1 H1:Hp} {a:Addr} {xs:List V} {ts:List T} (h:B1 a=some (.lst xs)) (r:zR B1 xs ts):rI B1 H1 (KQ K a xs.length) ts.reverse:=fun B2 H2 s1 s2=>by
 have h2:=s2 _ _ (s1 _ _ h)
 have hr:=r.rev
 refine ⟨fun i hi=> ?_,fun i t x H3 e y=> ?_,fun i hi=>⟨xs,SqL.of h2,rfl,by rw [List.length_reverse] at hi; rw [r.length]; exact hi⟩⟩
 ·obtain ⟨v,e,_⟩:=hr.get (List.getElem?_eq_getElem hi)
  exact ⟨xs,v,SqL.of h2,rfl,e⟩
 ·obtain ⟨rfl,y⟩:=y
  obtain ⟨v,e1,r1⟩:=hr.get e
  have:=y xs (SqL.of h2)
  rw [e1] at this; cases this
  refine ⟨zK.refl _, ?_⟩
  rw [zW.self B2 _ s2]
  exact r1.mono s1
def KR (fa:En->R T):En->R (List T):=fun ρ=>(fa ρ).bind fun t=>(wL t).bind fun xs=> .ok xs.reverse
def qQ:T->R T
 | .lst xs=>if xs.length<=bnd then .ok (.tup xs.reverse) else .bad
 | _=> .bad
section
variable {X:Cx} {Y:Fx} {a b tg:Expr} {fa fb:En->R T} {pos p p' pos' :Pos}
theorem Xf {ta:TA} (hg:Gl X "reversed") (hm:X.mg "reversed"=none) (ha:PA X [a] ta) (hs:St1 X a:=by exact st1 rfl):
  PI X tg (.Call (.Name "reversed" p) [a] [] pos) (fun σ H R=>ta σ H fun vs H1=>∃ l xs,vs=[.ref l]/\((H1 l=some (.lst xs)/\R (KQ X.K l xs.length) H1)\/(H1 l=some (.tup xs)/\R (KP X.K l xs.length) H1))):=by
 intro pins s σ H R I h
 refine Call_ (jd I hg hm boot_reversed (PyProof.Rows.callWith_type1 (thn (ha pos pins s σ H _ I h) fun us s1 ⟨vs,H1,I1,r1,q1⟩=> ?_) hs rfl))
 obtain ⟨l,xs,e,q⟩:=q1
 subst e
 obtain ⟨u,rfl,ru⟩:=ZT r1
 obtain rfl:u=Value.ref l:=ru
 have ok:∀ b∈[s1.heap.objs.size],W2 X pins H1 b:=fun b hb=>by
  have e:b=s1.heap.objs.size:=by simpa using hb
  subst e
  exact I1.fpOk (Nat.le_refl _) (I1.hok.fresh (Nat.le_refl _))
 rcases q with ⟨hl,q⟩ | ⟨hl,q⟩
 ·obtain ⟨its,rv,p,hz⟩:=I1.list (SqL.of hl)
  have e:((its.toArray.size:Nat):Int) - 1=(xs.length:Int) - 1 - ((0:Nat):Int):=by have:=rv.length; simp; omega
  refine call_reversed_list p.isList ?_
  rw [e]
  have st:(s1.heap.push (revObj l ((xs.length:Int) - 1 - ((0:Nat):Int)))).IsRevIter s1.heap.objs.size l ((xs.length:Int) - 1 - ((0:Nat):Int)):=⟨_,Heap.get?_push_size _ rfl,rfl,rfl⟩
  refine wpAny_pyIter_revIter (s:={ s1 with heap:=s1.heap.push (revObj l ((xs.length:Int) - 1 - ((0:Nat):Int))) }) st ?_
  exact ⟨s1.heap.objs.size,[s1.heap.objs.size],_,_,H1,rfl,I1.kept (t' :=s1.toks) (fun b o e=>Heap.get?_push_of_some _ e),qP l _ xs.length,⟨Nat.zero_le _,st⟩,ok,q⟩
 ·obtain ⟨its,rv,p,hz⟩:=I1.tuple (SqT.of hl)
  have hlen:=rv.length
  have e:((its.toArray.size:Nat):Int) - 1=(xs.length:Int) - 1 - ((0:Nat):Int):=by simp; omega
  refine RV.call_rvT p (by rw [sizeLine_eq] at hz; simp; omega) fun tk=> ?_
  rw [e]
  refine RV.iter_rv (s:={ s1 with heap:=_,toks:=tk }) (Heap.get?_push_size _ rfl) ?_
  exact ⟨s1.heap.objs.size,[s1.heap.objs.size],_,_,H1,rfl,I1.kept (t' :=tk) (fun b o e=>Heap.get?_push_of_some _ e),qO l _ xs.length,⟨Nat.zero_le _,Heap.get?_push_size _ rfl⟩,ok,q⟩
theorem KS (hg:Gl X "reversed") (hm:X.mg "reversed"=none) (ha:Snd X Y a fa) (hs:St1 X a:=by exact st1 rfl):Uu X Y tg (.Call (.Name "reversed" p) [a] [] pos) (KR fa):= .mk fun ρ=>
 PI.imp (Xf hg hm (zD (ha ρ) Z8 hs) hs) fun σ H R ⟨B,I,q⟩=>step I q fun t v H1 _ s1 r1 I1 q1=>by
  cases r1 with
  | @tup l xs ts h r=>exact ⟨l,xs,rfl, .inr ⟨I1.sB _ _ h,j0 I1 (show Po Y rI _ H1 (.ok ts.reverse) R from q1) (Xd h r)⟩⟩
  | @lst l xs ts h r=>exact ⟨l,xs,rfl, .inl ⟨I1.sB _ _ h,j0 I1 (show Po Y rI _ H1 (.ok ts.reverse) R from q1) (Xe h r)⟩⟩
  | _=>exact q1.elim
theorem uN:∀ {xs ys:List V} {us ws:List Value},Ze xs us->Ze ys ws->Ze (xs++ys) (us++ws)
 | _,_,_,_, .nil,q=>q
 | _,_,_,_, .cons r t,q=> .cons r (uN t q)
theorem uO:∀ {xs:List V} {us:List Value},Ze xs us->Ze xs.reverse us.reverse
 | _,_, .nil=> .nil
 | _,_, .cons r t=>by rw [List.reverse_cons,List.reverse_cons]; exact uN (uO t) (.cons r .nil)
theorem Vj {its:List Value} {acc:Array Value} (h:ItemsOf (fun i v=>its.toArray[its.toArray.size - 1 - i]? =some v) acc its.toArray.size):acc.toList=its.reverse:=by
 have h1:acc.size=its.length:=by
  have:=h.1
  simpa using this
 have h2:=h.2
 refine List.ext_getElem? fun i=> ?_
 by_cases hi:i < its.length
 ·have hlt:i < acc.toList.length:=by simp; omega
  have e:=List.getElem?_eq_getElem hlt
  have:=h2 i _ (by rw [← Array.getElem?_toList]; exact e)
  rw [List.getElem?_reverse hi,e,← this]
  simp
 ·rw [List.getElem?_eq_none (by simp; omega),List.getElem?_eq_none (by simp; omega)]
theorem Xg (hh:X.A.handled=none) (gl:Gl X "tuple") (mg:X.mg "tuple"=none) (gl' :Gl X "reversed") (mg' :X.mg "reversed"=none) (ha:Snd X Y a fa) (hs:St1 X a:=by exact st1 rfl) (hs' :St1 X (.Call (.Name "reversed" p') [a] [] pos'):=by exact st1 rfl):
  Snd X Y (.Call (.Name "tuple" p) [.Call (.Name "reversed" p') [a] [] pos'] [] pos) (ap1 qQ fa):= .mk fun ρ=>by
 intro pins s σ H Q I ⟨B,J,q⟩
 have hq:tS Y rC fa ρ σ H (fun v H1=>∃ l xs,v= .ref l/\H1 l=some (.lst xs)/\xs.length<=sizeLine/\∀ t,H1 t=none->Q (.ref t) (upd H1 t (.tup xs.reverse))):=by
  refine step J q fun t v H1 _ s1 r1 I1 q1=> ?_
  cases r1 with
  | @lst l xs ts h r=>
   have q1:Po Y rC _ H1 (if ts.length<=bnd then .ok (.tup ts.reverse) else .bad) Q:=q1
   split at q1
   ·rename_i hb
    exact ⟨l,xs,rfl,I1.sB _ _ h,by rw [r.length]; exact ZK hb,fun t ht=>x6 I1.sB q1 rfl r.rev ht⟩
   ·exact q1.elim
  | _=>exact q1.elim
 refine wpAny_Call_Name_kw (jd I gl mg PyProof.Rows.Boot.«tuple» (PyProof.Rows.callWith_type1 (e:= .Call (.Name "reversed" p') [a] [] pos') (rest:=[]) ?_ hs' rfl))
 rw [hs']
 show wpAny _ _ (spliced [(false,eval (.Call (.Name "reversed" p') [a] [] pos') X.env)]) _ _ s
 refine Calls.spliced_cons (wpAny_Call_Name_kw (jd I gl' mg' boot_reversed (PyProof.Rows.callWith_type1 (e:=a) (rest:=[]) ?_ hs rfl)))
 refine thn ((zD (ha ρ) Z8 hs) pos' pins s σ H (fun vs H1=>∃ l xs,vs=[.ref l]/\H1 l=some (.lst xs)/\xs.length<=sizeLine/\∀ t,H1 t=none->Q (.ref t) (upd H1 t (.tup xs.reverse))) I ?_) fun us s1 ⟨vs,H1,I1,r1,l,xs,e,hl,hz,q1⟩=> ?_
 ·obtain ⟨B',J',q'⟩:=hq
  refine ⟨B',J', ?_⟩
  revert q'
  cases fa ρ with
  | bad=>exact fun q' =>q'
  | ex c=>exact fun q' =>q'
  | ok t=>
   intro q' v H1 s1 r1
   obtain ⟨l,xs,rfl,h⟩:=q' v H1 s1 r1
   exact ⟨l,xs,rfl,h⟩
 subst e
 obtain ⟨u,rfl,ru⟩:=ZT r1
 obtain rfl:u=Value.ref l:=ru
 obtain ⟨its,rv,pl,_⟩:=I1.list (SqL.of hl)
 have hlt:l < s1.heap.objs.size:=I1.hok.lt hl
 refine call_reversed_list pl.isList (Calls.spliced_nil ?_)
 have e0:((its.toArray.size:Nat):Int) - 1 - ((0:Nat):Int)=((its.toArray.size:Nat):Int) - 1:=by omega
 refine RV.tuple_lr (s:={ s1 with heap:=s1.heap.push (revObj l ((its.toArray.size:Int) - 1)) }) (Walks.listRev (A:=X.A.in1.in1.in1) hh s1.heap.objs.size l (Nat.ne_of_lt hlt) its.toArray).toS (fun i s st=>st.2.1.typeIs) ⟨Nat.zero_le _,⟨_,Heap.get?_push_size _ rfl,rfl,by rw [e0]; rfl⟩,pl.isList.push _⟩ (fun b hb=> ?_) (by simp) (fun s' acc hm hacc=> ?_) (by rw [List.size_toArray,← rv.length]; exact hz)
 ·have hb:b=s1.heap.objs.size\/b=l:=by simpa using hb
  rcases hb with rfl | rfl
  ·rw [Heap.size_push]; exact Nat.lt_succ_self _
  ·rw [Heap.size_push]; exact Nat.lt_succ_of_lt hlt
 obtain ⟨h',g',d',tk',os'⟩:=s'
 have e1:g' =s1.gens:=hm.gens
 have e2:d' =s1.drawn:=hm.drawn
 have e3:os' =s1.os:=hm.os
 subst e1 e2 e3
 have kp:∀ b o,s1.heap.get? b=some o->h'.get? b=some o:=fun b o e=>hm.heap b o (fun z=>by
  have z:b=s1.heap.objs.size:=by simpa using z
  have:=Heap.lt_size e
  rw [z] at this
  exact Nat.lt_irrefl _ this) (Heap.get?_push_of_some _ e)
 have I2:Inv X pins σ H1 { s1 with heap:=h',toks:=tk' }:=I1.kept (t' :=tk') kp
 have ea:acc=its.reverse.toArray:=by rw [← Vj hacc]
 rw [ea]
 refine ⟨.ref h'.objs.size,upd H1 h'.objs.size (.tup xs.reverse),I2.laid (t' :=tk') (fun b u e=>Heap.get?_push_of_some _ e) (Nat.le_refl _) ⟨by rw [List.length_reverse]; exact hz,its.reverse,uO rv,⟨_,Heap.get?_push_size _ rfl,rfl,_,rfl⟩, .inr ⟨_,Heap.get?_push_size _ rfl,rfl⟩⟩,rfl,q1 _ (I2.hok.fresh (Nat.le_refl _))⟩
end
def w8:List T->Option Bool
 | []=>some false
 | .bl k :: r=>match w8 r with | some j=>some (k || j) | none=>none
 | _ :: _=>none
def KT:T->R T
 | .lst ts=>match w8 ts with | some k=> .ok (.bl k) | none=> .bad
 | _=> .bad
theorem yN:∀ {H:Hp} {xs:List V} {ts:List T} {its:List Value} {k:Bool},zR H xs ts->Ze xs its->w8 ts=some k->∃ tr:Nat->Bool,(∀ i v,its[i]? =some v->v=Value.bool (tr i))/\(List.range its.length).any tr=k
 | _,_,_,_,k, .nil, .nil,h=>by
  have h' :some false=some k:=h
  cases h'
  exact ⟨fun _=>true,fun i v e=>by simp at e,rfl⟩
 | H,_,_,_,k, .cons (v:=x) (t:=t) r rs, .cons (b:=u) rv vs,h=>by
  cases r with
  | bl b=>
   unfold w8 at h
   split at h
   ·rename_i j e
    cases h
    obtain ⟨tr,h1,h2⟩:=yN rs vs e
    obtain rfl:u=Value.bool b:=rv
    refine ⟨fun i=>match i with | 0=>b | i+1=>tr i,fun i v e=> ?_, ?_⟩
    ·cases i with
     | zero=>simp at e; exact e.symm
     | succ i=>exact h1 i v (by simpa using e)
    ·rw [List.length_cons,List.range_succ_eq_map,List.any_cons,List.any_map,← h2]
     rfl
   ·cases h
  | _=>cases h
section
variable {X:Cx} {Y:Fx} {a b:Expr} {fa fb:En->R T} {pos p p' pos' pt:Pos} {elts:List Expr} {kk:Nat}
theorem yO (hh:X.A.handled=none):ZS X (.builtin "any") (fun vs H Q=>∃ l xs ts k,vs=[.ref l]/\H l=some (.lst xs)/\zR H xs ts/\w8 ts=some k/\Q (.bl k) H):=by
 intro pins s σ H vs us Q I rv h
 obtain ⟨l,xs,ts,k,rfl,hl,r,hk,q⟩:=h
 obtain ⟨u,rfl,ru⟩:=ZT rv
 obtain rfl:u=Value.ref l:=ru
 obtain ⟨its,rv,p,_⟩:=zX I (.inl hl) r
 obtain ⟨tr,h1,h2⟩:=yN r rv hk
 refine call_any_walk (wpAny_pyIter_list p ?_)
 have hlt:l < s.heap.objs.size:=I.hok.lt hl
 have old:∀ b o,s.heap.get? b=some o->(s.heap.push { cls:= .type "list_iterator",data:= .fields #[.ref l, .int 0 0] }).get? b=some o:=fun b o e=>Heap.get?_push_of_some _ e
 refine ⟨s.heap.objs.size,_,_,_,_,_,tr,rfl,Walks.list (A:=X.A.in1) hh s.heap.objs.size l (Nat.ne_of_lt hlt) its.toArray, ?_, ?_,fun h' tk hk' => ?_⟩
 ·refine ⟨?_,p.at fun o e=>old _ o e⟩
  exact ⟨_,Heap.get?_push_size _ rfl,rfl,rfl⟩
 ·intro i v s' Q' E' hi hq
  rw [h1 i v (by simpa using hi)]
  exact wpAny_truthy_bool hq
 ·rw [List.size_toArray,h2]
  refine ⟨.bl k,H,I.kept (t' :=tk) (fun b o e=>hk' b o ?_ (old b o e)),rfl,q⟩
  simp
  exact Nat.ne_of_lt (Heap.lt_size e)
theorem KU (hh:X.A.handled=none) (gl:Gl X "any") (mg:X.mg "any"=none) (ha:J6 X Y a fa) (hs:St1 X a:=by exact st1 rfl):Snd X Y (.Call (.Name "any" p) [a] [] pos) (ap1 KT fa):=
 uC (yO hh) (fun v t B H Q r sB q=>by
  cases r with
  | @lst l xs ts h r=>
   have q:Po Y rC B H (match w8 ts with | some k=> .ok (.bl k) | none=> .bad) Q:=q
   split at q
   ·rename_i k e
    exact ⟨l,xs,ts,k,rfl,h,r,e,po0 sB q rfl (.bl k)⟩
   ·exact q.elim
  | _=>exact q.elim) gl mg PyProof.Rows.Boot.«any» ha hs
end
section
variable {X:Cx} {Y:Fx} {a b:Expr} {fa fb:En->R T} {pos p p' pos' pt:Pos} {elts:List Expr} {kk:Nat}
end
end PV
namespace PySem.RV
open PySem PySem.Spec PyProof.Rows PySem.Builtin.SmallTypes
theorem draws_tup {prog:Program} {w:World} {A:Around} (hh:A.handled=none) (it l:Addr) (hne:l ≠ it) (items:Array Value):Draws prog w A it [it,l] items.size (fun i v=>items[i]? =some v) (fun i h=>h.IsTupleIter it l i/\h.IsTuple l items) where
 live:=fun i h st=>(ZG.nx_tup hne items).there st it (.head _)
 frame:=fun i h h' st hk=>(ZG.nx_tup hne items).keep st hk
 item:=fun i s Q E hi st hQ=>ZG.tup_item st.1 st.2 (x:=items[i]) (by simp [hi]) fun h' a b=>hQ _ h' s.toks (by simp [hi]) ⟨a,st.2.extBut b.extBut hne⟩ b
 done:=fun s Q E st hE=>ZG.tup_stop hh st.1 st.2 (by simp) hE
abbrev eOb (i:Addr):Obj:={ cls:= .type "enumerate",data:= .fields #[.none, .bool false, .ref i,rawInt 0, .none, .none] }
theorem yP (l:Addr) (items:Array Value) (n:Nat) (dct:Option Addr) (sl:Array (Option Value)):
  Meets (Builtin.«enumerate.__new__» ⟨[.type "enumerate", .ref l],[]⟩) (fun _ R s=>s.heap.get? l=some { cls:= .type "tuple",dict:=dct,data:= .seq items n,slots:=sl }/\
   R (.ok (.ret (.ref (s.heap.push (ZG.oT l)).objs.size))) { s with heap:=(s.heap.push (ZG.oT l)).push (eOb s.heap.objs.size) }):=
 .of_wp fun prog w A R s h=>by
  obtain ⟨hp,g,d,tk,os⟩:=s
  obtain ⟨hl,h⟩:=h
  have hsub:=sub_enumerate
  have hL:Heap.IsTuple (Shared.heap ⟨hp,g,d,tk,os⟩) l items:=⟨_,hl,rfl,n,rfl⟩
  wp_walk using PySem.AutoSeq1.wpAny_loadPart' hl
  refine wpAny_stack_any fun st=>wpAny_pure ?_
  split
  ·rename_i c _ _ _ _ _
   cases (c == Value.type "enumerate") <;> (wp_walk using PySem.AutoSeq1.wpAny_loadPart' hl,wpAny_pyIter_tuple hL; exact ⟨_,rfl,h⟩)
  ·wp_walk using PySem.AutoSeq1.wpAny_loadPart' hl,wpAny_pyIter_tuple hL
   exact ⟨_,rfl,h⟩
theorem enum_callT {prog:Program} {w:World} {A:Around} {E:Value->Shared->Prop} {s:Shared} {l:Addr} {items:Array Value} {Q:Value->Shared->Prop} (hL:s.heap.IsTuple l items)
  (h:∀ h',IsEnum h' (s.heap.objs.size+1) s.heap.objs.size 0 .none->h'.IsTupleIter s.heap.objs.size l 0->(∀ b o,s.heap.get? b=some o->h'.get? b=some o)->Q (.ref (s.heap.objs.size+1)) { s with heap:=h' }):
  wpAny (model prog w) A (call (.type "enumerate") [.ref l]) Q E s:=by
 obtain ⟨⟨c,dct,dt,sl⟩,hl,hc,n,hd⟩:=hL
 obtain rfl:c= .type "tuple":=hc
 obtain rfl:dt= .seq items n:=hd
 refine callType_new F.called_enumerate (by decide) (F.typeCall_enumerate_1 _) (F.newCall_enumerate_1 _) (fun obj=>F.args_object_init_2 obj _) F.entry_enumerate_new (yP l items n dct sl) ⟨hl, ?_⟩
 have hz:(s.heap.push (ZG.oT l)).objs.size=s.heap.objs.size+1:=Heap.size_push ..
 have e1:((s.heap.push (ZG.oT l)).push (eOb s.heap.objs.size)).get? (s.heap.push (ZG.oT l)).objs.size=some _:=Heap.get?_push_size _ rfl
 rw [hz] at e1
 refine (show _/\_ from ?_)
 rw [hz]
 exact ⟨⟨_,e1,rfl⟩,h _ e1 ⟨_,Heap.get?_push_of_some _ (Heap.get?_push_size _ rfl),rfl,rfl⟩ fun b o x=>Heap.get?_push_of_some _ (Heap.get?_push_of_some _ x)⟩
end PySem.RV
namespace PV
open PySem PySem.Spec PyProof.Rows L2
def KW (K:PySem.W.Frag) (l:Addr) (n:Nat):It:=
 ⟨fun i H=>∃ xs x,SqT K H l xs/\xs.length=n/\xs[i]? =some x,fun i H v H' =>∃ p x,H p=none/\v= .ref p/\(∀ xs,SqT K H l xs->xs[i]? =some x)/\H' =upd H p (.tup [.int i,x]),fun i H=>∃ xs,SqT K H l xs/\xs.length=n/\n<=i⟩
theorem Uy {P:Program} {w:World} {K:PySem.W.Frag} {elts:List Expr} {kk:Nat} {pt:Pos} (e it l:Addr) (n:Nat) (hei:e ≠ it) (hle:l ≠ e) (hli:l ≠ it):
  Ud P w K (.Tuple elts kk pt) (KW K l n) [e,it] e (fun i h=>i<=n/\(∃ old,IsEnum h e it i old)/\h.IsTupleIter it l i) where
 mem:=by simp
 obj:=fun i h st b hb=>by
  obtain ⟨_,⟨old,he⟩,o,e1,c,d⟩:=st
  rcases List.mem_cons.mp hb with rfl | hb
  ·exact ⟨_,he,fun v z=>nomatch z⟩
  ·have z:b=it:=by simpa using hb
   subst z
   exact ⟨o,e1,fun v z=>by rw [d] at z; cases z⟩
 keep:=fun i h h' st k=>by
  obtain ⟨hn,⟨old,he⟩,o,e1,r⟩:=st
  exact ⟨hn,⟨old,k e (by simp) _ he⟩,o,k it (by simp) o e1,r⟩
 item:=by
  intro X hP hw hK hc i pins s σ H E I hf st hg
  subst hP hw hK
  obtain ⟨xs,x,hq,hxn,hx⟩:=hg
  obtain ⟨its,rv,p,hz⟩:=I.tuple hq
  obtain ⟨u,hu,ru⟩:=rv.get hx
  obtain ⟨hin,⟨old,he⟩,hit⟩:=st
  have hi:i < its.toArray.size:=by
   have:=(List.getElem?_eq_some_iff.mp hu).1
   simpa using this
  have D:=RV.draws_tup (prog:=X.prog) (w:=X.w) (A:=X.A.in1) (I.ok.hd hc) it l hli its.toArray
  have hef:e ∉ [it,l]:=fun z=>by
   rcases List.mem_cons.mp z with z | z
   ·exact hei z
   ·exact hle (List.mem_singleton.mp z).symm
  have WE:=WalksT.enumerateD D e hei hef (.head _)
  refine WE.item i s _ _ hi ⟨⟨old,he⟩,hit,p⟩ fun T vals h' tk hP hT hTup hM hk=> ?_
  obtain ⟨t,y,hy,rfl⟩:=hP
  have hyu:y=u:=by
   have:its[i]? =some y:=by simpa using hy
   rw [hu] at this; exact (Option.some.inj this).symm
  subst hyu
  refine ⟨.ref T,rfl, ?_⟩
  refine WE.go elts kk pt i T _ _ _ hM fun h2 hst2 hk2=> ?_
  have hTn:H T=none:=I.hok.fresh hT
  have hTne:∀ b∈[e,it],b ≠ T:=fun b hb z=>by
   obtain ⟨_,_,h3,h4⟩:=hM
   rcases List.mem_cons.mp hb with rfl | hb
   ·exact h3 z.symm
   ·have:b=it:=by simpa using hb
    subst this; exact h4 z.symm
  have Y5:IsTup h2 T #[.int i t,y]:=by
   obtain ⟨o,eo,r⟩:=hTup
   exact ⟨o,hk2 T o (fun hb=>hTne T hb rfl) eo,r⟩
  refine ⟨.ref T,upd H T (.tup [.int i,x]),Inv.laidT (s:=s) (h' :=h2) (ch:=[e,it]) (tk:=tk) I hf (fun b o hb e=>hk2 b o hb (hk b o hb e)) (fun b o hb _=> ?_) hT ⟨by rw [sizeLine_eq]; show 2<=16777216; decide,[.int i t,y], .cons ⟨t,rfl⟩ (.cons ru .nil),Y5, .inl ⟨_,_,rfl⟩⟩,rfl,⟨T,x,hTn,rfl,fun ys hy=>by rw [I.tuple_inj hy hq]; exact hx,rfl⟩,⟨by have:=(List.getElem?_eq_some_iff.mp hx).1; omega,hst2.1,hst2.2.1⟩,fun b hb=> ?_⟩
  ·obtain ⟨⟨old2,he2⟩,⟨o2,eo2,_⟩,_⟩:=hst2
   rcases List.mem_cons.mp hb with rfl | hb
   ·exact ⟨_,he2⟩
   ·have:b=it:=by simpa using hb
    subst this; exact ⟨o2,eo2⟩
  ·rw [zH (hTne b hb)]; exact (hf b hb).1
 done:=by
  intro X hP hw hK hc i pins s σ H E I hf st hg
  subst hP hw hK
  obtain ⟨xs,hq,hxn,hx⟩:=hg
  obtain ⟨its,rv,p,hz⟩:=I.tuple hq
  obtain ⟨hin,⟨old,he⟩,hit⟩:=st
  have hl:=rv.length
  have D:=RV.draws_tup (prog:=X.prog) (w:=X.w) (A:=X.A.in1) (I.ok.hd hc) it l hli its.toArray
  have hn:its.toArray.size=i:=by simp; omega
  refine wpAny_pyNext_enum_endD D he (by rw [hn]; exact ⟨hit,p⟩) fun h' hk=>⟨rfl, ?_⟩
  obtain ⟨f0,f1,f2,f3,f4,f5⟩:=hf it (by simp)
  exact I.turned (t' :=s.toks) (fun b o hb e=>hk b o hb e) f0 f1 f3 f4 f5
 self:=fun _ _ _ _ _ st h=>let ⟨_,⟨_,he⟩,_⟩:=st; wpAny_pyIter_enum he h
theorem qR {K:PySem.W.Frag} {B1 H1:Hp} {a:Addr} {xs:List V} {ts:List T} (h:B1 a=some (.tup xs)) (r:zR B1 xs ts):rI B1 H1 (KW K a xs.length) (ZQ ts):=fun B2 H2 s1 s2=>by
 have h2:=s2 _ _ (s1 _ _ h)
 rw [jq]
 refine ⟨fun i hi=> ?_,fun i t x H3 e y=> ?_,fun i hi=>⟨xs,SqT.of h2,rfl,by rw [r.length]; exact hi⟩⟩
 ·obtain ⟨v,e,_⟩:=r.get (List.getElem?_eq_getElem hi)
  exact ⟨xs,v,SqT.of h2,rfl,e⟩
 ·obtain ⟨p,v,hp,rfl,y,rfl⟩:=y
  obtain ⟨t',et,rfl⟩:=JM e
  obtain ⟨v',e1,r1⟩:=r.get et
  have:=y xs (SqT.of h2)
  rw [e1] at this; cases this
  refine ⟨zK.new hp _, .tup (jk hp _) (.cons (.int _) (.cons ?_ .nil))⟩
  exact (r1.mono s1).mono (zW.ge s2 (zK.new hp _))
def uP (fa:En->R T):En->R (List T):=fun ρ=>(fa ρ).bind fun t=>match t with
 | .tup xs=> .ok (ZQ xs)
 | _=> .bad
section
variable {X:Cx} {Y:Fx} {a:Expr} {fa:En->R T} {pos p pt:Pos} {elts:List Expr} {kk:Nat}
theorem qS {ta:TA} (hg:Gl X "enumerate") (hm:X.mg "enumerate"=none) (ha:PA X [a] ta) (hs:St1 X a:=by exact st1 rfl):
  PI X (.Tuple elts kk pt) (.Call (.Name "enumerate" p) [a] [] pos) (fun σ H R=>ta σ H fun vs H1=>∃ l xs,vs=[.ref l]/\H1 l=some (.tup xs)/\R (KW X.K l xs.length) H1):=by
 intro pins s σ H R I h
 refine Call_ (jd I hg hm PyProof.Rows.Boot.«enumerate» (PyProof.Rows.callWith_type1 (thn (ha pos pins s σ H _ I h) fun us s1 ⟨vs,H1,I1,r1,q1⟩=> ?_) hs rfl))
 obtain ⟨l,xs,e,hl,q⟩:=q1
 subst e
 obtain ⟨u,rfl,ru⟩:=ZT r1
 obtain rfl:u=Value.ref l:=ru
 obtain ⟨its,rv,pl,hz⟩:=I1.tuple (SqT.of hl)
 have hlt:l < s1.heap.objs.size:=I1.hok.lt hl
 refine RV.enum_callT (show s1.heap.IsTuple l its.toArray from pl) fun h' he hit hk=>wpAny_pyIter_enum he ?_
 have f:∀ b∈[s1.heap.objs.size+1,s1.heap.objs.size],W2 X pins H1 b:=fun b hb=>by
  rcases List.mem_cons.mp hb with rfl | hb
  ·exact I1.fpOk (Nat.le_succ _) (I1.hok.fresh (Nat.le_succ _))
  ·have z:b=s1.heap.objs.size:=by simpa using hb
   subst z
   exact I1.fpOk (Nat.le_refl _) (I1.hok.fresh (Nat.le_refl _))
 exact ⟨s1.heap.objs.size+1,[s1.heap.objs.size+1,s1.heap.objs.size],_,_,H1,rfl,I1.kept (t' :=s1.toks) hk,Uy _ _ l xs.length (Nat.succ_ne_self _) (Nat.ne_of_lt (Nat.lt_succ_of_lt hlt)) (Nat.ne_of_lt hlt),⟨Nat.zero_le _,⟨_,he⟩,hit⟩,f,q⟩
theorem Vk (hg:Gl X "enumerate") (hm:X.mg "enumerate"=none) (ha:Snd X Y a fa) (hs:St1 X a:=by exact st1 rfl):Uu X Y (.Tuple elts kk pt) (.Call (.Name "enumerate" p) [a] [] pos) (uP fa):= .mk fun ρ=>
 PI.imp (qS hg hm (zD (ha ρ) Z8 hs) hs) fun σ H R ⟨B,I,q⟩=>step I q fun t v H1 _ s1 r1 I1 q1=>by
  cases r1 with
  | @tup l xs ts h r=>exact ⟨l,xs,rfl,I1.sB _ _ h,j0 I1 (show Po Y rI _ H1 (.ok (ZQ ts)) R from q1) (qR h r)⟩
  | _=>exact q1.elim
end
end PV
namespace PySem.RW37
open PySem PySem.Spec PyProof.Rows L2
section
variable {X:Cx} {pos:Pos}
end
end PySem.RW37
namespace PV
open PySem PySem.Spec PyProof.Rows L2 PySem.RW37
section
variable {X:Cx} {Y:Fx} {pos:Pos} {a b c:Expr}
end
end PV
namespace PV
open PySem PySem.Spec PyProof.Rows L2
section
variable {X:Cx} {Y:Fx} {a b:Expr} {fa fb:En->R T} {pos p p' pos' pt:Pos} {elts:List Expr} {kk:Nat}
end
section
variable {X:Cx} {Y:Fx} {tg iter elt:Expr} {ifs:List Expr} {scope:Scope} {pos pos' :Pos} {N' :List Str} {k:Nat} {js:List Nat} {fi:En->R (List T)} {tG:TG} {g:T->En->R En} {ft:En->R Bool} {fe:En->R T}
end
section
variable {prog:Program} {w:World} {A:Around} {R:Result->Shared->Prop} {I:Addr} {fp wr:List Addr} {n:Nat} {P:Nat->Value->Prop} {St:Nat->Heap->Prop}
end
section
variable {prog:Program} {w:World} {A:Around} {E:Value->Shared->Prop} {s:Shared} {l:Addr} {xs:Array (Int×Tok)}
end
section
variable {X:Cx} {Y:Fx} {a b:Expr} {fa fb:En->R T} {pos p p' pos' pt kp:Pos} {elts:List Expr} {kk:Nat}
end
section
variable {prog:Program} {w:World} {K:Type} [DecidableEq K] {knd:KeyKind prog w K} {A:Around} {E:Value->Shared->Prop} {s:Shared}
end
section
variable {prog:Program} {w:World} {A:Around} {E:Value->Shared->Prop} {s:Shared} {I S:Addr} {i ep j:Nat} {o:Obj} {es:Array (Int×Value)} {t:SetTable}
end
section
variable {prog:Program} {w:World} {A:Around} {E:Value->Shared->Prop} {s:Shared} {I S P:Addr} {i ep j:Nat} {es:Array (Int×Value)} {t:SetTable}
end
section
variable {prog:Program} {w:World} {A:Around} {E:Value->Shared->Prop} {s:Shared} {S:Addr} {ep:Nat} {es:Array (Int×Value)} {t:SetTable}
end
section
variable {prog:Program} {w:World} {A:Around} {E:Value->Shared->Prop} {s:Shared} {S:Addr}
end
section
variable {prog:Program} {w:World} {A:Around} {R:Result->Shared->Prop} {I:Addr} {fp wr:List Addr} {n:Nat} {P:Nat->Value->Prop} {St:Nat->Heap->Prop}
end
section
variable {prog:Program} {w:World} {A:Around} {E:Value->Shared->Prop} {s:Shared}
end
section
variable {prog:Program} {w:World} {A:Around} {E:Value->Shared->Prop} {s:Shared} {S:Addr}
end
section
variable {X:Cx} {Y:Fx} {a b:Expr} {fa fb:En->R T} {pos pos' p p' :Pos}
end
section
variable {X:Cx} {Y:Fx} {a b:Expr} {fa fb:En->R T} {pos:Pos}
end
section
variable {X:Cx} {Y:Fx} {a b:Expr} {fa fb:En->R T} {pos:Pos}
end
section
variable {prog:Program} {w:World} {A:Around} {E:Value->Shared->Prop} {s:Shared}
end
section
variable {prog:Program} {w:World} {A:Around} {E:Value->Shared->Prop} {s:Shared}
end
section
variable {prog:Program} {w:World} {A:Around} {R:Result->Shared->Prop} {I:Addr} {fp wr:List Addr} {n:Nat} {P:Nat->Value->Prop} {St:Nat->Heap->Prop}
end
section
variable {prog:Program} {w:World} {A:Around} {E:Value->Shared->Prop} {s:Shared}
end
section
variable {X:Cx} {Y:Fx} {a b:Expr} {fa fb:En->R T} {pos pos' p p' :Pos}
end
section
variable {X:Cx} {Y:Fx} {a:Expr} {fa:En->R T} {pos pos' p p' :Pos}
end
section
variable {X:Cx} {Y:Fx} {a b:Expr} {fa fb:En->R T} {pos:Pos}
end
section
variable {X:Cx} {Y:Fx} {a:Expr} {fa:En->R T} {pos p2 p3 p4:Pos} {kc:Nat}
end
end PV
namespace PySem.RV
open PySem PySem.Spec PyProof.Rows PySem.Builtin.SmallTypes
section
variable {prog:Program} {w:World} {A:Around} {E:Value->Shared->Prop} {s:Shared} {I l:Addr} {xs:Array Value}
end
end PySem.RV
namespace PV
open PySem PySem.Spec PyProof.Rows L2
section
variable {X:Cx} {Y:Fx} {a:Expr} {fa:En->R T} {pos p p' pos' :Pos}
end
def uQ (t t' :T):R Bool:=match t,t' with
 | .str x, .str y=> .ok (Txt.contains y x)
 | _,_=> .bad
theorem QB:Nx uQ:=fun t t' c h=>by
 unfold uQ at h
 split at h <;> cases h
section
variable {X:Cx} {Y:Fx} {a b c:Expr} {fa fb fc:En->R T} {pos p:Pos}
theorem yQ:OpR X (compareOp .In) (W4 uQ):=by
 intro pins s σ H x y v u Q I rx ry h
 obtain ⟨t,t',k,r,r',e,q⟩:=h
 unfold uQ at e
 split at e
 ·cases e
  cases r; cases r'
  obtain ⟨t1,rfl⟩:=rx
  obtain ⟨t2,rfl⟩:=ry
  exact P.in_str ⟨.bl _,H,I,rfl,q⟩
 ·cases e
def smE (g:Str->T->R T) (fa fb:En->R T):En->R T:=fun ρ=>(fa ρ).bind fun t=>match t with
 | .str x=>(fb ρ).bind fun u=>g x u
 | _=> .bad
def kC (x:Str):T->R T
 | .str y=> .ok (.bl (Txt.startswith x y))
 | _=> .bad
def kD (x:Str):T->R T
 | .str y=> .ok (.bl (Txt.endswith x y))
 | _=> .bad
def KY (x:Str):T->R T
 | .str y=>if x.length<=bnd/\(y.length == 0)=false then .ok (.tup [.str (Txt.partition x y).1, .str (Txt.partition x y).2.1, .str (Txt.partition x y).2.2]) else .bad
 | _=> .bad
def kF (x:Str):T->R T
 | .str y=>if x.length<=1000/\(y.length == 0)=false then .ok (.lst ((Txt.split x y).map T.str)) else .bad
 | _=> .bad
def yR (fa fb fc:En->R T):En->R T:=fun ρ=>(fa ρ).bind fun t=>match t with
 | .str x=>(fb ρ).bind fun u=>(fc ρ).bind fun w=>match u,w with
  | .str y, .int i=> .ok (.bl (Txt.startswith3 x y i))
  | _,_=> .bad
 | _=> .bad
theorem QC:MtR X "str.startswith" (fun x xs H Q=>(∃ z y,x= .str z/\xs=[.str y]/\Q (.bl (Txt.startswith z y)) H)\/∃ z y i,x= .str z/\xs=[.str y, .int i]/\Q (.bl (Txt.startswith3 z y i)) H):=by
 intro pins s σ H x xs v us Q I rx rv h
 rcases h with ⟨z,y,rfl,rfl,q⟩ | ⟨z,y,i,rfl,rfl,q⟩
 ·obtain ⟨t,rfl⟩:=rx
  obtain ⟨u,rfl,ru⟩:=ZT rv
  obtain ⟨t2,rfl⟩:=ru
  exact call_gives F.slot_str_startswith (typeIs_str _ _ _) F.entry_str_startswith (F.args_str_startswith_2 _ _) (gives_str_startswith z y t t2) ⟨.bl _,H,I,rfl,q⟩
 ·obtain ⟨t,rfl⟩:=rx
  obtain ⟨u,u3,rfl,ru,r3⟩:=y6 rv
  obtain ⟨t2,rfl⟩:=ru
  obtain ⟨t3,rfl⟩:=r3
  refine SC.startswith3 ?_
  exact ⟨.bl _,H,I,rfl,q⟩
theorem Xh:MtR X "str.endswith" (fun x xs H Q=>∃ z y,x= .str z/\xs=[.str y]/\Q (.bl (Txt.endswith z y)) H):=by
 intro pins s σ H x xs v us Q I rx rv h
 obtain ⟨z,y,rfl,rfl,q⟩:=h
 obtain ⟨t,rfl⟩:=rx
 obtain ⟨u,rfl,ru⟩:=ZT rv
 obtain ⟨t2,rfl⟩:=ru
 exact call_gives F.slot_str_endswith (typeIs_str _ _ _) F.entry_str_endswith (F.args_str_endswith_2 _ _) (gives_str_endswith z y t t2) ⟨.bl _,H,I,rfl,q⟩
theorem Wu {pins:List (Addr×Obj)} {s:Shared} {σ:L2.St} {H:Hp} (I:Inv X pins σ H s) (x y z:Str) (t1 t2 t3:Tok) (k:Nat) {Q:VK} (q:∀ p,H p=none->Q (.ref p) (upd H p (.tup [.str x, .str y, .str z]))):
  EP X pins σ Q (.ref s.heap.objs.size) { s with heap:=s.heap.push { cls:= .type "tuple",data:= .seq [.str x t1, .str y t2, .str z t3].toArray },toks:=k }:=
 ⟨.ref s.heap.objs.size,upd H s.heap.objs.size (.tup [.str x, .str y, .str z]),I.laid (t' :=k) (fun b u e=>Heap.get?_push_of_some _ e) (Nat.le_refl _) ⟨by rw [sizeLine_eq]; show 3<=16777216; decide,[.str x t1, .str y t2, .str z t3], .cons ⟨_,rfl⟩ (.cons ⟨_,rfl⟩ (.cons ⟨_,rfl⟩ .nil)),⟨_,Heap.get?_push_size _ rfl,rfl,_,rfl⟩, .inr ⟨_,Heap.get?_push_size _ rfl,rfl⟩⟩,rfl,q _ (I.hok.fresh (Nat.le_refl _))⟩
theorem Xi:MtR X "str.partition" (fun x xs H Q=>∃ z y,x= .str z/\xs=[.str y]/\z.length<=bnd/\(y.length == 0)=false/\∀ p,H p=none->Q (.ref p) (upd H p (.tup [.str (Txt.partition z y).1, .str (Txt.partition z y).2.1, .str (Txt.partition z y).2.2]))):=by
 intro pins s σ H x xs v us Q I rx rv h
 obtain ⟨z,y,rfl,rfl,hz,hy,q⟩:=h
 obtain ⟨t,rfl⟩:=rx
 obtain ⟨u,rfl,ru⟩:=ZT rv
 obtain ⟨t2,rfl⟩:=ru
 refine call_meets F.slot_str_partition (typeIs_str _ _ _) F.entry_str_partition (F.args_str_partition_2 _ _) (meets_str_partition z y t t2 hy (ZK hz)) ?_
 unfold Txt.partition at q
 revert q
 cases Builtin.Str.occurrences z y 0 z.length 1 with
 | nil=>exact fun q=>Wu I _ _ _ _ _ _ _ q
 | cons i r=>exact fun q=>Wu I _ _ _ _ _ _ _ q
theorem Wv:∀ l:List (Str×Tok),Ze (l.map fun p=>V.str p.1) (strValues l)
 | []=> .nil
 | (x,t) :: r=> .cons ⟨t,rfl⟩ (Wv r)
theorem wN {pins:List (Addr×Obj)} {s:Shared} {σ:L2.St} {H:Hp} (I:Inv X pins σ H s) (l:List (Str×Tok)) (k:Nat) {ys:List Str} (hl:l.map (·.1)=ys) (hz:ys.length<=sizeLine) {Q:VK} (q:∀ p,H p=none->Q (.ref p) (upd H p (.lst (ys.map V.str)))):
  EP X pins σ Q (.ref s.heap.objs.size) { s with heap:=s.heap.push { cls:= .type "list",data:= .seq (strValues l).toArray },toks:=k }:=by
 subst hl
 have e:(l.map (·.1)).map V.str=l.map fun p=>V.str p.1:=by rw [List.map_map]; rfl
 rw [e] at q
 refine ⟨.ref s.heap.objs.size,upd H s.heap.objs.size (.lst (l.map fun p=>V.str p.1)),I.laid (t' :=k) (fun b u e=>Heap.get?_push_of_some _ e) (Nat.le_refl _) ⟨?_,strValues l,0,Wv l,Heap.get?_push_size _ rfl⟩,rfl,q _ (I.hok.fresh (Nat.le_refl _))⟩
 rw [List.length_map] at hz ⊢
 exact hz
theorem yS (x y:Str):(Txt.split x y).length<=x.length+2:=by
 unfold Txt.split
 have e1:=StrLaws.occ_length_le x y 0 x.length (x.length+1)
 split
 ·simp
 ·split
  ·simp
  ·rw [length_partsBetween]; omega
theorem Xj:MtR X "str.split" (fun x xs H Q=>∃ z y,x= .str z/\xs=[.str y]/\z.length<=1000/\(y.length == 0)=false/\∀ p,H p=none->Q (.ref p) (upd H p (.lst ((Txt.split z y).map V.str)))):=by
 intro pins s σ H x xs v us Q I rx rv h
 obtain ⟨z,y,rfl,rfl,hz,hy,q⟩:=h
 obtain ⟨t,rfl⟩:=rx
 obtain ⟨u,rfl,ru⟩:=ZT rv
 obtain ⟨t2,rfl⟩:=ru
 have hs:(Txt.split z y).length<=sizeLine:=by
  have:=yS z y
  rw [sizeLine_eq]; omega
 have hn:(Builtin.Str.partsBetween z (Builtin.Str.occurrences z y 0 z.length (z.length+1)) y.length).length<=sizeLine:=by
  have e1:=StrLaws.occ_length_le z y 0 z.length (z.length+1)
  rw [length_partsBetween,sizeLine_eq]; omega
 cases h1:(decide (z.length < y.length) || decide (Builtin.Str.strKind z < Builtin.Str.strKind y))
 ·cases hf:(Builtin.Str.occurrences z y 0 z.length (z.length+1)).isEmpty
  ·refine call_meets F.slot_str_split (typeIs_str _ _ _) F.entry_str_split (F.args_str_split_2 _ _) (meets_str_split_sep z y t t2 h1 hy hf (by rw [sizeLine_eq]; omega) hn) ?_
   refine (show wants (EP X pins σ Q) X.xe _ { s with toks:=_,heap:=s.heap.push { cls:= .type "list",data:= .seq (strsFrom s.toks (Builtin.Str.partsBetween z (Builtin.Str.occurrences z y 0 z.length (z.length+1)) y.length)).toArray } } from ?_)
   rw [strsFrom_eq]
   exact wN I _ _ ((numbered_texts _ _).trans ((if_neg (ne_true_of_eq_false h1)).trans (if_neg (ne_true_of_eq_false hf))).symm) hs q
  ·refine call_meets F.slot_str_split (typeIs_str _ _ _) F.entry_str_split (F.args_str_split_2 _ _) (meets_str_split_not_found z y t t2 h1 hy hf) ?_
   exact wN I [(z,t)] s.toks ((if_neg (ne_true_of_eq_false h1)).trans (if_pos hf)).symm hs q
 ·refine call_meets F.slot_str_split (typeIs_str _ _ _) F.entry_str_split (F.args_str_split_2 _ _) (meets_str_split_cannot_occur z y t t2 h1) ?_
  exact wN I [(z,t)] s.toks (if_pos h1).symm hs q
section
variable {pa:Pos}
theorem kG {b:Expr} {p:Pos} (hs:St1 X b):(((((backTo p (starEach [b] X.env)).all fun x=> !x.fst) && (backToKw p (keywordEach [] X.env)).all fun x=>x.fst.isSome) && decide (([b].length+([]:List Keyword).length+if ([]:List Keyword).isEmpty=true then 0 else 1) < 30))=true):=by rw [hs]; rfl
theorem KZ (ha:Snd X Y a fa) (hb:Snd X Y b fb) (hb1:attributeBase a "startswith" X.env (eval a X.env)=eval a X.env:=by rfl) (hs:St1 X b:=by exact st1 rfl) (hz:(pa.endLine == p.line)=true:=by rfl):
  Snd X Y (.Call (.Attribute a "startswith" pa) [b] [] p) (smE kC fa fb):= .mk fun ρ=>
 PE.imp (Wj PySem.F.plainAttrs_str PySem.F.slot_str_startswith PySem.F.type_str_startswith QC (ha ρ) (zD (hb ρ) Z8 hs) hb1 (kG hs) hz hs rfl) fun σ H Q ⟨B,I,q⟩=>step I q fun t v H1 _ s1 r1 I1 q1=>by
  cases r1 with
  | str x=>
   refine ⟨rfl,step I1 q1 fun u v' H2 _ s2 r2 I2 q2=> ?_⟩
   cases r2 with
   | str y=>exact .inl ⟨x,y,rfl,rfl,po0 I2.sB q2 rfl (.bl _)⟩
   | _=>exact q2.elim
  | _=>exact q1.elim
theorem Xk (ha:Snd X Y a fa) (hb:Snd X Y b fb) (hc:Snd X Y c fc) (hb1:attributeBase a "startswith" X.env (eval a X.env)=eval a X.env:=by rfl) (hs:starEach [b,c] X.env=[(false,eval b X.env),(false,eval c X.env)]:=by exact st2 rfl rfl) (hs2:St1 X c:=by exact st1 rfl) (hz:(pa.endLine == p.line)=true:=by rfl):
  Snd X Y (.Call (.Attribute a "startswith" pa) [b,c] [] p) (yR fa fb fc):= .mk fun ρ=>
 PE.imp (Wj PySem.F.plainAttrs_str PySem.F.slot_str_startswith PySem.F.type_str_startswith QC (ha ρ) (zD (hb ρ) (zD (hc ρ) Z8 hs2) (by rw [hs,hs2])) hb1 (by rw [hs]; rfl) hz (by rw [hs,hs2]) (by rw [hs2]; rfl)) fun σ H Q ⟨B,I,q⟩=>step I q fun t v H1 _ s1 r1 I1 q1=>by
  cases r1 with
  | str x=>
   refine ⟨rfl,step I1 q1 fun u v' H2 _ s2 r2 I2 q2=>step I2 q2 fun w v3 H3 _ s3 r3 I3 q3=> ?_⟩
   cases r2 with
   | str y=>
    cases r3 with
    | int i=>exact .inr ⟨x,y,i,rfl,rfl,po0 I3.sB q3 rfl (.bl _)⟩
    | _=>exact q3.elim
   | _=>cases r3 <;> exact q3.elim
  | _=>exact q1.elim
theorem g6 (ha:Snd X Y a fa) (hb:Snd X Y b fb) (hb1:attributeBase a "endswith" X.env (eval a X.env)=eval a X.env:=by rfl) (hs:St1 X b:=by exact st1 rfl) (hz:(pa.endLine == p.line)=true:=by rfl):
  Snd X Y (.Call (.Attribute a "endswith" pa) [b] [] p) (smE kD fa fb):= .mk fun ρ=>
 PE.imp (Wj PySem.F.plainAttrs_str PySem.F.slot_str_endswith PySem.F.type_str_endswith Xh (ha ρ) (zD (hb ρ) Z8 hs) hb1 (kG hs) hz hs rfl) fun σ H Q ⟨B,I,q⟩=>step I q fun t v H1 _ s1 r1 I1 q1=>by
  cases r1 with
  | str x=>
   refine ⟨rfl,step I1 q1 fun u v' H2 _ s2 r2 I2 q2=> ?_⟩
   cases r2 with
   | str y=>exact ⟨x,y,rfl,rfl,po0 I2.sB q2 rfl (.bl _)⟩
   | _=>exact q2.elim
  | _=>exact q1.elim
theorem g9 {H:Hp} (x y z:Str):zR H [V.str x, .str y, .str z] [T.str x, .str y, .str z]:= .cons (.str _) (.cons (.str _) (.cons (.str _) .nil))
theorem Xl {H:Hp}:∀ ys:List Str,zR H (ys.map V.str) (ys.map T.str)
 | []=> .nil
 | _ :: r=> .cons (.str _) (Xl r)
theorem gc (ha:Snd X Y a fa) (hb:Snd X Y b fb) (hb1:attributeBase a "partition" X.env (eval a X.env)=eval a X.env:=by rfl) (hs:St1 X b:=by exact st1 rfl) (hz:(pa.endLine == p.line)=true:=by rfl):
  Snd X Y (.Call (.Attribute a "partition" pa) [b] [] p) (smE KY fa fb):= .mk fun ρ=>
 PE.imp (Wj PySem.F.plainAttrs_str PySem.F.slot_str_partition PySem.F.type_str_partition Xi (ha ρ) (zD (hb ρ) Z8 hs) hb1 (kG hs) hz hs rfl) fun σ H Q ⟨B,I,q⟩=>step I q fun t v H1 _ s1 r1 I1 q1=>by
  cases r1 with
  | str x=>
   refine ⟨rfl,step I1 q1 fun u v' H2 _ s2 r2 I2 q2=> ?_⟩
   cases r2 with
   | str y=>
    have q2:Po Y rC _ H2 (if x.length<=bnd/\(y.length == 0)=false then .ok (.tup [.str (Txt.partition x y).1, .str (Txt.partition x y).2.1, .str (Txt.partition x y).2.2]) else .bad) Q:=q2
    split at q2
    ·rename_i hc
     exact ⟨x,y,rfl,rfl,hc.1,hc.2,fun z hz=>x6 I2.sB q2 rfl (g9 _ _ _) hz⟩
    ·exact q2.elim
   | _=>exact q2.elim
  | _=>exact q1.elim
theorem gd (ha:Snd X Y a fa) (hb:Snd X Y b fb) (hb1:attributeBase a "split" X.env (eval a X.env)=eval a X.env:=by rfl) (hs:St1 X b:=by exact st1 rfl) (hz:(pa.endLine == p.line)=true:=by rfl):
  Snd X Y (.Call (.Attribute a "split" pa) [b] [] p) (smE kF fa fb):= .mk fun ρ=>
 PE.imp (Wj PySem.F.plainAttrs_str PySem.F.slot_str_split PySem.F.type_str_split Xj (ha ρ) (zD (hb ρ) Z8 hs) hb1 (kG hs) hz hs rfl) fun σ H Q ⟨B,I,q⟩=>step I q fun t v H1 _ s1 r1 I1 q1=>by
  cases r1 with
  | str x=>
   refine ⟨rfl,step I1 q1 fun u v' H2 _ s2 r2 I2 q2=> ?_⟩
   cases r2 with
   | str y=>
    have q2:Po Y rC _ H2 (if x.length<=1000/\(y.length == 0)=false then .ok (.lst ((Txt.split x y).map T.str)) else .bad) Q:=q2
    split at q2
    ·rename_i hc
     exact ⟨x,y,rfl,rfl,hc.1,hc.2,fun z hz=>ky I2.sB q2 rfl (Xl _) hz⟩
    ·exact q2.elim
   | _=>exact q2.elim
  | _=>exact q1.elim
end
end
def Uz (fa:En->R T) (fl fh:En->R (Option Int)):En->R T:=fun ρ=>(fa ρ).bind fun t=>(fl ρ).bind fun lo=>(fh ρ).bind fun hi=>match t with
 | .str x=>if x.length<=bnd then .ok (.str (Txt.slice x lo hi)) else .bad
 | _=> .bad
def YY (i:Int):Str:=Str.ofString (toString i)
def txO:T->Option Str
 | .int i=>if i.natAbs < 1000000 then some (YY i) else none
 | .str x=>if x.length<=1000000 then some x else none
 | _=>none
def txV:V->Option Str
 | .int i=>if i.natAbs < 1000000 then some (YY i) else none
 | .str x=>if x.length<=1000000 then some x else none
 | _=>none
def UA (t:T):R T:=match txO t with
 | some x=> .ok (.str x)
 | none=> .bad
def rdI (x:Str):Option Int:=((List.range 199).map fun (k:Nat)=>(k:Int) - 99).find? fun n=>YY n == x
def kH:T->R T
 | .str x=>match rdI x with
  | some n=> .ok (.int n)
  | none=> .bad
 | _=> .bad
theorem yT {i:Int} (h:i.natAbs < 1000000):i.natAbs.log2 < 1920:=by
 by_cases h0:i.natAbs=0
 ·rw [h0]; decide
 ·have:i.natAbs.log2 < 20:=(Nat.log2_lt h0).mpr (by omega)
  omega
theorem Xm:∀ k < 199,PySem.intText? (YY ((k:Nat) - 99:Int))=some ((k:Nat) - 99:Int)/\(YY ((k:Nat) - 99:Int)).length<=640:=by decide+kernel
section
variable {X:Cx} {Y:Fx} {a b c:Expr} {fa fb fc:En->R T} {pos p p1 p2 p3:Pos} {kc:Nat}
theorem Xn:SlR X (fun x lo hi H Q=>∃ z,x= .str z/\z.length<=bnd/\Q (.str (Txt.slice z lo hi)) H):=by
 intro pins s σ H x v vl vu lo hi sl Q I rx hs pl pu h
 obtain ⟨z,rfl,hz,q⟩:=h
 obtain ⟨t,rfl⟩:=rx
 refine ⟨"str",_,F.slot_str_getitem.lookup,typeIs_str _ _ _, ?_⟩
 have fin:∀ t' k,EP X pins σ Q (.str (Txt.slice z lo hi) t') { s with toks:=k }:=fun t' k=>⟨.str _,H,I.tok k,⟨t',rfl⟩,q⟩
 have hl:=Nat.le_trans (Txt.slice_le z lo hi) (ZK hz)
 cases pl with
 | none=>
  cases pu with
  | none=>exact wpAny_getItem_str_slice (l:=none) (u:=none) (st:=none) hs rfl (post_val_or_str ⟨hl,fin⟩)
  | int j tj=>exact wpAny_getItem_str_slice (l:=none) (u:=some (j,tj)) (st:=none) hs rfl (post_val_or_str ⟨hl,fin⟩)
 | int i ti=>
  cases pu with
  | none=>exact wpAny_getItem_str_slice (l:=some (i,ti)) (u:=none) (st:=none) hs rfl (post_val_or_str ⟨hl,fin⟩)
  | int j tj=>exact wpAny_getItem_str_slice (l:=some (i,ti)) (u:=some (j,tj)) (st:=none) hs rfl (post_val_or_str ⟨hl,fin⟩)
theorem Vl {lo hi:Option Expr} {fl fh:En->R (Option Int)} (ha:Snd X Y a fa) (hl:Qo X Y lo fl) (hh:Qo X Y hi fh):Snd X Y (.Subscript a (.Slice lo hi none p2) pos) (Uz fa fl fh):= .mk fun ρ=>
 PE.imp (uu Xn (ha ρ) (hl ρ) (hh ρ)) fun σ H Q ⟨B,I,q⟩=>step I q fun t v H1 _ s1 r1 I1 q1=>step I1 q1 fun l l' H2 _ s2 el I2 q2=>step I2 q2 fun h h' H3 _ s3 eh I3 q3=>by
  have el' :l' =l:=el
  have eh' :h' =h:=eh
  subst el' eh'
  cases r1 with
  | str x=>
   have q3:Po Y rC _ H3 (if x.length<=bnd then .ok (.str (Txt.slice x l' h')) else .bad) Q:=q3
   split at q3
   ·rename_i hb
    exact ⟨x,rfl,hb,po0 I3.sB q3 rfl (.str _)⟩
   ·exact q3.elim
  | _=>exact q3.elim
theorem qT:ZS X (.type "str") (fun xs H Q=>∃ v x,xs=[v]/\txV v=some x/\Q (.str x) H):=by
 intro pins s σ H xs us Q I r h
 obtain ⟨v,x,rfl,e,q⟩:=h
 obtain ⟨u,rfl,ru⟩:=ZT r
 unfold txV at e
 split at e
 ·split at e
  ·rename_i i hi
   obtain ⟨t,rfl⟩:=ru
   cases e
   exact P.str_of_int (yT hi) ⟨.str _,H,I.tok _,⟨_,rfl⟩,q⟩
  ·cases e
 ·split at e
  ·obtain ⟨t,rfl⟩:=ru
   cases e
   exact P.str_of_str ⟨.str _,H,I,⟨_,rfl⟩,q⟩
  ·cases e
 ·cases e
theorem Xo {H:Hp} {v:V} {t:T} {x:Str} (r:Rep H v t) (e:txO t=some x):txV v=some x:=by
 cases r with
 | int i=>exact e
 | str y=>exact e
 | _=>cases e
theorem yU (gl:Gl X "str") (mg:X.mg "str"=none) (ha:Snd X Y a fa) (hs:St1 X a:=by exact st1 rfl):Snd X Y (.Call (.Name "str" p) [a] [] pos) (ap1 UA fa):=
 uD qT (fun v t B H Q r sB q=>by
  unfold UA at q
  split at q
  ·rename_i x e
   exact ⟨v,x,rfl,Xo r e,po0 sB q rfl (.str _)⟩
  ·exact q.elim) gl mg (PyProof.Rows.Boot.«str») ha hs
theorem Ww:ZS X (.type "int") (fun xs H Q=>∃ x n,xs=[.str x]/\rdI x=some n/\Q (.int n) H):=by
 intro pins s σ H xs us Q I r h
 obtain ⟨x,n,rfl,e,q⟩:=h
 obtain ⟨u,rfl,ru⟩:=ZT r
 obtain ⟨t,rfl⟩:=ru
 have hm:=List.mem_of_find?_eq_some e
 have hx:YY n=x:=by simpa using List.find?_some e
 obtain ⟨k,hk,rfl⟩:=List.mem_map.mp hm
 obtain ⟨h1,h2⟩:=Xm k (List.mem_range.mp hk)
 subst hx
 exact PySem.W.KIN.call_text h1 h2 ⟨.int _,H,I.tok _,⟨_,rfl⟩,q⟩
theorem Xp (gl:Gl X "int") (mg:X.mg "int"=none) (ha:Snd X Y a fa) (hs:St1 X a:=by exact st1 rfl):Snd X Y (.Call (.Name "int" p) [a] [] pos) (ap1 kH fa):=
 uD Ww (fun v t B H Q r sB q=>by
  cases r with
  | str x=>
   have q:Po Y rC _ H (match rdI x with | some n=> .ok (.int n) | none=> .bad) Q:=q
   split at q
   ·rename_i n e
    exact ⟨x,n,rfl,e,po0 sB q rfl (.int _)⟩
   ·exact q.elim
  | _=>exact q.elim) gl mg (PyProof.Rows.Boot.«int») ha hs
end
def gf (x:Str):It:=
 ⟨fun i _=>i < x.cps.size,fun i H v H' =>∃ p c,H p=none/\v= .ref p/\x.cps[i]? =some c/\H' =upd H p (.tup [.int i, .str ⟨#[c]⟩]),fun i _=>x.cps.size<=i⟩
theorem Vm (x:Str):strIterType x="str_ascii_iterator"\/strIterType x="str_iterator":=by
 unfold strIterType; split
 ·exact .inl rfl
 ·exact .inr rfl
theorem Wx {prog:Program} {w:World} {A:Around} (hh:A.handled=none) (it:Addr) (x:Str) (t:Tok) {ty:String} (hty:ty="str_ascii_iterator"\/ty="str_iterator"):Draws prog w A it [it] x.cps.size (SignAt x) (fun i h=>h.IsStrIter it ty x t i):=by
 rcases hty with rfl | rfl
 ·exact Draws.strAscii hh it x t
 ·exact Draws.strWide hh it x t
theorem UB {P:Program} {w:World} {K:PySem.W.Frag} {elts:List Expr} {kk:Nat} {pt:Pos} {x:Str} {tt:Tok} {ty:String} (hty:ty="str_ascii_iterator"\/ty="str_iterator") (e it:Addr) (hei:e ≠ it):
  Ud P w K (.Tuple elts kk pt) (gf x) [e,it] e (fun i h=>i<=x.cps.size/\(∃ old,IsEnum h e it i old)/\h.IsStrIter it ty x tt i) where
 mem:=by simp
 obj:=fun i h st b hb=>by
  obtain ⟨_,⟨old,he⟩,o,e1,c,d⟩:=st
  rcases List.mem_cons.mp hb with rfl | hb
  ·exact ⟨_,he,fun v z=>nomatch z⟩
  ·have z:b=it:=by simpa using hb
   subst z
   exact ⟨o,e1,fun v z=>by rw [d] at z; cases z⟩
 keep:=fun i h h' st k=>by
  obtain ⟨hn,⟨old,he⟩,o,e1,r⟩:=st
  exact ⟨hn,⟨old,k e (by simp) _ he⟩,o,k it (by simp) o e1,r⟩
 item:=by
  intro X hP hw hK hc i pins s σ H E I hf st hg
  subst hP hw hK
  obtain ⟨hin,⟨old,he⟩,hit⟩:=st
  have D:=Wx (prog:=X.prog) (w:=X.w) (A:=X.A.in1) (I.ok.hd hc) it x tt hty
  have hef:e ∉ [it]:=fun z=>hei (List.mem_singleton.mp z)
  have WE:=WalksT.enumerateD D e hei hef (.head _)
  refine WE.item i s _ _ hg ⟨⟨old,he⟩,hit⟩ fun T vals h' tk hP hT hTup hM hk=> ?_
  obtain ⟨t,y,⟨c,u,hc',rfl⟩,rfl⟩:=hP
  refine ⟨.ref T,rfl, ?_⟩
  refine WE.go elts kk pt i T _ _ _ hM fun h2 hst2 hk2=> ?_
  have hTn:H T=none:=I.hok.fresh hT
  have hTne:∀ b∈[e,it],b ≠ T:=fun b hb z=>by
   obtain ⟨_,_,h3,h4⟩:=hM
   rcases List.mem_cons.mp hb with rfl | hb
   ·exact h3 z.symm
   ·have:b=it:=by simpa using hb
    subst this; exact h4 z.symm
  have Y5:IsTup h2 T #[.int i t, .str ⟨#[c]⟩ u]:=by
   obtain ⟨o,eo,r⟩:=hTup
   exact ⟨o,hk2 T o (fun hb=>hTne T hb rfl) eo,r⟩
  refine ⟨.ref T,upd H T (.tup [.int i, .str ⟨#[c]⟩]),Inv.laidT (s:=s) (h' :=h2) (ch:=[e,it]) (tk:=tk) I hf (fun b o hb e=>hk2 b o hb (hk b o hb e)) (fun b o hb _=> ?_) hT ⟨by rw [sizeLine_eq]; show 2<=16777216; decide,[.int i t, .str ⟨#[c]⟩ u], .cons ⟨t,rfl⟩ (.cons ⟨u,rfl⟩ .nil),Y5, .inl ⟨_,_,rfl⟩⟩,rfl,⟨T,c,hTn,rfl,hc',rfl⟩,⟨hg,hst2.1,hst2.2⟩,fun b hb=> ?_⟩
  ·obtain ⟨⟨old2,he2⟩,⟨o2,eo2,_⟩⟩:=hst2
   rcases List.mem_cons.mp hb with rfl | hb
   ·exact ⟨_,he2⟩
   ·have:b=it:=by simpa using hb
    subst this; exact ⟨o2,eo2⟩
  ·rw [zH (hTne b hb)]; exact (hf b hb).1
 done:=by
  intro X hP hw hK hc i pins s σ H E I hf st hg
  subst hP hw hK
  obtain ⟨hin,⟨old,he⟩,hit⟩:=st
  have D:=Wx (prog:=X.prog) (w:=X.w) (A:=X.A.in1) (I.ok.hd hc) it x tt hty
  have hn:x.cps.size=i:=Nat.le_antisymm hg hin
  refine wpAny_pyNext_enum_endD D he (by rw [hn]; exact hit) fun h' hk=>⟨rfl, ?_⟩
  obtain ⟨f0,f1,f2,f3,f4,f5⟩:=hf it (by simp)
  exact I.turned (t' :=s.toks) (fun b o hb e=>hk b o hb e) f0 f1 f3 f4 f5
 self:=fun _ _ _ _ _ st h=>let ⟨_,⟨_,he⟩,_⟩:=st; wpAny_pyIter_enum he h
theorem qU {B1 H1:Hp} {x:Str}:rI B1 H1 (gf x) (ZQ (ZP x)):=fun B2 H2 s1 s2=>by
 have hl:(ZQ (ZP x)).length=x.cps.size:=by rw [jq]; unfold ZP; simp
 refine ⟨fun i hi=>by rw [hl] at hi; exact hi,fun i t v H3 e y=> ?_,fun i hi=>by rw [hl] at hi; exact hi⟩
 obtain ⟨p,c,hp,rfl,hc,rfl⟩:=y
 obtain ⟨t',et,rfl⟩:=JM e
 have hc' :x.cps.toList[i]? =some c:=by simpa using hc
 unfold ZP at et
 rw [List.getElem?_map,hc'] at et
 cases et
 exact ⟨zK.new hp _, .tup (jk hp _) (.cons (.int _) (.cons (.str _) .nil))⟩
def yV (fa:En->R T):En->R (List T):=fun ρ=>(fa ρ).bind fun t=>match t with
 | .str x=> .ok (ZQ (ZP x))
 | _=> .bad
section
variable {X:Cx} {Y:Fx} {a:Expr} {fa:En->R T} {pos p pt:Pos} {elts:List Expr} {kk:Nat}
theorem qV {ta:TA} (hg:Gl X "enumerate") (hm:X.mg "enumerate"=none) (ha:PA X [a] ta) (hs:St1 X a:=by exact st1 rfl):
  PI X (.Tuple elts kk pt) (.Call (.Name "enumerate" p) [a] [] pos) (fun σ H R=>ta σ H fun vs H1=>∃ x,vs=[.str x]/\R (gf x) H1):=by
 intro pins s σ H R I h
 refine Call_ (jd I hg hm PyProof.Rows.Boot.«enumerate» (PyProof.Rows.callWith_type1 (thn (ha pos pins s σ H _ I h) fun us s1 ⟨vs,H1,I1,r1,q1⟩=> ?_) hs rfl))
 obtain ⟨x,e,q⟩:=q1
 subst e
 obtain ⟨u,rfl,ru⟩:=ZT r1
 obtain ⟨tt,rfl⟩:=ru
 refine call_enumerate_str fun h' he hit hsz hk=>wpAny_pyIter_enum he ?_
 have f:∀ b∈[s1.heap.objs.size+1,s1.heap.objs.size],W2 X pins H1 b:=fun b hb=>by
  rcases List.mem_cons.mp hb with rfl | hb
  ·exact I1.fpOk (Nat.le_succ _) (I1.hok.fresh (Nat.le_succ _))
  ·have z:b=s1.heap.objs.size:=by simpa using hb
   subst z
   exact I1.fpOk (Nat.le_refl _) (I1.hok.fresh (Nat.le_refl _))
 exact ⟨s1.heap.objs.size+1,[s1.heap.objs.size+1,s1.heap.objs.size],_,_,H1,rfl,I1.kept (t' :=s1.toks) hk,UB (Vm x) _ _ (Nat.succ_ne_self _),⟨Nat.zero_le _,⟨_,he⟩,hit⟩,f,q⟩
theorem Vn (hg:Gl X "enumerate") (hm:X.mg "enumerate"=none) (ha:Snd X Y a fa) (hs:St1 X a:=by exact st1 rfl):Uu X Y (.Tuple elts kk pt) (.Call (.Name "enumerate" p) [a] [] pos) (yV fa):= .mk fun ρ=>
 PI.imp (qV hg hm (zD (ha ρ) Z8 hs) hs) fun σ H R ⟨B,I,q⟩=>step I q fun t v H1 _ s1 r1 I1 q1=>by
  cases r1 with
  | str x=>exact ⟨x,rfl,j0 I1 (show Po Y rI _ H1 (.ok (ZQ (ZP x))) R from q1) qU⟩
  | _=>exact q1.elim
end
def Xq (fb:En->RS):En->RS:=fun ρ=>match fb ρ with
 | .ex _=> .bad
 | r=>r
theorem Vo {X:Cx} {tb:TS} {body:List Stmt} {hh:ExceptHandler} {hs:List ExceptHandler} {pos:Pos}
  (hb:∀ (pn:List (Addr×Obj)) (xe:Value->Shared->Prop),PSs (X.try' pn xe) body tb):PS X (.Try body (hh :: hs) [] [] pos) tb:=by
 intro pins s σ H D I hw
 have hr:=hb (X.pn++pins) (fun e s1=>wpAny (model X.prog X.w) X.A (noteFrame e X.env) (fun _ s2=>wpAny (model X.prog X.w) X.A (setFlight e none) (fun _ s3=>wpAny (model X.prog X.w) X.A (handleBy e X.env (hh :: hs)) (SP X pins D) X.xe s3) X.xe s2) X.xe s1) [] s σ H D (I.try' _) hw
 refine wpAny_Try_except (wpAny_mono hr (fun f s1 h1=> ?_) fun _ _ z=>z)
 have h1:=h1.untry
 cases f with
 | next=>exact wpAny_execs_nil h1
 | brk=>exact h1
 | cont=>exact h1
 | ret u=>exact h1
theorem Xr {X:Cx} {Y:Fx} {fb:En->RS} {body:List Stmt} {hh:ExceptHandler} {hs:List ExceptHandler} {pos:Pos}
  (hb:∀ (pn:List (Addr×Obj)) (xe:Value->Shared->Prop),Ut (X.try' pn xe) Y body fb):W6 X Y (.Try body (hh :: hs) [] [] pos) (Xq fb):= .mk fun ρ=>
 PS.imp (Vo (tb:=tSS Y fb ρ) fun pn xe=>hb pn xe ρ) fun D σ H ⟨B,I,q⟩=>⟨B,I,by
  unfold Xq at q
  cases e:fb ρ with
  | ex c=>rw [e] at q; exact q.elim
  | _=>rw [e] at q; exact q⟩
end PV
namespace G
open PySem PySem.Spec PyProof.Rows L2 PV
def GG:En->RS:=
  zx (ifS (zB ltC (vB 1) (ap1 ZO (vB 0))) (zI (zf ixT (vE 0) (vE 1))) (nxS))
  (zx (ifS (zB eqC (vB 0) (J0 (zj))) (zI (cE (.int 0))) (nxS))
  (zI (zf zw (zf Z1 (zf ixT (vE 0) (zf jI (vE 1) (ap1 ZO (vB 0)))) (cE (.int 31))) (vE 1))))
def Xs:List T->R T:=fun ts=>zn (GG  (en0 2 ts))
def b_2 (c_1e:List T->R T):En->RS:=
  zx (zT 3 (zf jI (zf Z1 (zf zw (zc 2 c_1e (z9 (vE 0) (z9 (vE 1) (zj)))) (zf Z1 (cE (.int 6151)) (zf zw (vE 1) (cE (.int 1))))) (cE (.int 40692))) (cE (.int 2147483399))))
  (zI (zf jI (zf jI (zf zw (zf Z1 (vE 3) (vE 3)) (zf JF (vE 3) (cE (.int 31)))) (cE (.int 2147483629))) (vE 2)))
def f_2:List T->R T:=fun ts=>zn (b_2 (Xs) (en0 4 ts))
def b_x (c_2:List T->R T):En->RS:=
  zx (zT 2 (cE (.str "abcdefghijklmnopqrstuvwxyz")))
  (zx (ifS (zB gtC (zc 3 c_2 (z9 (vE 0) (z9 (vE 1) (z9 (cE (.int 6)) (zj))))) (cE (.int 0))) (zI (zf ixT (J0 (z9 (cE (.str "a")) (z9 (cE (.str "b")) (z9 (cE (.str "ab")) (z9 (cE (.str "cab")) (zj)))))) (zc 3 c_2 (z9 (vE 0) (z9 (zf zw (vE 1) (cE (.int 1))) (z9 (cE (.int 4)) (zj))))))) (nxS))
  (zI (ap1 (wJ "") (zY (ZY (zf zw (cE (.int 1)) (zc 3 c_2 (z9 (vE 0) (z9 (zf zw (vE 1) (cE (.int 1))) (z9 (cE (.int 3)) (zj))))))) (zG 0) (Z2) (zf ixT (vE 3) (zc 3 c_2 (z9 (vE 1) (z9 (zf zw (zf zw (vE 2) (cE (.int 2))) (vE 0)) (z9 (cE (.int 26)) (zj)))))) 1 [0,1,2]))))
def f_x:List T->R T:=fun ts=>zn (b_x (f_2) (en0 3 ts))
def b_v (c_2:List T->R T) (c_x:List T->R T):En->RS:=
  zx (ifS (zB gtC (zc 3 c_2 (z9 (vE 0) (z9 (vE 1) (z9 (cE (.int 3)) (zj))))) (cE (.int 0))) (zx (zT 2 (zf jG (zc 3 c_2 (z9 (vE 0) (z9 (zf zw (vE 1) (cE (.int 1))) (z9 (cE (.int 7)) (zj))))) (cE (.int 3))))
  (zx (ifS (zB eqC (zc 3 c_2 (z9 (vE 0) (z9 (zf zw (vE 1) (cE (.int 3))) (z9 (cE (.int 8)) (zj))))) (cE (.int 0))) (zT 2 (zf ixT (J0 (z9 (uy (cE (.int 20))) (z9 (cE (.int 17)) (z9 (cE (.int 20)) (zj))))) (zc 3 c_2 (z9 (vE 0) (z9 (zf zw (vE 1) (cE (.int 4))) (z9 (cE (.int 3)) (zj))))))) (nxS))
  (zI (Zy (z9 (cE (.str "whole")) (z9 (vE 2) (z9 (zf Wp (cE (.int 20)) (zf zw (vE 2) (zc 3 c_2 (z9 (vE 0) (z9 (zf zw (vE 1) (cE (.int 2))) (z9 (cE (.int 4)) (zj))))))) (zj)))))))) (nxS))
  (zx (uF 3 (zj))
  (zx (jV (ZY (zf zw (cE (.int 1)) (zc 3 c_2 (z9 (vE 0) (z9 (zf zw (vE 1) (cE (.int 1))) (z9 (cE (.int 4)) (zj))))))) (zG 4) (zx (zT 5 (zc 2 c_x (z9 (vE 0) (z9 (zf zw (zf zw (vE 1) (cE (.int 5))) (zf Z1 (cE (.int 5)) (vE 4))) (zj)))))
  (ifS (zB qt (vB 5) (vB 3)) (uH 3 (vE 5)) (nxS))))
  (zI (Zy (z9 (cE (.str "pick")) (z9 (ap1 Qn (zY (V2 (vE 3)) (Za 0 1) (Z2) (Zy (z9 (vE 1) (z9 (zf zw (cE (.int 1)) (zc 3 c_2 (z9 (vE 2) (z9 (zf zw (zf zw (vE 3) (cE (.int 30))) (vE 0)) (z9 (cE (.int 20)) (zj)))))) (zj)))) 2 [0,1])) (zj)))))))
def f_v:List T->R T:=fun ts=>zn (b_v (f_2) (f_x) (en0 6 ts))
def b_c (c_2:List T->R T) (c_v:List T->R T) (c_c:List T->R T):En->RS:=
  zx (zT 3 (zc 3 c_2 (z9 (vE 0) (z9 (vE 1) (z9 (cE (.int 5)) (zj))))))
  (zx (ifS (orT (zB eqC (vB 2) (cE (.int 1))) (zB ltC (vB 3) (cE (.int 2)))) (zI (zc 2 c_v (z9 (vE 0) (z9 (zf zw (vE 1) (cE (.int 1))) (zj))))) (nxS))
  (zx (ifS (zB ltC (vB 3) (cE (.int 4))) (zx (zT 4 (zY (ZY (zf zw (cE (.int 1)) (zc 3 c_2 (z9 (vE 0) (z9 (zf zw (vE 1) (cE (.int 1))) (z9 (cE (.int 3)) (zj))))))) (zG 0) (Z2) (zc 3 c_c (z9 (vE 1) (z9 (zf zw (zf zw (zf Z1 (cE (.int 3)) (vE 2)) (cE (.int 40))) (zf Z1 (cE (.int 50)) (vE 0))) (z9 (zf jG (vE 3) (cE (.int 1))) (zj))))) 1 [0,1,2]))
  (zI (Zy (z9 (cE (.str "row")) (z9 (ap1 Qn (vE 4)) (zj)))))) (nxS))
  (zx (zT 5 (zc 3 c_2 (z9 (vE 0) (z9 (zf zw (vE 1) (cE (.int 1))) (z9 (cE (.int 3)) (zj))))))
  (zI (Zy (z9 (cE (.str "many")) (z9 (zc 3 c_c (z9 (vE 0) (z9 (zf zw (zf Z1 (cE (.int 3)) (vE 1)) (cE (.int 40))) (z9 (zf jG (vE 2) (cE (.int 1))) (zj))))) (z9 (vE 5) (z9 (zf Wp (cE (.int 3)) (zf zw (vE 5) (zc 3 c_2 (z9 (vE 0) (z9 (zf zw (vE 1) (cE (.int 2))) (z9 (cE (.int 3)) (zj))))))) (zj))))))))))
def S_c:Nat->Nat->List T->R T
 | 0,_=>fun _=> .bad
 | n+1,_=>fun ts=>zn (b_c (f_2) (f_v) (S_c n 0) (en0 6 ts))
abbrev f_c (n:Nat):List T->R T:=S_c n 0
def b_b:En->RS:=
  zx (zT 1 (J0 (z9 (Zy (zj)) (zj))))
  (zx (jV (j6 (vE 0)) (zG 2) (zx (uF 3 (zj))
  (zx (jV (j6 (vE 1)) (zG 4) (YW 3 (zY (j6 (vE 2)) (zG 0) (Z2) (zf zw (vE 1) (Zy (z9 (vE 0) (zj)))) 1 [4])))
  (mvS 1 3))))
  (zI (vE 1)))
def f_b:List T->R T:=fun ts=>zn (b_b  (en0 5 ts))
def b_8 (c_8:List T->R T) (c_b:List T->R T):En->RS:=
  zx (ifS (zB eqC (zf ixT (vE 0) (cE (.int 0))) (cE (.str "whole"))) (zI (kA (Jn (zf ixT (vE 0) (cE (.int 1))) (zf zw (zf ixT (vE 0) (cE (.int 2))) (cE (.int 1)))))) (nxS))
  (zx (ifS (zB eqC (zf ixT (vE 0) (cE (.int 0))) (cE (.str "pick"))) (zI (zY (j6 (zf ixT (vE 0) (cE (.int 1)))) (Za 0 1) (Z2) (vE 0) 2 [])) (nxS))
  (zx (ifS (zB eqC (zf ixT (vE 0) (cE (.int 0))) (cE (.str "row"))) (zI (zc 1 c_b (z9 (zY (j6 (zf ixT (vE 0) (cE (.int 1)))) (zG 0) (Z2) (zc 1 c_8 (z9 (vE 0) (zj))) 1 []) (zj)))) (nxS))
  (zx (uF 1 (zj))
  (zx (jV (Jn (zf ixT (vE 0) (cE (.int 2))) (zf zw (zf ixT (vE 0) (cE (.int 3))) (cE (.int 1)))) (zG 2) (YW 1 (zc 1 c_b (z9 (zf Z1 (J0 (z9 (zc 1 c_8 (z9 (zf ixT (vE 0) (cE (.int 1))) (zj))) (zj))) (vE 2)) (zj)))))
  (zI (vE 1))))))
def S_8:Nat->Nat->List T->R T
 | 0,_=>fun _=> .bad
 | n+1,_=>fun ts=>zn (b_8 (S_8 n 0) (f_b) (en0 3 ts))
abbrev f_8 (n:Nat):List T->R T:=S_8 n 0
def b_9 (c_8:List T->R T) (c_9:List T->R T):En->RS:=
  zx (ifS (zB inC (zf ixT (vE 0) (cE (.int 0))) (Zy (z9 (cE (.str "whole")) (z9 (cE (.str "pick")) (zj))))) (zI (ap1 ZO (zc 1 c_8 (z9 (vE 0) (zj))))) (nxS))
  (zx (zT 1 (ifE (zB eqC (zf ixT (vE 0) (cE (.int 0))) (cE (.str "row"))) (zY (j6 (zf ixT (vE 0) (cE (.int 1)))) (zG 0) (Z2) (zc 1 c_9 (z9 (vE 0) (zj))) 1 []) (J0 (zj))))
  (zx (zT 2 (cE (.int 1)))
  (zx (jV (j6 (vE 1)) (zG 3) (zT 2 (zf Z1 (vE 2) (vE 3))))
  (zx (ifS (zB eqC (zf ixT (vE 0) (cE (.int 0))) (cE (.str "many"))) (zx (zT 4 (zc 1 c_9 (z9 (zf ixT (vE 0) (cE (.int 1))) (zj))))
  (zx (zT 2 (zf zw (ap1 W7 (jh eqC (zf ixT (vE 0) (cE (.int 2))) (cE (.int 0)))) (zf Z1 (vE 4) (ap1 W7 (chE leC leC (zf ixT (vE 0) (cE (.int 2))) (cE (.int 1)) (zf ixT (vE 0) (cE (.int 3))))))))
  (zx (zT 2 (zf zw (vE 2) (zf Z1 (zf Z1 (vE 4) (vE 4)) (ap1 W7 (chE leC leC (zf ixT (vE 0) (cE (.int 2))) (cE (.int 2)) (zf ixT (vE 0) (cE (.int 3))))))))
  (zT 2 (zf zw (vE 2) (zf Z1 (zf Z1 (zf Z1 (vE 4) (vE 4)) (vE 4)) (ap1 W7 (jh eqC (zf ixT (vE 0) (cE (.int 3))) (cE (.int 3)))))))))) (nxS))
  (zI (vE 2))))))
def S_9:Nat->Nat->List T->R T
 | 0,_=>fun _=> .bad
 | n+1,_=>fun ts=>zn (b_9 (f_8 8) (S_9 n 0) (en0 5 ts))
abbrev f_9 (n:Nat):List T->R T:=S_9 n 0
def b_y (c_c:List T->R T) (c_9:List T->R T):En->RS:=
  zx (zT 3 (zc 3 c_c (z9 (vE 0) (z9 (vE 1) (z9 (cE (.int 3)) (zj))))))
  (zx (jV (ZY (cE (.int 3))) (zG 4) (zx (ifS (zB leC (zc 1 c_9 (z9 (vE 3) (zj))) (vB 2)) (zI (vE 3)) (nxS))
  (zT 3 (zc 3 c_c (z9 (vE 0) (z9 (zf zw (zf zw (vE 1) (cE (.int 500))) (zf Z1 (cE (.int 700)) (vE 4))) (z9 (cE (.int 2)) (zj))))))))
  (zI (ifE (zB leC (zc 1 c_9 (z9 (vE 3) (zj))) (vB 2)) (vE 3) (Zy (z9 (cE (.str "whole")) (z9 (uy (cE (.int 1))) (z9 (cE (.int 2)) (zj))))))))
def f_y:List T->R T:=fun ts=>zn (b_y (f_c 8) (f_9 8) (en0 5 ts))
def b_3 (c_2:List T->R T) (c_3:List T->R T):En->RS:=
  zx (zT 3 (zc 3 c_2 (z9 (vE 0) (z9 (vE 1) (z9 (cE (.int 9)) (zj))))))
  (zx (ifS (US (zB gtC (vB 2) (cE (.int 1))) (zB gtC (vB 3) (cE (.int 5)))) (zx (zT 4 (zc 3 c_3 (z9 (vE 0) (z9 (zf zw (zf Z1 (cE (.int 2)) (vE 1)) (cE (.int 11))) (z9 (zf jG (vE 2) (cE (.int 1))) (zj))))))
  (zx (ifS (zB eqC (vB 3) (cE (.int 6))) (zI (Zy (z9 (cE (.str "no")) (z9 (vE 4) (zj))))) (nxS))
  (zI (Zy (z9 (zf ixT (J0 (z9 (cE (.str "all")) (z9 (cE (.str "some")) (zj)))) (zf jG (vE 3) (cE (.int 7)))) (z9 (vE 4) (z9 (zc 3 c_3 (z9 (vE 0) (z9 (zf zw (zf Z1 (cE (.int 2)) (vE 1)) (cE (.int 24))) (z9 (zf jG (vE 2) (cE (.int 1))) (zj))))) (zj)))))))) (nxS))
  (zx (zT 5 (zf jG (zc 3 c_2 (z9 (vE 0) (z9 (zf zw (vE 1) (cE (.int 1))) (z9 (cE (.int 9)) (zj))))) (cE (.int 4))))
  (zx (ifS (zB ltC (zf jI (vE 3) (cE (.int 6))) (cE (.int 2))) (zI (Zy (z9 (cE (.str "sum")) (z9 (vE 5) (z9 (zf jG (zf zw (vE 5) (zc 3 c_2 (z9 (vE 0) (z9 (zf zw (vE 1) (cE (.int 2))) (z9 (cE (.int 5)) (zj)))))) (cE (.int 1))) (zj)))))) (nxS))
  (zx (ifS (zB eqC (zf jI (vE 3) (cE (.int 6))) (cE (.int 2))) (zI (Zy (z9 (cE (.str "size")) (z9 (zc 3 c_2 (z9 (vE 0) (z9 (zf zw (vE 1) (cE (.int 1))) (z9 (cE (.int 3)) (zj))))) (z9 (zc 3 c_2 (z9 (vE 0) (z9 (zf zw (vE 1) (cE (.int 2))) (z9 (cE (.int 4)) (zj))))) (zj)))))) (nxS))
  (zx (ifS (zB eqC (zf jI (vE 3) (cE (.int 6))) (cE (.int 3))) (zI (Zy (z9 (cE (.str "word")) (z9 (zf ixT (J0 (z9 (cE (.str "a")) (z9 (cE (.str "b")) (z9 (cE (.str "ab")) (z9 (cE (.str "zz")) (zj)))))) (zc 3 c_2 (z9 (vE 0) (z9 (zf zw (vE 1) (cE (.int 1))) (z9 (cE (.int 4)) (zj)))))) (zj))))) (nxS))
  (zI (ifE (zB eqC (zf jI (vE 3) (cE (.int 6))) (cE (.int 4))) (Zy (z9 (cE (.str "rising")) (zj))) (Zy (z9 (cE (.str "unlike")) (zj))))))))))
def S_3:Nat->Nat->List T->R T
 | 0,_=>fun _=> .bad
 | n+1,_=>fun ts=>zn (b_3 (f_2) (S_3 n 0) (en0 6 ts))
abbrev f_3 (n:Nat):List T->R T:=S_3 n 0
def b_h (c_h:List T->R T):En->RS:=
  zx (ifS (zB inC (zf ixT (vE 0) (cE (.int 0))) (Zy (z9 (cE (.str "no")) (z9 (cE (.str "all")) (z9 (cE (.str "some")) (zj)))))) (zI (zf zw (zf zw (zf zw (zf ixT (vE 0) (cE (.int 0))) (cE (.str "("))) (ap1 (wJ ", ") (zY (j6 (slE (vE 0) (Zr (cE (.int 1))) (noO))) (zG 0) (Z2) (zc 1 c_h (z9 (vE 0) (zj))) 1 []))) (cE (.str ")")))) (nxS))
  (zI (ap1 (wJ " ") (zY (j6 (vE 0)) (zG 0) (Z2) (ap1 UA (vE 0)) 1 [])))
def S_h:Nat->Nat->List T->R T
 | 0,_=>fun _=> .bad
 | n+1,_=>fun ts=>zn (b_h (S_h n 0) (en0 1 ts))
abbrev f_h (n:Nat):List T->R T:=S_h n 0
def b_d:En->RS:=
  zI (J7 (ap1 (uE "int") (vB 0)) (qv (ap1 (uE "bool") (vB 0))))
def f_d:List T->R T:=fun ts=>zn (b_d  (en0 1 ts))
def kI (c_d:List T->R T):En->RS:=
  zI (J7 (zc 1 c_d (z9 (vE 0) (zj))) (chE leC leC (uy (cE (.int 50))) (vB 0) (cE (.int 50))))
def kJ:List T->R T:=fun ts=>zn (kI (f_d) (en0 1 ts))
def b_o:En->RS:=
  zx (ifS (orT (wl (jC (ap1 (uE "str") (vB 0)))) (wl (chT leC leC (cE (.int 1)) (ap1 ZO (vB 0)) (cE (.int 3))))) (zI (cE (.bl false))) (nxS))
  (zI (ap1 qy (zY (j6 (vE 0)) (zG 0) (Z2) (chE leC leC (cE (.str "a")) (vB 0) (cE (.str "z"))) 1 [])))
def f_o:List T->R T:=fun ts=>zn (b_o  (en0 1 ts))
def b_k (c_o:List T->R T) (c_k:List T->R T) (c_15:List T->R T):En->RS:=
  zx (ifS (orT (zB eqC (vB 1) (cE (.int 0))) (orT (wl (jC (ap1 (uE "tuple") (vB 0)))) (zB eqC (ap1 ZO (vB 0)) (cE (.int 0))))) (zI (cE (.bl false))) (nxS))
  (zx (ifS (orT (zB eqC (zf ixT (vE 0) (cE (.int 0))) (cE (.str "sum"))) (zB eqC (zf ixT (vE 0) (cE (.int 0))) (cE (.str "size")))) (zI (J7 (jh eqC (ap1 ZO (vB 0)) (cE (.int 3))) (J7 (zc 1 c_15 (z9 (zf ixT (vE 0) (cE (.int 1))) (zj))) (zc 1 c_15 (z9 (zf ixT (vE 0) (cE (.int 2))) (zj)))))) (nxS))
  (zx (ifS (zB eqC (zf ixT (vE 0) (cE (.int 0))) (cE (.str "word"))) (zI (J7 (jh eqC (ap1 ZO (vB 0)) (cE (.int 2))) (zc 1 c_o (z9 (zf ixT (vE 0) (cE (.int 1))) (zj))))) (nxS))
  (zx (ifS (orT (zB eqC (zf ixT (vE 0) (cE (.int 0))) (cE (.str "rising"))) (zB eqC (zf ixT (vE 0) (cE (.int 0))) (cE (.str "unlike")))) (zI (jh eqC (ap1 ZO (vB 0)) (cE (.int 1)))) (nxS))
  (zx (ifS (zB eqC (zf ixT (vE 0) (cE (.int 0))) (cE (.str "no"))) (zI (J7 (jh eqC (ap1 ZO (vB 0)) (cE (.int 2))) (zc 2 c_k (z9 (zf ixT (vE 0) (cE (.int 1))) (z9 (zf jG (vE 1) (cE (.int 1))) (zj)))))) (nxS))
  (zx (ifS (orT (zB eqC (zf ixT (vE 0) (cE (.int 0))) (cE (.str "all"))) (zB eqC (zf ixT (vE 0) (cE (.int 0))) (cE (.str "some")))) (zI (J7 (jh eqC (ap1 ZO (vB 0)) (cE (.int 3))) (J7 (zc 2 c_k (z9 (zf ixT (vE 0) (cE (.int 1))) (z9 (zf jG (vE 1) (cE (.int 1))) (zj)))) (zc 2 c_k (z9 (zf ixT (vE 0) (cE (.int 2))) (z9 (zf jG (vE 1) (cE (.int 1))) (zj))))))) (nxS))
  (zI (cE (.bl false))))))))
def S_k:Nat->Nat->List T->R T
 | 0,_=>fun _=> .bad
 | n+1,_=>fun ts=>zn (b_k (f_o) (S_k n 0) (kJ) (en0 2 ts))
abbrev f_k (n:Nat):List T->R T:=S_k n 0
def b_7 (c_k:List T->R T):En->RS:=
  zI (zc 2 c_k (z9 (vE 0) (z9 (cE (.int 3)) (zj))))
def f_7:List T->R T:=fun ts=>zn (b_7 (f_k 8) (en0 1 ts))
def b_s (c_7:List T->R T):En->RS:=
  ifS (wl (jC (zc 1 c_7 (z9 (vE 0) (zj))))) (jr 2) (nxS)
def f_s:List T->R T:=fun ts=>zn (b_s (f_7) (en0 1 ts))
def b_m:En->RS:=
  zI (orE (jh eqC (vB 0) (cE (.str "no"))) (orE (jh eqC (vB 0) (cE (.str "all"))) (jh eqC (vB 0) (cE (.str "some")))))
def f_m:List T->R T:=fun ts=>zn (b_m  (en0 1 ts))
def b_i (c_i:List T->R T) (c_m:List T->R T):En->RS:=
  zx (ifS (jC (zc 1 c_m (z9 (zf ixT (vE 0) (cE (.int 0))) (zj)))) (zI (zf zw (zf zw (zf zw (zf ixT (vE 0) (cE (.int 0))) (cE (.str "("))) (ap1 (wJ ", ") (zY (j6 (slE (vE 0) (Zr (cE (.int 1))) (noO))) (zG 0) (Z2) (zc 1 c_i (z9 (vE 0) (zj))) 1 []))) (cE (.str ")")))) (nxS))
  (zI (ap1 (wJ " ") (zY (j6 (vE 0)) (zG 0) (Z2) (ap1 UA (vE 0)) 1 [])))
def S_i:Nat->Nat->List T->R T
 | 0,_=>fun _=> .bad
 | n+1,_=>fun ts=>zn (b_i (S_i n 0) (f_m) (en0 1 ts))
abbrev f_i (n:Nat):List T->R T:=S_i n 0
def b_5 (c_s:List T->R T) (c_i:List T->R T):En->RS:=
  zx (u2 (zc 1 c_s (z9 (vE 0) (zj))))
  (zI (zc 1 c_i (z9 (vE 0) (zj))))
def f_5:List T->R T:=fun ts=>zn (b_5 (f_s) (f_i 8) (en0 1 ts))
def GH:En->RS:=
  ifS (wl (jC (ap1 (uE "str") (vB 0)))) (jr 5) (nxS)
def gh:List T->R T:=fun ts=>zn (GH  (en0 1 ts))
def kK:En->RS:=
  zx (ifS (zB gtC (ap1 ZO (vB 0)) (cE (.int 3))) (jr 5) (nxS))
  (zx (Xq (zT 1 (ap1 kH (vE 0))))
  (zx (ifS (zB neC (ap1 UA (vE 1)) (vB 0)) (jr 5) (nxS))
  (zI (vE 1))))
def QD:List T->R T:=fun ts=>zn (kK  (en0 2 ts))
def b_u (c_10:List T->R T):En->RS:=
  zx (ifS (orT (zB eqC (zf ixT (vE 0) (cE (.int 0))) (cE (.str "sum"))) (zB eqC (zf ixT (vE 0) (cE (.int 0))) (cE (.str "size")))) (zI (zf zw (Zy (z9 (zf ixT (vE 0) (cE (.int 0))) (zj))) (ap1 Qn (zY (j6 (slE (vE 0) (Zr (cE (.int 1))) (noO))) (zG 0) (Z2) (zc 1 (nex c_10) (z9 (vE 0) (zj))) 1 [])))) (nxS))
  (zI (ap1 Qn (vE 0)))
def f_u:List T->R T:=fun ts=>zn (b_u (QD) (en0 1 ts))
def b_r:En->RS:=
  zx (uF 2 (zj))
  (zx (zT 3 (cE (.int 0)))
  (zx (zT 4 (cE (.int 0)))
  (zx (jV (yV (vE 0)) (Za 5 6) (zx (ifS (zB uQ (vB 6) (cE (.str "([{"))) (zT 4 (zf zw (vE 4) (cE (.int 1)))) (nxS))
  (zx (ifS (zB uQ (vB 6) (cE (.str ")]}"))) (zT 4 (zf jG (vE 4) (cE (.int 1)))) (nxS))
  (ifS (US (zB eqC (vB 4) (cE (.int 0))) (jC (yR (vE 0) (vE 1) (vE 5)))) (zx (uH 2 (Uz (vE 0) (Zr (vE 3)) (Zr (vE 5))))
  (zT 3 (zf zw (vE 5) (ap1 ZO (vB 1))))) (nxS)))))
  (zx (uH 2 (Uz (vE 0) (Zr (vE 3)) (noO)))
  (zI (vE 2))))))
def f_r:List T->R T:=fun ts=>zn (b_r  (en0 7 ts))
def kL:En->RS:=
  zx (ifS (orT (wl (jC (smE kC (vE 0) (vE 1)))) (wl (jC (smE kD (vE 0) (vE 2))))) (jr 5) (nxS))
  (zI (Uz (vE 0) (Zr (ap1 ZO (vB 1))) (Zr (uy (ap1 ZO (vB 2))))))
def Vp:List T->R T:=fun ts=>zn (kL  (en0 3 ts))
def b_6 (c_12:List T->R T) (c_r:List T->R T) (c_m:List T->R T) (c_6:List T->R T) (c_u:List T->R T):En->RS:=
  zx (ifS (zB eqC (vB 1) (cE (.int 0))) (jr 5) (nxS))
  (zx (zT 2 (smE KY (vE 0) (cE (.str "("))))
  (zx (ifS (jC (zc 1 c_m (z9 (zf ixT (vE 2) (cE (.int 0))) (zj)))) (zx (zT 3 (zc 2 c_r (z9 (zc 3 c_12 (z9 (vE 0) (z9 (zf zw (zf ixT (vE 2) (cE (.int 0))) (cE (.str "("))) (z9 (cE (.str ")")) (zj))))) (z9 (cE (.str ", ")) (zj)))))
  (zI (zf zw (Zy (z9 (zf ixT (vE 2) (cE (.int 0))) (zj))) (ap1 Qn (zY (j6 (vE 3)) (zG 0) (Z2) (zc 2 (nex c_6) (z9 (vE 0) (z9 (zf jG (vE 1) (cE (.int 1))) (zj)))) 1 [1]))))) (nxS))
  (zI (zc 1 c_u (z9 (smE kF (vE 0) (cE (.str " "))) (zj))))))
def S_6:Nat->Nat->List T->R T
 | 0,_=>fun _=> .bad
 | n+1,_=>fun ts=>zn (b_6 (Vp) (f_r) (f_m) (S_6 n 0) (f_u) (en0 4 ts))
abbrev f_6 (n:Nat):List T->R T:=S_6 n 0
def b_t (c_7:List T->R T) (c_1f:List T->R T) (c_6:List T->R T):En->RS:=
  zx (u2 (zc 1 c_1f (z9 (vE 0) (zj))))
  (zx (zT 1 (zc 2 c_6 (z9 (vE 0) (z9 (cE (.int 3)) (zj)))))
  (zx (ifS (wl (jC (zc 1 c_7 (z9 (vE 1) (zj))))) (jr 5) (nxS))
  (zI (vE 1))))
def f_t:List T->R T:=fun ts=>zn (b_t (f_7) (gh) (f_6 8) (en0 2 ts))
def GI (c_d:List T->R T):En->RS:=
  zI (J7 (zc 1 c_d (z9 (vE 0) (zj))) (J7 (zc 1 c_d (z9 (vE 1) (zj))) (GE leC leC leC (vB 2) (vB 0) (vB 1) (vB 3))))
def kM:List T->R T:=fun ts=>zn (GI (f_d) (en0 4 ts))
def b_j:En->RS:=
  zI (J7 (ap1 (uE "tuple") (vB 0)) (chE leC leC (vB 1) (ap1 ZO (vB 0)) (vB 2)))
def f_j:List T->R T:=fun ts=>zn (b_j  (en0 3 ts))
def kN (c_d:List T->R T) (c_j:List T->R T) (c_o:List T->R T):En->RS:=
  zI (J7 (zc 3 c_j (z9 (vE 0) (z9 (cE (.int 2)) (z9 (cE (.int 2)) (zj))))) (J7 (zc 1 c_o (z9 (zf ixT (vE 0) (cE (.int 0))) (zj))) (J7 (zc 1 c_d (z9 (zf ixT (vE 0) (cE (.int 1))) (zj))) (chE leC leC (cE (.int 1)) (zf ixT (vE 0) (cE (.int 1))) (cE (.int 20))))))
def Vq:List T->R T:=fun ts=>zn (kN (f_d) (f_j) (f_o) (en0 1 ts))
def b_w (c_j:List T->R T) (c_14:List T->R T):En->RS:=
  zx (ifS (orT (wl (jC (zc 3 c_j (z9 (vE 0) (z9 (cE (.int 1)) (z9 (cE (.int 4)) (zj))))))) (wl (jC (ap1 qy (zY (j6 (vE 0)) (zG 0) (Z2) (zc 1 c_14 (z9 (vE 0) (zj))) 1 []))))) (zI (cE (.bl false))) (nxS))
  (zx (zT 1 (zY (j6 (vE 0)) (zG 0) (Z2) (zf ixT (vE 0) (cE (.int 0))) 1 []))
  (zI (jh eqC (ap1 qG (vB 1)) (ap1 ZO (vB 1)))))
def f_w:List T->R T:=fun ts=>zn (b_w (f_j) (Vq) (en0 2 ts))
def b_a (c_1b:List T->R T) (c_a:List T->R T) (c_w:List T->R T) (c_1d:List T->R T):En->RS:=
  zx (ifS (orT (zB eqC (vB 1) (cE (.int 0))) (orT (wl (jC (ap1 (uE "tuple") (vB 0)))) (zB eqC (ap1 ZO (vB 0)) (cE (.int 0))))) (zI (cE (.bl false))) (nxS))
  (zx (ifS (zB eqC (zf ixT (vE 0) (cE (.int 0))) (cE (.str "whole"))) (zI (J7 (jh eqC (ap1 ZO (vB 0)) (cE (.int 3))) (zc 4 c_1b (z9 (zf ixT (vE 0) (cE (.int 1))) (z9 (zf ixT (vE 0) (cE (.int 2))) (z9 (uy (cE (.int 20))) (z9 (cE (.int 20)) (zj)))))))) (nxS))
  (zx (ifS (zB eqC (zf ixT (vE 0) (cE (.int 0))) (cE (.str "pick"))) (zI (J7 (jh eqC (ap1 ZO (vB 0)) (cE (.int 2))) (zc 1 c_w (z9 (zf ixT (vE 0) (cE (.int 1))) (zj))))) (nxS))
  (zx (ifS (zB eqC (zf ixT (vE 0) (cE (.int 0))) (cE (.str "row"))) (zI (J7 (jh eqC (ap1 ZO (vB 0)) (cE (.int 2))) (zc 2 c_1d (z9 (zf ixT (vE 0) (cE (.int 1))) (z9 (zf jG (vE 1) (cE (.int 1))) (zj)))))) (nxS))
  (zx (ifS (zB eqC (zf ixT (vE 0) (cE (.int 0))) (cE (.str "many"))) (zI (J7 (jh eqC (ap1 ZO (vB 0)) (cE (.int 4))) (J7 (zc 4 c_1b (z9 (zf ixT (vE 0) (cE (.int 2))) (z9 (zf ixT (vE 0) (cE (.int 3))) (z9 (cE (.int 0)) (z9 (cE (.int 3)) (zj)))))) (zc 2 c_a (z9 (zf ixT (vE 0) (cE (.int 1))) (z9 (zf jG (vE 1) (cE (.int 1))) (zj))))))) (nxS))
  (zI (cE (.bl false)))))))
def kO (c_j:List T->R T) (c_a:List T->R T):En->RS:=
  zI (J7 (zc 3 c_j (z9 (vE 0) (z9 (cE (.int 1)) (z9 (cE (.int 3)) (zj))))) (ap1 qy (zY (j6 (vE 0)) (zG 0) (Z2) (zc 2 c_a (z9 (vE 0) (z9 (vE 1) (zj)))) 1 [1])))
def S_a:Nat->Nat->List T->R T
 | 0,_=>fun _=> .bad
 | n+1,0=>fun ts=>zn (b_a (kM) (S_a n 0) (f_w) (S_a n 1) (en0 2 ts))
 | n+1,_=>fun ts=>zn (kO (f_j) (S_a n 0) (en0 2 ts))
abbrev f_a (n:Nat):List T->R T:=S_a n 0
abbrev f_1d (n:Nat):List T->R T:=S_a n 1
def b_4 (c_a:List T->R T):En->RS:=
  zI (zc 2 c_a (z9 (vE 0) (z9 (cE (.int 3)) (zj))))
def f_4:List T->R T:=fun ts=>zn (b_4 (f_a 20) (en0 1 ts))
def kP (c_4:List T->R T):En->RS:=
  ifS (wl (jC (zc 1 c_4 (z9 (vE 0) (zj))))) (jr 0) (nxS)
def x8:List T->R T:=fun ts=>zn (kP (f_4) (en0 1 ts))
def b_1 (c_p:List T->R T) (c_l:List T->R T):En->RS:=
  zx (ifS (zB eqC (zf ixT (vE 0) (cE (.int 0))) (cE (.str "whole"))) (zI (zf zw (zf jG (zf ixT (vE 0) (cE (.int 2))) (zf ixT (vE 0) (cE (.int 1)))) (cE (.int 1)))) (nxS))
  (zx (ifS (zB eqC (zf ixT (vE 0) (cE (.int 0))) (cE (.str "pick"))) (zI (ap1 ZO (zf ixT (vE 0) (cE (.int 1))))) (nxS))
  (zx (ifS (zB eqC (zf ixT (vE 0) (cE (.int 0))) (cE (.str "row"))) (zI (zc 1 c_p (z9 (zf ixT (vE 0) (cE (.int 1))) (zj)))) (nxS))
  (zI (zc 2 c_l (z9 (vE 0) (z9 (zf zw (zf ixT (vE 0) (cE (.int 3))) (cE (.int 1))) (zj)))))))
def b_p (c_1:List T->R T):En->RS:=
  zx (zT 1 (cE (.int 1)))
  (zx (jV (j6 (vE 0)) (zG 2) (zT 1 (zf Z1 (vE 1) (zc 1 c_1 (z9 (vE 2) (zj))))))
  (zI (vE 1)))
def b_l (c_p:List T->R T):En->RS:=
  zI (ap1 Vg (zY (Jn (zf ixT (vE 0) (cE (.int 2))) (vE 1)) (zG 0) (Z2) (zc 1 c_p (z9 (zf Z1 (J0 (z9 (zf ixT (vE 1) (cE (.int 1))) (zj))) (vE 0)) (zj))) 1 [0]))
def S_1:Nat->Nat->List T->R T
 | 0,_=>fun _=> .bad
 | n+1,0=>fun ts=>zn (b_1 (S_1 n 1) (S_1 n 2) (en0 1 ts))
 | n+1,1=>fun ts=>zn (b_p (S_1 n 0) (en0 3 ts))
 | n+1,_=>fun ts=>zn (b_l (S_1 n 1) (en0 2 ts))
abbrev f_1 (n:Nat):List T->R T:=S_1 n 0
abbrev f_p (n:Nat):List T->R T:=S_1 n 1
abbrev f_l (n:Nat):List T->R T:=S_1 n 2
def kQ:En->RS:=
  zI (zY (j6 (zf ixT (vE 0) (cE (.int 1)))) (zG 0) (Z2) (zf ixT (vE 0) (cE (.int 0))) 1 [])
def Xt:List T->R T:=fun ts=>zn (kQ  (en0 1 ts))
def b_e (c_11:List T->R T) (c_1c:List T->R T) (c_n:List T->R T):En->RS:=
  zx (ifS (zB eqC (zf ixT (vE 0) (cE (.int 0))) (cE (.str "whole"))) (zI (zf zw (zf ixT (vE 0) (cE (.int 1))) (vE 1))) (nxS))
  (zx (ifS (zB eqC (zf ixT (vE 0) (cE (.int 0))) (cE (.str "pick"))) (zI (zf ixT (zc 1 c_11 (z9 (vE 0) (zj))) (vE 1))) (nxS))
  (zx (ifS (zB eqC (zf ixT (vE 0) (cE (.int 0))) (cE (.str "row"))) (zI (zc 2 c_n (z9 (zf ixT (vE 0) (cE (.int 1))) (z9 (vE 1) (zj))))) (nxS))
  (zI (zc 2 c_1c (z9 (vE 0) (z9 (vE 1) (zj)))))))
def x9 (c_l:List T->R T) (c_n:List T->R T):En->RS:=
  zx (zT 2 (zf ixT (vE 0) (cE (.int 2))))
  (zx (j5 (zB leC (zc 2 c_l (z9 (vE 0) (z9 (zf zw (vE 2) (cE (.int 1))) (zj)))) (vB 1)) (zT 2 (zf zw (vE 2) (cE (.int 1)))) (8))
  (zI (zc 2 c_n (z9 (zf Z1 (J0 (z9 (zf ixT (vE 0) (cE (.int 1))) (zj))) (vE 2)) (z9 (zf jG (vE 1) (zc 2 c_l (z9 (vE 0) (z9 (vE 2) (zj))))) (zj))))))
def b_n (c_1:List T->R T) (c_e:List T->R T):En->RS:=
  zx (uF 2 (zj))
  (zx (zT 3 (vE 1))
  (zx (jV (KR (vE 0)) (zG 4) (zx (zT 5 (zc 1 c_1 (z9 (vE 4) (zj))))
  (zx (uH 2 (zc 2 c_e (z9 (vE 4) (z9 (zf jI (vE 3) (vE 5)) (zj)))))
  (zT 3 (zf JF (vE 3) (vE 5))))))
  (zI (ap1 qQ (vE 2)))))
def S_e:Nat->Nat->List T->R T
 | 0,_=>fun _=> .bad
 | n+1,0=>fun ts=>zn (b_e (Xt) (S_e n 1) (S_e n 2) (en0 2 ts))
 | n+1,1=>fun ts=>zn (x9 (f_l 20) (S_e n 2) (en0 3 ts))
 | n+1,_=>fun ts=>zn (b_n (f_1 20) (S_e n 0) (en0 6 ts))
abbrev f_e (n:Nat):List T->R T:=S_e n 0
abbrev f_1c (n:Nat):List T->R T:=S_e n 1
abbrev f_n (n:Nat):List T->R T:=S_e n 2
def kR (c_18:List T->R T) (c_1:List T->R T) (c_e:List T->R T):En->RS:=
  zx (u2 (zc 1 c_18 (z9 (vE 0) (zj))))
  (zx (zT 1 (zc 1 c_1 (z9 (vE 0) (zj))))
  (zx (ifS (zB gtC (vB 1) (cE (.int 500))) (jr 3) (nxS))
  (kB (ZY (vE 1)) (zG 0) (Z2) (zc 2 c_e (z9 (vE 1) (z9 (vE 0) (zj)))) 1 [0])))
def kS:List T->R T:=fun ts=>zn (kR (x8) (f_1 20) (f_e 20) (en0 2 ts))
def kT:En->RS:=
  zI (qv (ap1 KT (zY (uP (vE 0)) (Za 0 1) (Z2) (jh inC (vB 1) (slE (vE 2) (noO) (Zr (vE 0)))) 2 [0])))
def kU:List T->R T:=fun ts=>zn (kT  (en0 1 ts))
def kW:En->RS:=
  zI (ap1 qy (zY (KM (vE 0) (slE (vE 0) (Zr (cE (.int 1))) (noO))) (Za 0 1) (Z2) (jh leC (vB 0) (vB 1)) 2 []))
def kX:List T->R T:=fun ts=>zn (kW  (en0 1 ts))
def GJ:En->RS:=
  zI (ifE (jC (ap1 (uE "tuple") (vB 0))) (vE 0) (Zy (z9 (vE 0) (zj))))
def kY:List T->R T:=fun ts=>zn (GJ  (en0 1 ts))
def b_g (c_g:List T->R T):En->RS:=
  zx (ifS (wl (jC (ap1 (uE "tuple") (vB 0)))) (zI (J0 (z9 (vE 0) (zj)))) (nxS))
  (zx (uF 1 (zj))
  (zx (jV (j6 (vE 0)) (zG 2) (YW 1 (zc 1 c_g (z9 (vE 2) (zj)))))
  (zI (vE 1))))
def S_g:Nat->Nat->List T->R T
 | 0,_=>fun _=> .bad
 | n+1,_=>fun ts=>zn (b_g (S_g n 0) (en0 3 ts))
abbrev f_g (n:Nat):List T->R T:=S_g n 0
def b_z (c_d:List T->R T) (c_g:List T->R T):En->RS:=
  zI (zY (j6 (zc 1 c_g (z9 (vE 0) (zj)))) (zG 0) (jC (zc 1 c_d (z9 (vE 0) (zj)))) (vE 0) 1 [])
def f_z:List T->R T:=fun ts=>zn (b_z (f_d) (f_g 8) (en0 1 ts))
def kZ (c_1a:List T->R T) (c_g:List T->R T) (c_z:List T->R T) (c_16:List T->R T) (c_17:List T->R T):En->RS:=
  zx (ifS (zB eqC (zf ixT (vE 0) (cE (.int 0))) (cE (.str "sum"))) (zI (chE leC leC (zf ixT (vE 0) (cE (.int 1))) (ap1 Vg (zc 1 c_z (z9 (vE 1) (zj)))) (zf ixT (vE 0) (cE (.int 2))))) (nxS))
  (zx (ifS (zB eqC (zf ixT (vE 0) (cE (.int 0))) (cE (.str "size"))) (zI (chE leC leC (zf ixT (vE 0) (cE (.int 1))) (ap1 ZO (zc 1 c_1a (z9 (vE 1) (zj)))) (zf ixT (vE 0) (cE (.int 2))))) (nxS))
  (zx (ifS (zB eqC (zf ixT (vE 0) (cE (.int 0))) (cE (.str "word"))) (zI (jh inC (zf ixT (vE 0) (cE (.int 1))) (zc 1 c_g (z9 (vE 1) (zj))))) (nxS))
  (zx (ifS (zB eqC (zf ixT (vE 0) (cE (.int 0))) (cE (.str "rising"))) (zI (zc 1 c_16 (z9 (zc 1 c_z (z9 (vE 1) (zj))) (zj)))) (nxS))
  (zI (zc 1 c_17 (z9 (zc 1 c_1a (z9 (vE 1) (zj))) (zj)))))))
def Xu:List T->R T:=fun ts=>zn (kZ (kY) (f_g 8) (f_z) (kX) (kU) (en0 2 ts))
def b_f (c_f:List T->R T) (c_19:List T->R T):En->RS:=
  zx (ifS (zB eqC (zf ixT (vE 0) (cE (.int 0))) (cE (.str "no"))) (zI (qv (zc 2 c_f (z9 (zf ixT (vE 0) (cE (.int 1))) (z9 (vE 1) (zj)))))) (nxS))
  (zx (ifS (zB eqC (zf ixT (vE 0) (cE (.int 0))) (cE (.str "all"))) (zI (J7 (zc 2 c_f (z9 (zf ixT (vE 0) (cE (.int 1))) (z9 (vE 1) (zj)))) (zc 2 c_f (z9 (zf ixT (vE 0) (cE (.int 2))) (z9 (vE 1) (zj)))))) (nxS))
  (zx (ifS (zB eqC (zf ixT (vE 0) (cE (.int 0))) (cE (.str "some"))) (zI (orE (zc 2 c_f (z9 (zf ixT (vE 0) (cE (.int 1))) (z9 (vE 1) (zj)))) (zc 2 c_f (z9 (zf ixT (vE 0) (cE (.int 2))) (z9 (vE 1) (zj)))))) (nxS))
  (zI (zc 2 c_19 (z9 (vE 0) (z9 (vE 1) (zj)))))))
def S_f:Nat->Nat->List T->R T
 | 0,_=>fun _=> .bad
 | n+1,_=>fun ts=>zn (b_f (S_f n 0) (Xu) (en0 2 ts))
abbrev f_f (n:Nat):List T->R T:=S_f n 0
def b_q (c_13:List T->R T) (c_s:List T->R T) (c_f:List T->R T):En->RS:=
  zx (u2 (zc 1 c_s (z9 (vE 1) (zj))))
  (zI (zY (j6 (zc 1 c_13 (z9 (vE 0) (zj)))) (zG 0) (jC (zc 2 c_f (z9 (vE 1) (z9 (vE 0) (zj))))) (vE 0) 1 [1]))
def f_q:List T->R T:=fun ts=>zn (b_q (kS) (f_s) (f_f 8) (en0 2 ts))
def b_0 (c_y:List T->R T) (c_3:List T->R T) (c_q:List T->R T) (c_h:List T->R T) (c_5:List T->R T) (c_t:List T->R T):En->RS:=
  zx (zT 1 (zc 3 c_y (z9 (vE 0) (z9 (cE (.int 10)) (z9 (cE (.int 30)) (zj))))))
  (zx (jV (ZY (cE (.int 4))) (zG 2) (zx (zT 3 (zc 3 c_3 (z9 (vE 0) (z9 (zf zw (cE (.int 4000)) (zf Z1 (cE (.int 300)) (vE 2))) (z9 (cE (.int 3)) (zj))))))
  (zx (zT 4 (zc 1 c_h (z9 (vE 3) (zj))))
  (zx (ifS (orT (zB neC (zc 1 c_5 (z9 (vE 3) (zj))) (vB 4)) (zB neC (zc 1 c_t (z9 (vE 4) (zj))) (vB 3))) (zI (cE (.bl false))) (nxS))
  (ifS (US (zB eqC (vB 2) (cE (.int 0))) (zB neC (zc 2 c_q (z9 (vE 1) (z9 (zc 1 c_t (z9 (vE 4) (zj))) (zj)))) (zc 2 c_q (z9 (vE 1) (z9 (vE 3) (zj)))))) (zI (cE (.bl false))) (nxS))))))
  (zI (jh eqC (zc 1 c_5 (z9 (Zy (z9 (cE (.str "all")) (z9 (Zy (z9 (cE (.str "no")) (z9 (Zy (z9 (cE (.str "rising")) (zj))) (zj)))) (z9 (Zy (z9 (cE (.str "sum")) (z9 (uy (cE (.int 3))) (z9 (cE (.int 5)) (zj))))) (zj))))) (zj))) (cE (.str "all(no(rising), sum -3 5)")))))
def f_0:List T->R T:=fun ts=>zn (b_0 (f_y) (f_3 8) (f_q) (f_h 8) (f_5) (f_t) (en0 5 ts))
end G
namespace G
open PySem L2 PV
abbrev scr (ns:List Int):T:= .fz (ns.map T.int)
theorem Vr (ns:List Int) (k:Int) (h0:0<=k):∃ c,Xs [scr ns, .int k]= .ok (.int c):=by
 have e1:Xs [scr ns, .int k]=zn (if decide (k < ((ns.map T.int).length:Int))=true then (atT (ns.map T.int) k).s (fun t=> .rt t) else
   match (eqC (scr ns) (.lst [])).s (fun b=>if b=true then RS.rt (.int 0) else .nx [.vl (scr ns), .vl (.int k)]) with
   | .nx ρ' =>zI (zf zw (zf Z1 (zf ixT (vE 0) (zf jI (vE 1) (ap1 ZO (vB 0)))) (cE (.int 31))) (vE 1)) ρ'
   | r=>r):=by
  show zn (match (if decide (k < ((ns.map T.int).length:Int))=true then (atT (ns.map T.int) k).s (fun t=>RS.rt t) else .nx [.vl (scr ns), .vl (.int k)]) with
   | .nx ρ' =>_
   | r=>r)=_
  cases decide (k < ((ns.map T.int).length:Int)) with
  | true=>
   rw [if_pos rfl,if_pos rfl]
   unfold atT
   cases atI (ns.map T.int) k <;> rfl
  | false=>rfl
 rw [e1,List.length_map]
 by_cases hk:k < (ns.length:Int)
 ·obtain ⟨v,hv⟩:∃ v,ns[k.toNat]? =some v:=⟨ns[k.toNat]'(by omega),List.getElem?_eq_getElem (by omega)⟩
  have ea:atI (ns.map T.int) k=some (.int v):=by
   have:k=((k.toNat:Nat):Int):=by omega
   rw [this]
   exact jM (by rw [List.getElem?_map,hv]; rfl)
  rw [decide_eq_true hk,if_pos rfl]
  exact ⟨v,by unfold atT; rw [ea]; rfl⟩
 ·rw [decide_eq_false hk,if_neg Bool.false_ne_true]
  cases ns with
  | nil=>exact ⟨0,rfl⟩
  | cons x xs=>
   have hm0:=Int.emod_nonneg k (show (((x :: xs).length:Nat):Int) ≠ 0 by simp only [List.length_cons]; omega)
   have hm1:=Int.emod_lt_of_pos k (show (0:Int) < (((x :: xs).length:Nat):Int) by simp only [List.length_cons]; omega)
   obtain ⟨v,hv⟩:∃ v,(x :: xs)[(k % (((x :: xs).length:Nat):Int)).toNat]? =some v:=⟨_,List.getElem?_eq_getElem (by omega)⟩
   have ea:atI ((x :: xs).map T.int) (k % (((x :: xs).length:Nat):Int))=some (.int v):=by
    have e:k % (((x :: xs).length:Nat):Int)=(((k % (((x :: xs).length:Nat):Int)).toNat:Nat):Int):=by omega
    rw [e]
    exact jM (by rw [List.getElem?_map,hv]; rfl)
   have cm:W3 v 31:= .inr ⟨by decide,by decide⟩
   have hp:(0:Int) < (((x :: xs).map T.int).length:Int):=by simp only [List.length_map,List.length_cons]; omega
   refine ⟨v*31+k, ?_⟩
   show zn (((((if 0 < (((x :: xs).map T.int).length:Int) then R.ok (T.int (k % (((x :: xs).map T.int).length:Int))) else .bad).bind fun y=>ixT (scr (x :: xs)) y).bind fun a=>Z1 a (.int 31)).bind fun a=>zw a (.int k)).s fun t=> .rt t)=_
   rw [if_pos hp]
   show zn ((((atT ((x :: xs).map T.int) (k % (((x :: xs).map T.int).length:Int))).bind fun a=>Z1 a (.int 31)).bind fun a=>zw a (.int k)).s fun t=> .rt t)=_
   rw [List.length_map]
   unfold atT
   rw [ea]
   show zn ((((if W3 v 31 then R.ok (T.int (v*31)) else .bad)).bind fun a=>zw a (.int k)).s fun t=> .rt t)=_
   rw [if_pos cm]
   rfl
theorem zU (ns:List Int) (k m:Int) (h0:0<=k) (hm:0 < m):∃ p,f_2 [scr ns, .int k, .int m]= .ok (.int p)/\0<=p/\p < m:=by
 obtain ⟨c,hc⟩:=Vr ns k h0
 have cm1:W3 6151 (k+1):= .inl ⟨by decide,by decide⟩
 have cm2:W3 (c+6151*(k+1)) 40692:= .inr ⟨by decide,by decide⟩
 generalize hd:(c+6151*(k+1))*40692 % 2147483399=d
 have hd0:0<=d:=by rw [← hd]; exact Int.emod_nonneg _ (by decide)
 have hd1:d < 2147483399:=by rw [← hd]; exact Int.emod_lt_of_pos _ (by decide)
 have cm3:W3 d d:= .inl ⟨by omega,by omega⟩
 refine ⟨(d*d+d / 31) % 2147483629 % m, ?_,Int.emod_nonneg _ (by omega),Int.emod_lt_of_pos _ hm⟩
 have e1:f_2 [scr ns, .int k, .int m]=zn (match ((((((Xs [scr ns, .int k]).bind fun x=>(Z1 (.int 6151) (.int (k+1))).bind fun y=>zw x y).bind fun x=>Z1 x (.int 40692)).bind fun x=>jI x (.int 2147483399))).s fun t=>RS.nx [.vl (scr ns), .vl (.int k), .vl (.int m), .vl t]) with
   | .nx ρ' =>zI (zf jI (zf jI (zf zw (zf Z1 (vE 3) (vE 3)) (zf JF (vE 3) (cE (.int 31)))) (cE (.int 2147483629))) (vE 2)) ρ'
   | r=>r):=rfl
 rw [e1,hc]
 show zn (match (((((if W3 6151 (k+1) then R.ok (T.int (6151*(k+1))) else .bad).bind fun y=>zw (.int c) y).bind fun x=>Z1 x (.int 40692)).bind fun x=>jI x (.int 2147483399)).s fun t=>RS.nx [.vl (scr ns), .vl (.int k), .vl (.int m), .vl t]) with
   | .nx ρ' =>_
   | r=>r)=_
 rw [if_pos cm1]
 show zn (match ((((if W3 (c+6151*(k+1)) 40692 then R.ok (T.int ((c+6151*(k+1))*40692)) else .bad)).bind fun x=>jI x (.int 2147483399)).s fun t=>RS.nx [.vl (scr ns), .vl (.int k), .vl (.int m), .vl t]) with
   | .nx ρ' =>_
   | r=>r)=_
 rw [if_pos cm2]
 show zn (zI (zf jI (zf jI (zf zw (zf Z1 (vE 3) (vE 3)) (zf JF (vE 3) (cE (.int 31)))) (cE (.int 2147483629))) (vE 2)) [.vl (scr ns), .vl (.int k), .vl (.int m), .vl (.int ((c+6151*(k+1))*40692 % 2147483399))])=_
 rw [hd]
 show zn (((((if W3 d d then R.ok (T.int (d*d)) else .bad).bind fun x=>zw x (.int (d / 31))).bind fun x=>jI x (.int 2147483629)).bind fun x=>jI x (.int m)).s fun t=>RS.rt t)=_
 rw [if_pos cm3]
 show zn ((if 0 < m then R.ok (T.int ((d*d+d / 31) % 2147483629 % m)) else .bad).s fun t=>RS.rt t)=_
 rw [if_pos hm]
 rfl
theorem yW {ft:En->R Bool} {fe:En->R T}:∀ (ts:List T) (ρ:En) (x:Sl),zM (zG 0) ft fe ts (ρ.set 0 x)=zM (zG 0) ft fe ts ρ
 | [],_,_=>rfl
 | t :: ts,ρ,x=>by
  unfold zM zG
  rw [List.set_set]
theorem jv {ft:En->R Bool} {fe:En->R T} {p:T->Bool} {h:T->T}:∀ (ts:List T) (ρ:En),(∀ t∈ts,ft (ρ.set 0 (.vl t))= .ok (p t)/\(p t=true->fe (ρ.set 0 (.vl t))= .ok (h t)))->zM (zG 0) ft fe ts ρ= .ok ((ts.filter p).map h)
 | [],_,_=>rfl
 | t :: ts,ρ,H=>by
  obtain ⟨h1,h2⟩:=H t List.mem_cons_self
  have ih:=jv ts ρ fun u hu=>H u (List.mem_cons_of_mem _ hu)
  have e:zM (zG 0) ft fe (t :: ts) ρ=(ft (ρ.set 0 (.vl t))).bind fun k=>if k=true then (fe (ρ.set 0 (.vl t))).bind fun v=>(zM (zG 0) ft fe ts (ρ.set 0 (.vl t))).bind fun vs=> .ok (v :: vs) else zM (zG 0) ft fe ts (ρ.set 0 (.vl t)):=rfl
  rw [e,h1,yW,ih]
  show (if p t=true then _ else _)=_
  cases hp:p t with
  | true=>rw [if_pos rfl,h2 hp,List.filter_cons_of_pos hp]; rfl
  | false=>rw [if_neg Bool.false_ne_true,List.filter_cons_of_neg (by rw [hp]; exact Bool.false_ne_true)]
theorem yX {fe:En->R T} {h:T->T} (ts:List T) (ρ:En) (H:∀ t∈ts,fe (ρ.set 0 (.vl t))= .ok (h t)):zM (zG 0) Z2 fe ts ρ= .ok (ts.map h):=by
 have:=jv (ft:=Z2) (fe:=fe) (p:=fun _=>true) (h:=h) ts ρ fun t ht=>⟨rfl,fun _=>H t ht⟩
 rw [this,List.filter_eq_self.mpr (fun _ _=>rfl)]
theorem Zp {fe:En->R T} {h:T->T} {k:Nat} {js:List Nat} {ρ:En} (ts:List T) (hl:ts.length<=bnd) (H:∀ t∈ts,fe ((Wq k js ρ).set 0 (.vl t))= .ok (h t)):zS (zG 0) Z2 fe k js ρ ts= .ok (ts.map h):=by
 unfold zS
 rw [if_pos hl,yX ts _ H]
 rfl
theorem Js (p:T->Bool):∀ ts:List T,WT (ts.map fun t=>T.bl (p t))=some (ts.all p)
 | []=>rfl
 | t :: ts=>by
  show (match WT (ts.map fun t=>T.bl (p t)) with | some j=>some (p t && j) | none=>none)=_
  rw [Js p ts]; rfl
def isW:T->Bool
 | .int _=>true
 | _=>false
theorem wO (t:T):f_d [t]= .ok (.bl (isW t)):=by cases t <;> rfl
def UC (a b:Nat):T->Bool
 | .tup xs=>decide (a<=xs.length) && decide (xs.length<=b)
 | _=>false
theorem jO (t:T) (a b:Nat):f_j [t, .int a, .int b]= .ok (.bl (UC a b t)):=by
 cases t with
 | tup xs=>
  show zn ((if decide ((a:Int)<=(xs.length:Int))=true then R.ok (T.bl (decide ((xs.length:Int)<=(b:Int)))) else .ok (.bl false)).s fun t=> .rt t)=_
  have e1:decide ((a:Int)<=(xs.length:Int))=decide (a<=xs.length):=by simp
  have e2:decide ((xs.length:Int)<=(b:Int))=decide (xs.length<=b):=by simp
  rw [e1,e2]
  show _=R.ok (T.bl (decide (a<=xs.length) && decide (xs.length<=b)))
  cases decide (a<=xs.length) <;> rfl
 | _=>rfl
def Je (lo hi:Int):T->T->Bool
 | .int i, .int j=>decide (lo<=i) && decide (i<=j) && decide (j<=hi)
 | _,_=>false
theorem yY (t u:T) (lo hi:Int):kM [t,u, .int lo, .int hi]= .ok (.bl (Je lo hi t u)):=by
 cases t with
 | int i=>
  cases u with
  | int j=>
   show zn ((if decide (lo<=i)=true then (if decide (i<=j)=true then R.ok (T.bl (decide (j<=hi))) else .ok (.bl false)) else .ok (.bl false)).s fun t=> .rt t)=_
   show _=R.ok (T.bl (decide (lo<=i) && decide (i<=j) && decide (j<=hi)))
   cases decide (lo<=i) <;> cases decide (i<=j) <;> rfl
  | _=>rfl
 | _=>cases u <;> rfl
def Zh (c:Nat):Bool:=decide (97<=c) && decide (c<=122)
def Zm:T->Bool
 | .str x=>decide (1<=x.length) && decide (x.length<=3) && x.cps.toList.all Zh
 | _=>false
theorem QE (a b:Nat):decide ([a] < [b])=decide (a < b):=by
 by_cases h:a < b
 ·rw [decide_eq_true h]; exact decide_eq_true (List.Lex.rel h)
 ·rw [decide_eq_false h]
  refine decide_eq_false fun z=> ?_
  cases z with
  | rel h' =>exact h h'
  | cons h' =>cases h'
theorem Vs (c:Nat) (ρ:En):chE leC leC (cE (.str "a")) (vB 0) (cE (.str "z")) ((Sl.vl (.str ⟨#[c]⟩)) :: ρ)= .ok (.bl (Zh c)):=by
 have e1:leC (.str "a") (.str ⟨#[c]⟩)= .ok (decide (97<=c)):=by
  show R.ok (!decide ([c] < [97]))=_
  rw [QE]
  by_cases h:c < 97
  ·rw [decide_eq_true h,decide_eq_false (by omega)]; rfl
  ·rw [decide_eq_false h,decide_eq_true (by omega)]; rfl
 have e2:leC (.str ⟨#[c]⟩) (.str "z")= .ok (decide (c<=122)):=by
  show R.ok (!decide ([122] < [c]))=_
  rw [QE]
  by_cases h:122 < c
  ·rw [decide_eq_true h,decide_eq_false (by omega)]; rfl
  ·rw [decide_eq_false h,decide_eq_true (by omega)]; rfl
 show (leC (.str "a") (.str ⟨#[c]⟩)).bind (fun k=>if k=true then (leC (.str ⟨#[c]⟩) (.str "z")).bind fun k' =>R.ok (T.bl k') else R.ok (T.bl false))=_
 rw [e1,e2]
 unfold Zh
 show (if decide (97<=c)=true then R.ok (T.bl (decide (c<=122))) else .ok (.bl false))=_
 cases decide (97<=c) <;> rfl
def Vt:T->Prop
 | .str x=>x.length<=bnd
 | _=>True
theorem yZ (t:T) (ht:Vt t):f_o [t]= .ok (.bl (Zm t)):=by
 cases t with
 | str x=>
  have hx:x.length<=bnd:=ht
  have e0:ZO (.str x)= .ok (.int x.length):=if_pos hx
  have ec:zS (zG 0) Z2 (chE leC leC (cE (.str "a")) (vB 0) (cE (.str "z"))) 1 [] [.vl (.str x)] (ZP x)= .ok (x.cps.toList.map fun c=>T.bl (Zh c)):=by
   have hs:(ZP x).length<=bnd:=by unfold ZP; rw [List.length_map,Array.length_toList]; exact hx
   have:=Zp (fe:=chE leC leC (cE (.str "a")) (vB 0) (cE (.str "z"))) (h:=fun t=>match t with | .str y=>T.bl (Zh (y.cps.toList.headD 0)) | t=>t) (k:=1) (js:=[]) (ρ:=[.vl (.str x)]) (ZP x) hs fun t ht=>by
    unfold ZP at ht
    obtain ⟨c,_,rfl⟩:=List.mem_map.mp ht
    exact Vs c []
   rw [this]
   unfold ZP
   rw [List.map_map]
   rfl
  have ea:WT (x.cps.toList.map fun c=>T.bl (Zh c))=some (x.cps.toList.all Zh):=by
   have:=Js (fun t=>match t with | .str y=>Zh (y.cps.toList.headD 0) | _=>true) (ZP x)
   unfold ZP at this
   rw [List.map_map,List.all_map] at this
   exact this
  have e1:f_o [.str x]=zn (match ((((ZO (.str x)).bind fun y=>(leC (.int 1) y).bind fun k=>if k=true then leC y (.int 3) else .ok false).bind fun b=> .ok (!b)).s fun k=>if k=true then RS.rt (.bl false) else .nx [.vl (.str x)]) with
    | .nx ρ' =>zI (ap1 qy (zY (j6 (vE 0)) (zG 0) (Z2) (chE leC leC (cE (.str "a")) (vB 0) (cE (.str "z"))) 1 [])) ρ'
    | r=>r):=rfl
  rw [e1,e0]
  have c1:decide ((1:Int)<=(x.length:Int))=decide (1<=x.length):=by
   by_cases h:1<=x.length
   ·rw [decide_eq_true h]; exact decide_eq_true (by omega)
   ·rw [decide_eq_false h]; exact decide_eq_false (by omega)
  have c2:decide ((x.length:Int)<=(3:Int))=decide (x.length<=3):=by
   by_cases h:x.length<=3
   ·rw [decide_eq_true h]; exact decide_eq_true (by omega)
   ·rw [decide_eq_false h]; exact decide_eq_false (by omega)
  show zn (match ((((if decide ((1:Int)<=(x.length:Int))=true then R.ok (decide ((x.length:Int)<=(3:Int))) else .ok false)).bind fun b=> .ok (!b)).s fun k=>if k=true then RS.rt (.bl false) else .nx [.vl (.str x)]) with
    | .nx ρ' =>_
    | r=>r)=_
  rw [c1,c2]
  show _=R.ok (T.bl (decide (1<=x.length) && decide (x.length<=3) && x.cps.toList.all Zh))
  cases decide (1<=x.length) with
  | false=>rfl
  | true=>
   cases decide (x.length<=3) with
   | false=>rfl
   | true=>
    show zn ((((zS (zG 0) Z2 (chE leC leC (cE (.str "a")) (vB 0) (cE (.str "z"))) 1 [] [.vl (.str x)] (ZP x)).bind fun vs=> .ok (.lst vs)).bind qy).s fun t=> .rt t)=_
    rw [ec]
    show zn ((match WT (x.cps.toList.map fun c=>T.bl (Zh c)) with | some k=>R.ok (T.bl k) | none=> .bad).s fun t=> .rt t)=_
    rw [ea]
    rfl
 | _=>rfl
theorem bOk {α β:Type} (a:α) (f:α->R β):(R.ok a).bind f=f a:=rfl
theorem ZL {α:Type} (a:α) (f:α->RS):(R.ok a).s f=f a:=rfl
theorem Jf (r:R T):zn (r.s fun t=> .rt t)=r:=by cases r <;> rfl
theorem Zv (f:En->R T) (ρ:En):zI f ρ=(f (frz ρ)).s fun t=> .rt t:=rfl
theorem zL {g:List T->R T} {f:En->R T} {ρ:En}:zc 1 g (z9 f zj) ρ=(f ρ).bind fun x=>g [x]:=by
 unfold zc z9 zj
 cases f ρ <;> rfl
theorem Zq {g:List T->R T} {f f' :En->R T} {ρ:En}:zc 2 g (z9 f (z9 f' zj)) ρ=(f ρ).bind fun x=>(f' ρ).bind fun y=>g [x,y]:=by
 unfold zc z9 zj
 cases f ρ with
 | ok a=>cases f' ρ <;> rfl
 | ex c=>rfl
 | bad=>rfl
theorem Zz {g:List T->R T} {f f' f'' :En->R T} {ρ:En}:zc 3 g (z9 f (z9 f' (z9 f'' zj))) ρ=(f ρ).bind fun x=>(f' ρ).bind fun y=>(f'' ρ).bind fun z=>g [x,y,z]:=by
 unfold zc z9 zj
 cases f ρ with
 | ok a=>
  cases f' ρ with
  | ok b=>cases f'' ρ <;> rfl
  | ex c=>rfl
  | bad=>rfl
 | ex c=>rfl
 | bad=>rfl
theorem gi {g:List T->R T} {f f' f'' f3:En->R T} {ρ:En}:zc 4 g (z9 f (z9 f' (z9 f'' (z9 f3 zj)))) ρ=(f ρ).bind fun x=>(f' ρ).bind fun y=>(f'' ρ).bind fun z=>(f3 ρ).bind fun w=>g [x,y,z,w]:=by
 unfold zc z9 zj
 cases f ρ with
 | ok a=>
  cases f' ρ with
  | ok b=>
   cases f'' ρ with
   | ok c=>cases f3 ρ <;> rfl
   | ex c=>rfl
   | bad=>rfl
  | ex c=>rfl
  | bad=>rfl
 | ex c=>rfl
 | bad=>rfl
def K0 (r k:R T):R T:=r.bind fun x=>match x with
 | .bl true=>k
 | .bl false=> .ok (.bl false)
 | _=> .bad
theorem wt (f g:En->R T) (ρ:En):J7 f g ρ=K0 (f ρ) (g ρ):=rfl
theorem ZJ (a:Bool) (k:R T):K0 (.ok (.bl a)) k=if a=true then k else .ok (.bl false):=by cases a <;> rfl
theorem v0 {t:T} {ρ:En}:vE 0 (.vl t :: ρ)= .ok t:=rfl
theorem v1 {t:T} {a:Sl} {ρ:En}:vE 1 (a :: .vl t :: ρ)= .ok t:=rfl
theorem w0 {t:T} {ρ:En}:vB 0 (.vl t :: ρ)= .ok t:=rfl
theorem w1 {t:T} {a:Sl} {ρ:En}:vB 1 (a :: .vl t :: ρ)= .ok t:=rfl
theorem Z7 {t:T} {ρ:En}:cE t ρ= .ok t:=rfl
theorem zp {g:T->T->R T} {f f' :En->R T} {ρ:En}:zf g f f' ρ=(f ρ).bind fun x=>(f' ρ).bind fun y=>g x y:=rfl
theorem jw {t:T} {ρ:En}:frz (.vl t :: ρ)= .vl t :: frz ρ:=rfl
theorem wa {ρ:En}:frz (.un :: ρ)= .un :: frz ρ:=rfl
theorem jH:frz []=[]:=rfl
theorem qW {g g' :T->T->R Bool} {fa fb fc:En->R T} {ρ:En}:chE g g' fa fb fc ρ=(fa ρ).bind fun x=>(fb ρ).bind fun y=>(g x y).bind fun k=>if k=true then (fc ρ).bind fun z=>(g' y z).bind fun k' => .ok (.bl k') else .ok (.bl false):=rfl
theorem j7 {g:T->R T} {f:En->R T} {ρ:En}:ap1 g f ρ=(f ρ).bind g:=rfl
theorem ua {i j:Int}:leC (.int i) (.int j)= .ok (decide (i<=j)):=rfl
theorem jP {g:T->T->R Bool} {f f' :En->R T} {ρ:En}:jh g f f' ρ=(f ρ).bind fun x=>(f' ρ).bind fun y=>(g x y).bind fun b=> .ok (.bl b):=rfl
theorem ub {xs:List T}:ZO (.tup xs)= .ok (.int xs.length):=rfl
theorem Xv {xs:List T}:ZO (.lst xs)= .ok (.int xs.length):=rfl
mutual
def sOk:T->Prop
 | .str x=>x.length<=bnd
 | .tup xs=>WU xs
 | .lst xs=>WU xs
 | .fz xs=>WU xs
 | _=>True
def WU:List T->Prop
 | []=>True
 | t :: ts=>sOk t/\WU ts
end
theorem jY:∀ {ts:List T} {t:T},WU ts->t∈ts->sOk t
 | u :: ts,t,h,hm=>by
  have h' :sOk u/\WU ts:=by simpa only [WU] using h
  rcases List.mem_cons.mp hm with rfl | hm
  ·exact h'.1
  ·exact jY h'.2 hm
theorem sOk.str {t:T} (h:sOk t):Vt t:=by
 cases t with
 | str x=>
  have h' :x.length<=bnd:=by simpa only [sOk] using h
  exact h'
 | _=>trivial
theorem wP {xs:List T} (h:sOk (.tup xs)):WU xs:=by simpa only [sOk] using h
def zQ:T->Bool
 | .tup [w, .int i]=>Zm w && decide (1<=i) && decide (i<=20)
 | _=>false
theorem Y0 (t:T) (ht:sOk t):Vq [t]= .ok (.bl (zQ t)):=by
 have e:Vq [t]=zn (kN f_d f_j f_o [.vl t]):=rfl
 rw [e,kN]
 simp only [Zv,Jf,jw,jH,wt,Zz,zL,v0,Z7,bOk,zp,qW]
 rw [show f_j [t, .int 2, .int 2]= .ok (.bl (UC 2 2 t)) from jO t 2 2,ZJ]
 cases t with
 | tup xs=>
  match xs,ht with
  | [],_=>rfl
  | [_],_=>rfl
  | _ :: _ :: _ :: _,_=>simp [UC,zQ]
  | [w,n],ht=>
   have hw:sOk w:=jY (wP ht) (by simp)
   show (if true=true then K0 (f_o [w]) (K0 (f_d [n]) ((leC (.int 1) n).bind fun k=>if k=true then (leC n (.int 20)).bind fun k' =>R.ok (T.bl k') else .ok (.bl false))) else _)=_
   rw [if_pos rfl,yZ w hw.str,wO,ZJ,ZJ]
   cases n with
   | int i=>
    show (if Zm w=true then (if true=true then (if decide (1<=i)=true then R.ok (T.bl (decide (i<=20))) else .ok (.bl false)) else _) else _)=R.ok (T.bl (Zm w && decide (1<=i) && decide (i<=20)))
    cases Zm w <;> cases decide (1<=i) <;> rfl
   | _=>
    show (if Zm w=true then (if false=true then _ else R.ok (T.bl false)) else R.ok (T.bl false))=R.ok (T.bl false)
    cases Zm w <;> rfl
 | _=>rfl
theorem Zd (f g:En->RS) (ρ:En):zx f g ρ=match f ρ with | .nx ρ' =>g ρ' | r=>r:=rfl
theorem jc (g:En->R Bool) (f1 f2:En->RS) (ρ:En):ifS g f1 f2 ρ=(g ρ).s fun k=>if k=true then f1 ρ else f2 ρ:=rfl
theorem wQ (f g:En->R Bool) (ρ:En):orT f g ρ=(f ρ).bind fun x=>if x=true then .ok true else g ρ:=rfl
theorem jZ (f:En->R Bool) (ρ:En):wl f ρ=(f ρ).bind fun x=> .ok (!x):=rfl
theorem ZW (f:En->R T) (ρ:En):jC f ρ=(f ρ).bind tru:=rfl
theorem jf (k:Bool):tru (.bl k)= .ok k:=rfl
theorem Jg (i:Nat) (f:En->R T) (ρ:En):zT i f ρ=(f ρ).s fun t=> .nx (ρ.set i (.vl t)):=rfl
theorem Z6 {g:T->T->R Bool} {f f' :En->R T} {ρ:En}:zB g f f' ρ=(f ρ).bind fun x=>(f' ρ).bind fun y=>g x y:=rfl
theorem Zi {fi:En->R (List T)} {g:T->En->R En} {ft:En->R Bool} {fe:En->R T} {k:Nat} {js:List Nat} {ρ:En}:zY fi g ft fe k js ρ=(fi ρ).bind fun ts=>(zS g ft fe k js ρ ts).bind fun vs=> .ok (.lst vs):=rfl
theorem jx {f:En->R T} {ρ:En}:j6 f ρ=(f ρ).bind jX:=rfl
def Zn:T->Str
 | .tup (.str w :: _)=>w
 | _=>⟨#[]⟩
def uR:T->Bool
 | .tup cs=>decide (1<=cs.length) && decide (cs.length<=4) && cs.all zQ && decide ((dd [] (cs.map Zn)).length=cs.length)
 | _=>false
theorem Wy {c:T} (h:zQ c=true):∃ w n,c= .tup [.str w,n]:=by
 unfold zQ at h
 split at h
 ·rename_i w i
  cases w with
  | str x=>exact ⟨x,_,rfl⟩
  | _=>cases h
 ·cases h
theorem wu:∀ {cs:List T},cs.all zQ=true->u6 (cs.map fun c=>T.str (Zn c))=some (cs.map Zn)
 | [],_=>rfl
 | c :: cs,h=>by
  rw [List.all_cons,Bool.and_eq_true] at h
  have ih:=wu h.2
  show (match u6 (cs.map fun c=>T.str (Zn c)) with | some ys=>some (Zn c :: ys) | none=>none)=_
  rw [ih]; rfl
theorem UD (t:T) (ht:sOk t):f_w [t]= .ok (.bl (uR t)):=by
 have e:f_w [t]=zn (b_w f_j Vq [.vl t, .un]):=rfl
 rw [e,b_w]
 simp only [Zd,jc,wQ,jZ,ZW,Zz,v0,Z7,bOk]
 rw [show f_j [t, .int 1, .int 4]= .ok (.bl (UC 1 4 t)) from jO t 1 4]
 simp only [bOk,jf]
 cases t with
 | tup cs=>
  have hl:UC 1 4 (.tup cs)=(decide (1<=cs.length) && decide (cs.length<=4)):=rfl
  rw [hl]
  show _=R.ok (T.bl (decide (1<=cs.length) && decide (cs.length<=4) && cs.all zQ && decide ((dd [] (cs.map Zn)).length=cs.length)))
  cases h14:(decide (1<=cs.length) && decide (cs.length<=4)) with
  | false=>rfl
  | true=>
   rw [Bool.and_eq_true,decide_eq_true_eq,decide_eq_true_eq] at h14
   have hb:cs.length<=bnd:=Nat.le_trans h14.2 (by decide)
   have ec:zS (zG 0) Z2 (zc 1 Vq (z9 (vE 0) zj)) 1 [] [.vl (.tup cs), .un] cs= .ok (cs.map fun c=>T.bl (zQ c)):=
    Zp (h:=fun c=>T.bl (zQ c)) cs hb fun c hc=>by
     show zc 1 Vq (z9 (vE 0) zj) [.vl c]=_
     rw [zL,v0,bOk]
     exact Y0 c (jY (wP ht) hc)
   simp only [Bool.not_true,Bool.false_eq_true,if_false,j7,Zi,jx,v0,bOk,jX,ec]
   have ea:qy (.lst (cs.map fun c=>T.bl (zQ c)))= .ok (.bl (cs.all zQ)):=by
    show (match WT (cs.map fun c=>T.bl (zQ c)) with | some k=>R.ok (T.bl k) | none=> .bad)=_
    rw [Js]
   rw [ea]
   simp only [bOk,jf,ZL]
   cases hall:cs.all zQ with
   | false=>rfl
   | true=>
    have ew:zS (zG 0) Z2 (zf ixT (vE 0) (cE (.int 0))) 1 [] [.vl (.tup cs), .un] cs= .ok (cs.map fun c=>T.str (Zn c)):=
     Zp (h:=fun c=>T.str (Zn c)) cs hb fun c hc=>by
      obtain ⟨w,n,rfl⟩:=Wy (List.all_eq_true.mp hall c hc)
      rfl
    simp only [Bool.not_true,Bool.false_eq_true,if_false,nxS,Jg,Zi,jx,v0,bOk,jX,ew,ZL,Zv]
    show zn (((qG (.lst (cs.map fun c=>T.str (Zn c)))).bind fun x=>(ZO (.lst (cs.map fun c=>T.str (Zn c)))).bind fun y=>(eqC x y).bind fun b=>R.ok (T.bl b)).s fun t=> .rt t)=_
    have el:qG (.lst (cs.map fun c=>T.str (Zn c)))= .ok (.int (dd [] (cs.map Zn)).length):=by
     show (match u6 (cs.map fun c=>T.str (Zn c)) with | some ys=>if (cs.map fun c=>T.str (Zn c)).length+1 < 4096 then R.ok (T.int (dd [] ys).length) else .bad | none=> .bad)=_
     rw [wu hall]
     exact if_pos (by rw [List.length_map]; omega)
    rw [el,Xv,List.length_map,Jf]
    show R.ok (T.bl (((dd [] (cs.map Zn)).length:Int) == (cs.length:Int)))=_
    congr 2
    by_cases hq:(dd [] (cs.map Zn)).length=cs.length
    ·rw [decide_eq_true hq,hq]; simp
    ·rw [decide_eq_false hq]
     simp only [Bool.true_and,beq_eq_false_iff_ne]
     omega
 | _=>rfl
def isS (w:Str):T->Bool
 | .str s=>s == w
 | _=>false
theorem eqS (h:T) (w:Str):eqC h (.str w)= .ok (isS w h):=by cases h <;> rfl
theorem eqI (i j:Int):eqC (.int i) (.int j)= .ok (i == j):=rfl
theorem at0 {h:T} {r:List T}:ixT (.tup (h :: r)) (.int 0)= .ok h:=by
 show atT (h :: r) 0=_
 unfold atT
 rw [show atI (h :: r) 0=some h from jM (j:=0) rfl]
theorem at1 {h a:T} {r:List T}:ixT (.tup (h :: a :: r)) (.int 1)= .ok a:=by
 show atT (h :: a :: r) 1=_
 unfold atT
 rw [show atI (h :: a :: r) 1=some a from jM (j:=1) rfl]
theorem at2 {h a b:T} {r:List T}:ixT (.tup (h :: a :: b :: r)) (.int 2)= .ok b:=by
 show atT (h :: a :: b :: r) 2=_
 unfold atT
 rw [show atI (h :: a :: b :: r) 2=some b from jM (j:=2) rfl]
theorem at3 {h a b c:T} {r:List T}:ixT (.tup (h :: a :: b :: c :: r)) (.int 3)= .ok c:=by
 show atT (h :: a :: b :: c :: r) 3=_
 unfold atT
 rw [show atI (h :: a :: b :: c :: r) 3=some c from jM (j:=3) rfl]
def JN (k:T->Bool):T->Bool
 | .tup ks=>decide (1<=ks.length) && decide (ks.length<=3) && ks.all k
 | _=>false
def Wz:List T->Bool
 | [a,b]=>Je (-20) 20 a b
 | _=>false
def Y1:List T->Bool
 | [c]=>uR c
 | _=>false
def Xw (k:T->Bool):List T->Bool
 | [c]=>JN k c
 | _=>false
def Y2 (k:T->Bool):List T->Bool
 | [c,a,b]=>Je 0 3 a b && k c
 | _=>false
def UE (k:T->Bool):T->Bool
 | .tup (h :: r)=>if isS "whole" h=true then Wz r else if isS "pick" h=true then Y1 r else if isS "row" h=true then Xw k r else if isS "many" h=true then Y2 k r else false
 | _=>false
def isK:Nat->T->Bool
 | 0,_=>false
 | d+1,t=>UE (isK d) t
theorem Y3 {α:Type} (xs:List α) (n:Nat):((xs.length:Int) == (n:Int))=decide (xs.length=n):=by
 by_cases h:xs.length=n
 ·rw [decide_eq_true h,h]; simp
 ·rw [decide_eq_false h,beq_eq_false_iff_ne]; omega
theorem QF {f:En->R T} {ρ:En}:uy f ρ=(f ρ).bind fun x=>match x with | .int i=> .ok (.int (-i)) | _=> .bad:=rfl
theorem ZD {i j:Int}:jG (.int i) (.int j)= .ok (.int (i - j)):=rfl
set_option maxHeartbeats 1000000 in
theorem Vu {n:Nat} {d:Nat} {k:T->Bool} (H0:∀ t,sOk t->S_a n 0 [t, .int d]= .ok (.bl (k t))) (H1:∀ t,sOk t->S_a n 1 [t, .int d]= .ok (.bl (JN k t))) (t:T) (ht:sOk t):
  S_a (n+1) 0 [t, .int ((d+1:Nat):Int)]= .ok (.bl (UE k t)):=by
 have e:S_a (n+1) 0 [t, .int ((d+1:Nat):Int)]=zn (b_a kM (S_a n 0) f_w (S_a n 1) [.vl t, .vl (.int ((d+1:Nat):Int))]):=rfl
 have hL:(((d+1:Nat):Int) == 0)=false:=by rw [beq_eq_false_iff_ne]; omega
 have hL1:((d+1:Nat):Int) - 1=(d:Int):=by omega
 rw [e,b_a]
 simp only [Zd,jc,wQ,jZ,ZW,Z6,w0,w1,Z7,bOk,eqI,hL,Bool.false_eq_true,if_false,j7]
 cases t with
 | tup xs=>
  cases xs with
  | nil=>rfl
  | cons h r=>
   have hs:=wP ht
   have hm:∀ u∈r,sOk u:=fun u hu=>jY hs (List.mem_cons_of_mem _ hu)
   have z0:(((h :: r).length:Int) == 0)=false:=by rw [beq_eq_false_iff_ne]; simp only [List.length_cons]; omega
   have ti:uE "tuple" (.tup (h :: r))= .ok (.bl true):=rfl
   simp only [ti,bOk,jf,Bool.not_true,Bool.false_eq_true,if_false,ub,eqI,z0,ZL,nxS,zp,v0,v1,Z7,at0,eqS,Zv,jw,jH,wt,jP,j7,w0,gi,zL,Zq,QF,ZD,hL1]
   show _=R.ok (T.bl (if isS "whole" h=true then Wz r else if isS "pick" h=true then Y1 r else if isS "row" h=true then Xw k r else if isS "many" h=true then Y2 k r else false))
   have l3:(((h :: r).length:Int) == 3)=decide ((h :: r).length=3):=Y3 (h :: r) 3
   have l2:(((h :: r).length:Int) == 2)=decide ((h :: r).length=2):=Y3 (h :: r) 2
   have l4:(((h :: r).length:Int) == 4)=decide ((h :: r).length=4):=Y3 (h :: r) 4
   simp only [l2,l3,l4,ZJ]
   cases isS "whole" h with
   | true=>
    simp only [if_true]
    match r,hm with
    | [],_=>rfl
    | [_],_=>rfl
    | _ :: _ :: _ :: _,_=>simp [Wz,ZL,zn]
    | [a,b],_=>
     simp only [at1,at2,bOk,yY]
     rfl
   | false=>
    simp only [Bool.false_eq_true,if_false,v0,v1,w0,bOk,at0,ZL,jw,jH,ub,eqI,l2,l4,ZJ,ZD,hL1]
    cases isS "pick" h with
    | true=>
     simp only [if_true]
     match r,hm with
     | [],_=>rfl
     | _ :: _ :: _,_=>simp [Y1,ZL,zn]
     | [c],hm=>
      simp only [at1,bOk,UD c (hm c (by simp))]
      rfl
    | false=>
     simp only [Bool.false_eq_true,if_false,v0,v1,w0,bOk,at0,ZL,jw,jH,ub,eqI,l2,l4,ZJ,ZD,hL1]
     cases isS "row" h with
     | true=>
      simp only [if_true]
      match r,hm with
      | [],_=>rfl
      | _ :: _ :: _,_=>simp [Xw,ZL,zn]
      | [c],hm=>
       simp only [at1,bOk,H1 c (hm c (by simp))]
       rfl
     | false=>
      simp only [Bool.false_eq_true,if_false,v0,v1,w0,bOk,at0,ZL,jw,jH,ub,eqI,l2,l4,ZJ,ZD,hL1]
      cases isS "many" h with
      | true=>
       simp only [if_true]
       match r,hm with
       | [],_=>rfl
       | [_],_=>rfl
       | [_,_],_=>rfl
       | _ :: _ :: _ :: _ :: _,_=>simp [Y2,ZL,zn]
       | [c,a,b],hm=>
        simp only [at1,at2,at3,bOk,yY,H0 c (hm c (by simp)),ZJ]
        show zn (match (if Je 0 3 a b=true then R.ok (T.bl (k c)) else .ok (.bl false)).s (fun t=>RS.rt t) with | .nx _=>RS.rt (T.bl false) | r=>r)=R.ok (T.bl (Je 0 3 a b && k c))
        cases Je 0 3 a b <;> rfl
      | false=>rfl
 | _=>rfl
theorem Xx {n:Nat} {d:Nat} {k:T->Bool} (H0:∀ t,sOk t->S_a n 0 [t, .int d]= .ok (.bl (k t))) (t:T) (ht:sOk t):S_a (n+1) 1 [t, .int d]= .ok (.bl (JN k t)):=by
 have e:S_a (n+1) 1 [t, .int d]=zn (kO f_j (S_a n 0) [.vl t, .vl (.int d)]):=rfl
 rw [e,kO]
 simp only [Zv,Jf,jw,jH,wt,Zz,v0,Z7,bOk]
 rw [show f_j [t, .int 1, .int 3]= .ok (.bl (UC 1 3 t)) from jO t 1 3,ZJ]
 cases t with
 | tup ks=>
  show (if (decide (1<=ks.length) && decide (ks.length<=3))=true then _ else _)=R.ok (T.bl (decide (1<=ks.length) && decide (ks.length<=3) && ks.all k))
  cases h13:(decide (1<=ks.length) && decide (ks.length<=3)) with
  | false=>rfl
  | true=>
   rw [Bool.and_eq_true,decide_eq_true_eq,decide_eq_true_eq] at h13
   have hb:ks.length<=bnd:=Nat.le_trans h13.2 (by decide)
   have ec:zS (zG 0) Z2 (zc 2 (S_a n 0) (z9 (vE 0) (z9 (vE 1) zj))) 1 [1] [.vl (.tup ks), .vl (.int d)] ks= .ok (ks.map fun c=>T.bl (k c)):=
    Zp (h:=fun c=>T.bl (k c)) ks hb fun c hc=>by
     show zc 2 (S_a n 0) (z9 (vE 0) (z9 (vE 1) zj)) [.vl c, .vl (.int d)]=_
     rw [Zq,v0,v1,bOk,bOk]
     exact H0 c (jY (wP ht) hc)
   simp only [if_true,j7,Zi,jx,v0,bOk,jX,ec]
   show (match WT (ks.map fun c=>T.bl (k c)) with | some k=>R.ok (T.bl k) | none=> .bad)=_
   rw [Js]
   rfl
 | _=>rfl
theorem uc:∀ (d n:Nat),2*d+1<=n->∀ t,sOk t->S_a n 0 [t, .int d]= .ok (.bl (isK d t))
 | 0,n+1,_,t,_=>rfl
 | d+1,n+2,h,t,ht=>Vu (n:=n+1) (fun u hu=>uc d (n+1) (by omega) u hu) (fun u hu=>Xx (fun v hv=>uc d n (by omega) v hv) u hu) t ht
theorem UF (t:T) (ht:sOk t):f_4 [t]= .ok (.bl (isK 3 t)):=by
 have e:f_4 [t]=zn (b_4 (f_a 20) [.vl t]):=rfl
 rw [e,b_4]
 simp only [Zv,Jf,jw,jH,Zq,v0,Z7,bOk]
 exact uc 3 20 (by omega) t ht
def inR (lo hi:Int):T->Bool
 | .int i=>decide (lo<=i) && decide (i<=hi)
 | _=>false
theorem WA:∀ (ws acc:List Str),(dd acc ws).length<=acc.length+ws.length
 | [],acc=>Nat.le_refl _
 | w :: ws,acc=>by
  unfold dd
  have:=WA ws (if w∈acc then acc else acc++[w])
  by_cases h:w∈acc
  ·rw [if_pos h] at this ⊢; simp only [List.length_cons]; omega
  ·rw [if_neg h] at this ⊢; rw [List.length_append,List.length_singleton] at this; simp only [List.length_cons]; omega
theorem wR:∀ (ws acc:List Str),((dd acc ws).length=acc.length+ws.length)↔∀ (k:Nat) (w:Str),ws[k]? =some w->w ∉ acc++ws.take k
 | [],acc=>by simp [dd]
 | w :: ws,acc=>by
  unfold dd
  by_cases h:w∈acc
  ·rw [if_pos h]
   have:=WA ws acc
   constructor
   ·intro e; simp only [List.length_cons] at e; omega
   ·intro H; exact absurd (List.mem_append_left _ h) (H 0 w rfl)
  ·rw [if_neg h]
   have ih:=wR ws (acc++[w])
   rw [List.length_append,List.length_singleton] at ih
   rw [show acc.length+(w :: ws).length=acc.length+1+ws.length by simp only [List.length_cons]; omega,ih]
   constructor
   ·intro H k v e
    cases k with
    | zero=>simp at e; subst e; simpa using h
    | succ k=>
     have:=H k v (by simpa using e)
     simpa [List.append_assoc] using this
   ·intro H k v e
    have:=H (k+1) v (by simpa using e)
    simpa [List.append_assoc] using this
theorem ltI (i j:Int):ltC (.int i) (.int j)= .ok (decide (i < j)):=rfl
theorem v2 {t:T} {a b:Sl} {ρ:En}:vE 2 (a :: b :: .vl t :: ρ)= .ok t:=rfl
theorem v3 {t:T} {a b c:Sl} {ρ:En}:vE 3 (a :: b :: c :: .vl t :: ρ)= .ok t:=rfl
theorem w2 {t:T} {a b:Sl} {ρ:En}:vB 2 (a :: b :: .vl t :: ρ)= .ok t:=rfl
theorem w3 {t:T} {a b c:Sl} {ρ:En}:vB 3 (a :: b :: c :: .vl t :: ρ)= .ok t:=rfl
theorem w5 {t:T} {a b c d e:Sl} {ρ:En}:vB 5 (a :: b :: c :: d :: e :: .vl t :: ρ)= .ok t:=rfl
theorem v4 {t:T} {a b c d:Sl} {ρ:En}:vE 4 (a :: b :: c :: d :: .vl t :: ρ)= .ok t:=rfl
theorem wS (f g:En->R Bool) (ρ:En):US f g ρ=(f ρ).bind fun x=>if x=true then g ρ else .ok false:=rfl
theorem Y4 (t:T):uE "tuple" t= .ok (.bl (match t with | .tup _=>true | _=>false)):=by cases t <;> rfl
theorem uS (w:Str):∀ ws:List Str,W5 (fun y=>eqF 30 y (.str w)) (ws.map T.str)=some (decide (w∈ws))
 | []=>rfl
 | x :: ws=>by
  have ih:=uS w ws
  show (match W5 (fun y=>eqF 30 y (.str w)) (ws.map T.str) with | none=>none | some c=>some ((x == w) || c))=_
  rw [ih]
  show some ((x == w) || decide (w∈ws))=_
  congr 1
  by_cases h:x=w
  ·subst h; simp
  ·have h' :¬ w=x:=fun z=>h z.symm
   simp [h,h']
theorem gtI (i j:Int):gtC (.int i) (.int j)= .ok (decide (i > j)):=rfl
theorem Zj (i j:Int):zw (.int i) (.int j)= .ok (.int (i+j)):=rfl
theorem Xy (p:Int) (h0:0<=p) (h1:p < 26):ixT (.str "abcdefghijklmnopqrstuvwxyz") (.int p)= .ok (.str ⟨#[97+p.toNat]⟩):=by
 have h:p=0\/p=1\/p=2\/p=3\/p=4\/p=5\/p=6\/p=7\/p=8\/p=9\/p=10\/p=11\/p=12\/p=13\/p=14\/p=15\/p=16\/p=17\/p=18\/p=19\/p=20\/p=21\/p=22\/p=23\/p=24\/p=25:=by omega
 rcases h with rfl|rfl|rfl|rfl|rfl|rfl|rfl|rfl|rfl|rfl|rfl|rfl|rfl|rfl|rfl|rfl|rfl|rfl|rfl|rfl|rfl|rfl|rfl|rfl|rfl|rfl <;> rfl
abbrev K1:En->R T:=zf ixT (vE 3) (zc 3 f_2 (z9 (vE 1) (z9 (zf zw (zf zw (vE 2) (cE (.int 2))) (vE 0)) (z9 (cE (.int 26)) (zj)))))
theorem Xz (ns:List Int) (k:Int) (h0:0<=k) (j:Nat):∃ c:Nat,(97<=c/\c<=122)/\K1 [.vl (.int (j:Int)), .vl (scr ns), .vl (.int k), .vl (.str "abcdefghijklmnopqrstuvwxyz")]= .ok (.str ⟨#[c]⟩):=by
 obtain ⟨p,e,p0,p1⟩:=zU ns (k+2+j) 26 (by omega) (by omega)
 refine ⟨97+p.toNat,⟨by omega,by omega⟩, ?_⟩
 simp only [K1,zp,v3,bOk,Zz,v1,v2,v0,Z7,Zj,e]
 exact Xy p p0 p1
theorem UG (ns:List Int) (k:Int) (h0:0<=k):∃ w:Str,f_x [scr ns, .int k]= .ok (.str w)/\Zm (.str w)=true:=by
 have e:f_x [scr ns, .int k]=zn (b_x f_2 [.vl (scr ns), .vl (.int k), .un]):=rfl
 obtain ⟨p,e0,p0,p1⟩:=zU ns k 6 h0 (by omega)
 have hset:∀ t,([Sl.vl (scr ns),Sl.vl (.int k), .un]:En).set 2 (.vl t)=[Sl.vl (scr ns),Sl.vl (.int k), .vl t]:=fun _=>rfl
 rw [e,b_x]
 simp only [Zd,jc,Jg,Z7,ZL,hset,Z6,Zz,v0,v1,bOk,e0,gtI]
 cases hp:decide (p > 0) with
 | true=>
  obtain ⟨q,e1,q0,q1⟩:=zU ns (k+1) 4 (by omega) (by omega)
  simp only [if_true,Zv,jw,jH,zp,Zz,v0,v1,Z7,bOk,Zj,e1]
  have hq:q=0\/q=1\/q=2\/q=3:=by omega
  rcases hq with rfl | rfl | rfl | rfl
  ·exact ⟨"a",rfl,by decide⟩
  ·exact ⟨"b",rfl,by decide⟩
  ·exact ⟨"ab",rfl,by decide⟩
  ·exact ⟨"cab",rfl,by decide⟩
 | false=>
  obtain ⟨q,e1,q0,q1⟩:=zU ns (k+1) 3 (by omega) (by omega)
  simp only [Bool.false_eq_true,if_false,nxS,Zv,Jf,jw,jH,j7,Zi]
  obtain ⟨g,hg⟩:=Classical.skolem.mp (Xz ns k h0)
  have ei:ZY (zf zw (cE (.int 1)) (zc 3 f_2 (z9 (vE 0) (z9 (zf zw (vE 1) (cE (.int 1))) (z9 (cE (.int 3)) (zj)))))) [Sl.vl (scr ns),Sl.vl (.int k), .vl (.str "abcdefghijklmnopqrstuvwxyz")]= .ok (rng 0 (1+q).toNat):=by
   unfold ZY
   simp only [zp,Zz,v0,v1,Z7,bOk,Zj,e1]
   rw [if_pos ⟨by omega,by omega⟩]
  have ec:∀ n:Nat,n<=3->zS (zG 0) Z2 K1 1 [0,1,2] [Sl.vl (scr ns),Sl.vl (.int k), .vl (.str "abcdefghijklmnopqrstuvwxyz")] (rng 0 n)= .ok ((rng 0 n).map fun t=>match t with | .int j=> .str ⟨#[g j.toNat]⟩ | t=>t):=fun n hn=>
   Zp (rng 0 n) (by unfold rng; rw [List.length_map,List.length_range]; exact Nat.le_trans hn (by decide)) fun t ht=>by
    unfold rng at ht
    obtain ⟨j,_,rfl⟩:=List.mem_map.mp ht
    show K1 [.vl (.int (0+(j:Int))), .vl (scr ns), .vl (.int k), .vl (.str "abcdefghijklmnopqrstuvwxyz")]= .ok (.str ⟨#[g (0+(j:Int)).toNat]⟩)
    rw [Int.zero_add,Int.toNat_natCast]
    exact (hg j).2
  rw [ei,bOk,ec _ (by omega),bOk,bOk]
  have hw:∀ j,Zh (g j)=true:=fun j=>by
   obtain ⟨a,b⟩:=(hg j).1
   unfold Zh
   rw [decide_eq_true a,decide_eq_true b]; rfl
  have hq:q=0\/q=1\/q=2:=by omega
  rcases hq with rfl | rfl | rfl
  ·refine ⟨⟨#[g 0]⟩,rfl, ?_⟩
   show (Zh (g 0) && true)=true
   rw [hw 0]; rfl
  ·refine ⟨⟨#[g 0,g 1]⟩,rfl, ?_⟩
   show (Zh (g 0) && (Zh (g 1) && true))=true
   rw [hw 0,hw 1]; rfl
  ·refine ⟨⟨#[g 0,g 1,g 2]⟩,rfl, ?_⟩
   show (Zh (g 0) && (Zh (g 1) && (Zh (g 2) && true)))=true
   rw [hw 0,hw 1,hw 2]; rfl
theorem gj (j:Int):Z1 (.int 5) (.int j)= .ok (.int (5*j)):=by
 show (if W3 5 j then R.ok (T.int (5*j)) else .bad)=_
 rw [if_pos (.inl ⟨by decide,by decide⟩)]
theorem Y5 {f g:En->R T} {ρ:En} {x y:T} (hf:f ρ= .ok x) (hg:g ρ= .ok y):Zy (z9 f (z9 g zj)) ρ= .ok (.tup [x,y]):=by
 unfold Zy z9 zj
 rw [hf,hg]; rfl
theorem XA {f g h:En->R T} {ρ:En} {x y z:T} (hf:f ρ= .ok x) (hg:g ρ= .ok y) (hh:h ρ= .ok z):Zy (z9 f (z9 g (z9 h zj))) ρ= .ok (.tup [x,y,z]):=by
 unfold Zy z9 zj
 rw [hf,hg,hh]; rfl
theorem tup4 {f g h i:En->R T} {ρ:En} {x y z w:T} (hf:f ρ= .ok x) (hg:g ρ= .ok y) (hh:h ρ= .ok z) (hi:i ρ= .ok w):Zy (z9 f (z9 g (z9 h (z9 i zj)))) ρ= .ok (.tup [x,y,z,w]):=by
 unfold Zy z9 zj
 rw [hf,hg,hh,hi]; rfl
def Dst (ws:List Str):Prop:=∀ (k:Nat) (w:Str),ws[k]? =some w->w ∉ ws.take k
theorem Dst.add {ws:List Str} (h:Dst ws) {w:Str} (hw:w ∉ ws):Dst (ws++[w]):=fun k x hx=>by
 by_cases hk:k < ws.length
 ·rw [List.getElem?_append_left hk] at hx
  rw [List.take_append_of_le_length (by omega)]
  exact h k x hx
 ·rw [List.getElem?_append_right (by omega)] at hx
  have hk' :k=ws.length:=by
   rcases Nat.lt_or_ge (k - ws.length) 1 with z | z
   ·omega
   ·rw [List.getElem?_eq_none (by simpa using z)] at hx; cases hx
  subst hk'
  rw [Nat.sub_self] at hx
  cases hx
  rw [List.take_left']
  ·exact hw
  ·rfl
abbrev WB:En->RS:=zx (zT 5 (zc 2 f_x (z9 (vE 0) (z9 (zf zw (zf zw (vE 1) (cE (.int 5))) (zf Z1 (cE (.int 5)) (vE 4))) (zj)))))
  (ifS (zB qt (vB 5) (vB 3)) (uH 3 (vE 5)) (nxS))
theorem JO (ns:List Int) (k:Int) (h0:0<=k):∀ (js:List Nat) (ws:List Str) (x4 x5:Sl),js.length+ws.length<=4->Dst ws->(∀ w∈ws,Zm (.str w)=true)->
  ∃ ws' y4 y5,ZC (zG 4) WB (js.map fun (j:Nat)=>T.int (0+(j:Int))) [.vl (scr ns), .vl (.int k), .un, .ow (ws.map T.str),x4,x5]= .nx [.vl (scr ns), .vl (.int k), .un, .ow (ws'.map T.str),y4,y5]/\ws'.length<=4/\Dst ws' /\(∀ w∈ws',Zm (.str w)=true)/\(0 < js.length+ws.length->0 < ws'.length)
 | [],ws,x4,x5,hl,hd,hw=>⟨ws,x4,x5,rfl,by simpa using hl,hd,hw,fun h=>by simpa using h⟩
 | j :: js,ws,x4,x5,hl,hd,hw=>by
  obtain ⟨w,ew,hw'⟩:=UG ns (k+5+5*(0+(j:Int))) (by omega)
  have hl' :js.length+ws.length+1<=4:=by simpa [List.length_cons,Nat.add_right_comm] using hl
  have e:ZC (zG 4) WB ((j :: js).map fun (j:Nat)=>T.int (0+(j:Int))) [.vl (scr ns), .vl (.int k), .un, .ow (ws.map T.str),x4,x5]=match WB [.vl (scr ns), .vl (.int k), .un, .ow (ws.map T.str), .vl (.int (0+(j:Int))),x5] with
   | .nx ρ2=>ZC (zG 4) WB (js.map fun (j:Nat)=>T.int (0+(j:Int))) ρ2
   | .ct ρ2=>ZC (zG 4) WB (js.map fun (j:Nat)=>T.int (0+(j:Int))) ρ2
   | .bk ρ2=> .nx ρ2
   | r=>r:=rfl
  have eb:WB [.vl (scr ns), .vl (.int k), .un, .ow (ws.map T.str), .vl (.int (0+(j:Int))),x5]= .nx [.vl (scr ns), .vl (.int k), .un, .ow ((if w∈ws then ws else ws++[w]).map T.str), .vl (.int (0+(j:Int))), .vl (.str w)]:=by
   have w3o:∀ (a b c:Sl) (ts:List T) (ρ:En),vB 3 (a :: b :: c :: .ow ts :: ρ)= .ok (.lst ts):=fun _ _ _ _ _=>rfl
   have hset:∀ t,([.vl (scr ns), .vl (.int k), .un, .ow (ws.map T.str), .vl (.int (0+(j:Int))),x5]:En).set 5 (.vl t)=[.vl (scr ns), .vl (.int k), .un, .ow (ws.map T.str), .vl (.int (0+(j:Int))), .vl t]:=fun _=>rfl
   have en:qt (.str w) (.lst (ws.map T.str))= .ok (!decide (w∈ws)):=by
    show ((match W5 (fun y=>eqF 30 y (.str w)) (ws.map T.str) with | some b=>R.ok b | none=> .bad)).bind (fun b=>R.ok (!b))=_
    rw [uS]; rfl
   simp only [WB,Zd,Jg,Zq,v0,v1,v4,zp,Z7,bOk,Zj,gj,ew,ZL,hset,jc,Z6,w5,w3o,en]
   by_cases hm:w∈ws
   ·rw [decide_eq_true hm,if_pos hm]; rfl
   ·rw [decide_eq_false hm,if_neg hm]
    have hb:(ws.map T.str).length < bnd:=by rw [List.length_map]; exact Nat.lt_of_le_of_lt (show ws.length<=4 by omega) (by decide)
    show (if (ws.map T.str).length < bnd then RS.nx _ else .bad)=_
    rw [if_pos hb,List.map_append]
    rfl
  rw [e,eb]
  by_cases hm:w∈ws
  ·rw [if_pos hm]
   obtain ⟨ws',y4,y5,r1,r2,r3,r4,r5⟩:=JO ns k h0 js ws (.vl (.int (0+(j:Int)))) (.vl (.str w)) (by omega) hd hw
   exact ⟨ws',y4,y5,r1,r2,r3,r4,fun _=>r5 (by have:=List.length_pos_of_mem hm; omega)⟩
  ·rw [if_neg hm]
   obtain ⟨ws',y4,y5,r1,r2,r3,r4,r5⟩:=JO ns k h0 js (ws++[w]) (.vl (.int (0+(j:Int)))) (.vl (.str w)) (by simp only [List.length_append,List.length_cons,List.length_nil]; omega) (hd.add hm) (fun x hx=>by
    rcases List.mem_append.mp hx with z | z
    ·exact hw x z
    ·rw [List.mem_singleton.mp z]; exact hw')
   exact ⟨ws',y4,y5,r1,r2,r3,r4,fun _=>r5 (by simp only [List.length_append,List.length_cons,List.length_nil]; omega)⟩
abbrev XB:En->R T:=Zy (z9 (vE 1) (z9 (zf zw (cE (.int 1)) (zc 3 f_2 (z9 (vE 2) (z9 (zf zw (zf zw (vE 3) (cE (.int 30))) (vE 0)) (z9 (cE (.int 20)) (zj)))))) (zj)))
theorem uT (ns:List Int) (k:Int) (h0:0<=k):∀ (ws:List Str) (i:Nat) (x0 x1:Sl),(∀ w∈ws,Zm (.str w)=true)->∃ cs:List T,zM (Za 0 1) Z2 XB (((ws.map T.str).zipIdx i).map fun p=>T.tup [.int (p.2:Nat),p.1]) [x0,x1, .vl (scr ns), .vl (.int k)]= .ok cs/\cs.all zQ=true/\cs.map Zn=ws
 | [],i,x0,x1,_=>⟨[],rfl,rfl,rfl⟩
 | w :: ws,i,x0,x1,hw=>by
  obtain ⟨p,e,p0,p1⟩:=zU ns (k+30+i) 20 (by omega) (by omega)
  obtain ⟨cs,r1,r2,r3⟩:=uT ns k h0 ws (i+1) (.vl (.int (i:Int))) (.vl (.str w)) fun x hx=>hw x (List.mem_cons_of_mem _ hx)
  have ec:XB [.vl (.int (i:Int)), .vl (.str w), .vl (scr ns), .vl (.int k)]= .ok (.tup [.str w, .int (1+p)]):=by
   have ea:zc 3 f_2 (z9 (vE 2) (z9 (zf zw (zf zw (vE 3) (cE (.int 30))) (vE 0)) (z9 (cE (.int 20)) (zj)))) [.vl (.int (i:Int)), .vl (.str w), .vl (scr ns), .vl (.int k)]= .ok (.int p):=by
    simp only [Zz,v2,v3,v0,zp,Z7,bOk,Zj,e]
   have eb:zf zw (cE (.int 1)) (zc 3 f_2 (z9 (vE 2) (z9 (zf zw (zf zw (vE 3) (cE (.int 30))) (vE 0)) (z9 (cE (.int 20)) (zj))))) [.vl (.int (i:Int)), .vl (.str w), .vl (scr ns), .vl (.int k)]= .ok (.int (1+p)):=by
    rw [zp,ea]; rfl
   exact Y5 v1 eb
  refine ⟨.tup [.str w, .int (1+p)] :: cs, ?_, ?_, ?_⟩
  ·show ((XB [.vl (.int (i:Int)), .vl (.str w), .vl (scr ns), .vl (.int k)]).bind fun v=>(zM (Za 0 1) Z2 XB (((ws.map T.str).zipIdx (i+1)).map fun p=>T.tup [.int (p.2:Nat),p.1]) [.vl (.int (i:Int)), .vl (.str w), .vl (scr ns), .vl (.int k)]).bind fun vs=>R.ok (v :: vs))=_
   rw [ec,r1]; rfl
  ·rw [List.all_cons,r2,Bool.and_true]
   show (Zm (.str w) && decide (1<=1+p) && decide (1+p<=20))=true
   rw [hw w List.mem_cons_self,decide_eq_true (by omega),decide_eq_true (by omega)]; rfl
  ·rw [List.map_cons,r3]; rfl
theorem QG (i j:Int):Wp (.int i) (.int j)= .ok (.int (if j < i then j else i)):=rfl
theorem Vv (ns:List Int) (k:Int) (h0:0<=k):∃ t,f_v [scr ns, .int k]= .ok t/\∀ d,isK (d+1) t=true:=by
 have e:f_v [scr ns, .int k]=zn (b_v f_2 f_x [.vl (scr ns), .vl (.int k), .un, .un, .un, .un]):=rfl
 obtain ⟨p,e0,p0,p1⟩:=zU ns k 3 h0 (by omega)
 rw [e,b_v,Zd]
 simp only [jc,Z6,Zz,v0,v1,Z7,bOk,e0,gtI,ZL]
 cases hp:decide (p > 0) with
 | true=>
  obtain ⟨q,e1,q0,q1⟩:=zU ns (k+1) 7 (by omega) (by omega)
  obtain ⟨q3,e3,_,_⟩:=zU ns (k+3) 8 (by omega) (by omega)
  obtain ⟨q4,e4,a4,b4⟩:=zU ns (k+4) 3 (by omega) (by omega)
  obtain ⟨q2,e2,a2,b2⟩:=zU ns (k+2) 4 (by omega) (by omega)
  have hset:∀ t x,([.vl (scr ns), .vl (.int k),x, .un, .un, .un]:En).set 2 (.vl t)=[.vl (scr ns), .vl (.int k), .vl t, .un, .un, .un]:=fun _ _=>rfl
  have fin:∀ low:Int, -20<=low->low<=20->∃ t,zn (zI (Zy (z9 (cE (.str "whole")) (z9 (vE 2) (z9 (zf Wp (cE (.int 20)) (zf zw (vE 2) (zc 3 f_2 (z9 (vE 0) (z9 (zf zw (vE 1) (cE (.int 2))) (z9 (cE (.int 4)) (zj))))))) (zj))))) [.vl (scr ns), .vl (.int k), .vl (.int low), .un, .un, .un])= .ok t/\∀ d,isK (d+1) t=true:=by
   intro low hl1 hl2
   refine ⟨.tup [.str "whole", .int low, .int (if low+q2 < 20 then low+q2 else 20)], ?_,fun d=> ?_⟩
   ·rw [Zv,Jf]
    refine XA rfl rfl ?_
    simp only [jw,wa,jH,zp,v2,v0,v1,Zz,Z7,bOk,Zj,e2,QG]
   ·show (decide (-20<=low) && decide (low<=_) && decide (_<=(20:Int)))=true
    rw [decide_eq_true hl1,decide_eq_true (by split <;> omega),decide_eq_true (by split <;> omega)]; rfl
  simp only [if_true,Zd,Jg,jc,zp,Zz,v0,v1,Z7,bOk,Zj,e1,ZD,ZL,hset,Z6,e3,eqI]
  cases hq:(q3 == 0) with
  | true=>
   have h3:q4=0\/q4=1\/q4=2:=by omega
   rcases h3 with rfl | rfl | rfl
   ·obtain ⟨t,r,s⟩:=fin (-20) (by omega) (by omega)
    refine ⟨t, ?_,s⟩
    rw [← r]
    simp only [if_true,e4,bOk]
    have hv:∀ ρ,(J0 (z9 (uy (cE (.int 20))) (z9 (cE (.int 17)) (z9 (cE (.int 20)) (zj)))) ρ)= .ok (.lst [.int (-20), .int 17, .int 20]):=fun _=>rfl
    simp only [hv,bOk]
    have hx:ixT (.lst [.int (-20), .int 17, .int 20]) (.int 0)= .ok (.int (-20)):=rfl
    simp only [hx,ZL,hset,Zv]
    generalize Zy _ _=z
    cases z <;> rfl
   ·obtain ⟨t,r,s⟩:=fin (17) (by omega) (by omega)
    refine ⟨t, ?_,s⟩
    rw [← r]
    simp only [if_true,e4,bOk]
    have hv:∀ ρ,(J0 (z9 (uy (cE (.int 20))) (z9 (cE (.int 17)) (z9 (cE (.int 20)) (zj)))) ρ)= .ok (.lst [.int (-20), .int 17, .int 20]):=fun _=>rfl
    simp only [hv,bOk]
    have hx:ixT (.lst [.int (-20), .int 17, .int 20]) (.int 1)= .ok (.int (17)):=rfl
    simp only [hx,ZL,hset,Zv]
    generalize Zy _ _=z
    cases z <;> rfl
   ·obtain ⟨t,r,s⟩:=fin (20) (by omega) (by omega)
    refine ⟨t, ?_,s⟩
    rw [← r]
    simp only [if_true,e4,bOk]
    have hv:∀ ρ,(J0 (z9 (uy (cE (.int 20))) (z9 (cE (.int 17)) (z9 (cE (.int 20)) (zj)))) ρ)= .ok (.lst [.int (-20), .int 17, .int 20]):=fun _=>rfl
    simp only [hv,bOk]
    have hx:ixT (.lst [.int (-20), .int 17, .int 20]) (.int 2)= .ok (.int (20)):=rfl
    simp only [hx,ZL,hset,Zv]
    generalize Zy _ _=z
    cases z <;> rfl
  | false=>
   obtain ⟨t,r,s⟩:=fin (q - 3) (by omega) (by omega)
   refine ⟨t, ?_,s⟩
   rw [← r]
   simp only [Bool.false_eq_true,if_false,nxS,Zv]
   generalize Zy _ _=z
   cases z <;> rfl
 | false=>
  obtain ⟨q,e1,q0,q1⟩:=zU ns (k+1) 4 (by omega) (by omega)
  simp only [Bool.false_eq_true,if_false,nxS,Zd]
  have ei:ZY (zf zw (cE (.int 1)) (zc 3 f_2 (z9 (vE 0) (z9 (zf zw (vE 1) (cE (.int 1))) (z9 (cE (.int 4)) (zj)))))) [.vl (scr ns), .vl (.int k), .un, .ow [], .un, .un]= .ok (rng 0 (1+q).toNat):=by
   unfold ZY
   simp only [zp,Zz,v0,v1,Z7,bOk,Zj,e1]
   rw [if_pos ⟨by omega,by omega⟩]
  have el:uF 3 zj [.vl (scr ns), .vl (.int k), .un, .un, .un, .un]= .nx [.vl (scr ns), .vl (.int k), .un, .ow [], .un, .un]:=rfl
  rw [el]
  have hn:(List.range (1+q).toNat).length=(1+q).toNat:=List.length_range
  obtain ⟨ws,y4,y5,r1,r2,r3,r4,r5⟩:=JO ns k h0 (List.range (1+q).toNat) [] .un .un (by rw [hn,List.length_nil]; omega) (fun k w h=>by cases h) (fun w h=>by cases h)
  have hpos:0 < ws.length:=r5 (by rw [hn,List.length_nil]; omega)
  have ef:jV (ZY (zf zw (cE (.int 1)) (zc 3 f_2 (z9 (vE 0) (z9 (zf zw (vE 1) (cE (.int 1))) (z9 (cE (.int 4)) (zj))))))) (zG 4) WB [.vl (scr ns), .vl (.int k), .un, .ow [], .un, .un]= .nx [.vl (scr ns), .vl (.int k), .un, .ow (ws.map T.str),y4,y5]:=by
   unfold jV
   rw [ei,ZL]
   exact r1
  obtain ⟨cs,s1,s2,s3⟩:=uT ns k h0 ws 0 .un .un r4
  have hcl:cs.length=ws.length:=by rw [← s3,List.length_map]
  refine ⟨.tup [.str "pick", .tup cs], ?_,fun d=> ?_⟩
  ·dsimp only
   rw [ef]
   dsimp only
   rw [Zv,Jf]
   refine Y5 rfl ?_
   rw [j7,Zi]
   have ee:V2 (vE 3) (frz [.vl (scr ns), .vl (.int k), .un, .ow (ws.map T.str),y4,y5])= .ok (ZQ (ws.map T.str)):=rfl
   rw [ee,bOk]
   unfold zS
   rw [if_pos (by unfold ZQ; rw [List.length_map,List.length_zipIdx,List.length_map]; exact Nat.le_trans r2 (by decide))]
   have ec:zM (Za 0 1) Z2 XB (ZQ (ws.map T.str)) (Wq 2 [0,1] (frz [.vl (scr ns), .vl (.int k), .un, .ow (ws.map T.str),y4,y5]))= .ok cs:=s1
   rw [ec]
   rfl
  ·show (decide (1<=cs.length) && decide (cs.length<=4) && cs.all zQ && decide ((dd [] (cs.map Zn)).length=cs.length))=true
   have hd:(dd [] (cs.map Zn)).length=cs.length:=by
    rw [s3,hcl]
    have:=(wR ws []).mpr (fun k w h=>by simpa using r3 k w h)
    simpa using this
   rw [decide_eq_true (by omega),decide_eq_true (by omega),s2,decide_eq_true hd]; rfl
theorem UH (c:Int) (j:Int) (hc:W3 c j):Z1 (.int c) (.int j)= .ok (.int (c*j)):=by
 show (if W3 c j then R.ok (T.int (c*j)) else .bad)=_
 rw [if_pos hc]
theorem XD (j:Int):Z1 (.int 3) (.int j)= .ok (.int (3*j)):=UH _ _ (.inl ⟨by decide,by decide⟩)
theorem XE (j:Int):Z1 (.int 50) (.int j)= .ok (.int (50*j)):=UH _ _ (.inl ⟨by decide,by decide⟩)
abbrev K2 (c:List T->R T):En->R T:=zc 3 c (z9 (vE 1) (z9 (zf zw (zf zw (zf Z1 (cE (.int 3)) (vE 2)) (cE (.int 40))) (zf Z1 (cE (.int 50)) (vE 0))) (z9 (zf jG (vE 3) (cE (.int 1))) (zj))))
theorem ud (ns:List Int):∀ (d n:Nat),d<=n->1<=d->∀ k:Int,0<=k->∃ t,S_c n 0 [scr ns, .int k, .int (d:Int)]= .ok t/\isK d t=true
 | d+1,n+1,hn,_,k,h0=>by
  have e:S_c (n+1) 0 [scr ns, .int k, .int ((d+1:Nat):Int)]=zn (b_c f_2 f_v (S_c n 0) [.vl (scr ns), .vl (.int k), .vl (.int ((d+1:Nat):Int)), .un, .un, .un]):=rfl
  obtain ⟨p,e0,p0,p1⟩:=zU ns k 5 h0 (by omega)
  obtain ⟨l,el,hl⟩:=Vv ns (k+1) (by omega)
  have hset:([.vl (scr ns), .vl (.int k), .vl (.int ((d+1:Nat):Int)), .un, .un, .un]:En).set 3 (.vl (.int p))=[.vl (scr ns), .vl (.int k), .vl (.int ((d+1:Nat):Int)), .vl (.int p), .un, .un]:=rfl
  rw [e,b_c]
  simp only [Zd,Jg,jc,wQ,Z6,Zz,Zq,v0,v1,v2,Z7,bOk,e0,ZL,hset,w2,w3,eqI,ltI,Zj,Zv,jw,wa,jH,zp,el]
  have hd1:((((d+1:Nat):Int) == 1))=decide (d=0):=by
   by_cases h:d=0
   ·subst h; rfl
   ·rw [decide_eq_false h,beq_eq_false_iff_ne]; omega
  rw [hd1]
  by_cases hleaf:d=0\/p < 2
  ·refine ⟨l, ?_,hl d⟩
   rcases hleaf with h | h
   ·rw [decide_eq_true h]; rfl
   ·rw [decide_eq_true h]
    cases decide (d=0) <;> rfl
  ·have hd0:¬ d=0:=fun z=>hleaf (.inl z)
   have hp2:¬ p < 2:=fun z=>hleaf (.inr z)
   have hsub:((d+1:Nat):Int) - 1=(d:Int):=by omega
   rw [decide_eq_false hd0,decide_eq_false hp2]
   simp only [Bool.false_eq_true,if_false,ZL,nxS,w3,v0,v1,v2,bOk,ltI,Z7]
   cases hp:decide (p < 4) with
   | true=>
    obtain ⟨q,e1,q0,q1⟩:=zU ns (k+1) 3 (by omega) (by omega)
    have hj:∀ j:Nat,∃ t,K2 (S_c n 0) [.vl (.int (0+(j:Int))), .vl (scr ns), .vl (.int k), .vl (.int ((d+1:Nat):Int))]= .ok t/\isK d t=true:=fun j=>by
     obtain ⟨t,r,s⟩:=ud ns d n (by omega) (by omega) (3*k+40+50*(0+(j:Int))) (by omega)
     refine ⟨t, ?_,s⟩
     simp only [K2,Zz,v0,v1,v2,v3,zp,Z7,bOk,XD,XE,Zj,ZD,hsub,r]
    obtain ⟨g,hg⟩:=Classical.skolem.mp hj
    have ei:ZY (zf zw (cE (.int 1)) (zc 3 f_2 (z9 (vE 0) (z9 (zf zw (vE 1) (cE (.int 1))) (z9 (cE (.int 3)) (zj)))))) [.vl (scr ns), .vl (.int k), .vl (.int ((d+1:Nat):Int)), .vl (.int p), .un, .un]= .ok (rng 0 (1+q).toNat):=by
     unfold ZY
     simp only [zp,Zz,v0,v1,Z7,bOk,Zj,e1]
     rw [if_pos ⟨by omega,by omega⟩]
    have ec:zS (zG 0) Z2 (K2 (S_c n 0)) 1 [0,1,2] [.vl (scr ns), .vl (.int k), .vl (.int ((d+1:Nat):Int)), .vl (.int p), .un, .un] (rng 0 (1+q).toNat)= .ok ((rng 0 (1+q).toNat).map fun t=>match t with | .int j=>g j.toNat | t=>t):=
     Zp (rng 0 (1+q).toNat) (by unfold rng; rw [List.length_map,List.length_range]; exact Nat.le_trans (show (1+q).toNat<=3 by omega) (by decide)) fun t ht=>by
      unfold rng at ht
      obtain ⟨j,_,rfl⟩:=List.mem_map.mp ht
      show K2 (S_c n 0) [.vl (.int (0+(j:Int))), .vl (scr ns), .vl (.int k), .vl (.int ((d+1:Nat):Int))]= .ok (g (0+(j:Int)).toNat)
      rw [(hg j).1,Int.zero_add,Int.toNat_natCast]
    generalize hcs:((rng 0 (1+q).toNat).map fun t=>match t with | .int j=>g j.toNat | t=>t)=cs at ec
    have hlen:cs.length=(1+q).toNat:=by rw [← hcs]; unfold rng; rw [List.length_map,List.length_map,List.length_range]
    have hall:∀ t∈cs,isK d t=true:=fun t ht=>by
     rw [← hcs] at ht
     obtain ⟨u,hu,rfl⟩:=List.mem_map.mp ht
     unfold rng at hu
     obtain ⟨j,_,rfl⟩:=List.mem_map.mp hu
     exact (hg _).2
    refine ⟨.tup [.str "row", .tup cs], ?_, ?_⟩
    ·have hs4:([.vl (scr ns), .vl (.int k), .vl (.int ((d+1:Nat):Int)), .vl (.int p), .un, .un]:En).set 4 (.vl (.lst cs))=[.vl (scr ns), .vl (.int k), .vl (.int ((d+1:Nat):Int)), .vl (.int p), .vl (.lst cs), .un]:=rfl
     simp only [if_true,Zi,ei,bOk,ec,ZL,hs4,jw,wa,jH]
     rfl
    ·show (decide (1<=cs.length) && decide (cs.length<=3) && cs.all (isK d))=true
     rw [decide_eq_true (by omega),decide_eq_true (by omega),List.all_eq_true.mpr hall]; rfl
   | false=>
    obtain ⟨q,e1,q0,q1⟩:=zU ns (k+1) 3 (by omega) (by omega)
    obtain ⟨q2,e2,_,_⟩:=zU ns (k+2) 3 (by omega) (by omega)
    obtain ⟨t,r,s⟩:=ud ns d n (by omega) (by omega) (3*k+40) (by omega)
    refine ⟨.tup [.str "many",t, .int q, .int (if q+q2 < 3 then q+q2 else 3)], ?_, ?_⟩
    ·have hs5:([.vl (scr ns), .vl (.int k), .vl (.int ((d+1:Nat):Int)), .vl (.int p), .un, .un]:En).set 5 (.vl (.int q))=[.vl (scr ns), .vl (.int k), .vl (.int ((d+1:Nat):Int)), .vl (.int p), .un, .vl (.int q)]:=rfl
     simp only [Bool.false_eq_true,if_false,v0,v1,zp,Z7,bOk,Zj,e1,ZL,hs5,jw,wa,jH,Jf]
     refine tup4 rfl ?_ rfl ?_
     ·simp only [Zz,v0,v1,v2,zp,Z7,bOk,XD,Zj,ZD,hsub,r]
     ·have v5:∀ {t:T} {a b c d e:Sl} {ρ:En},vE 5 (a :: b :: c :: d :: e :: .vl t :: ρ)= .ok t:=rfl
      simp only [Zz,v0,v1,v5,zp,Z7,bOk,Zj,e2,QG]
    ·show (Je 0 3 (.int q) (.int _) && isK d t)=true
     rw [s,Bool.and_true]
     show (decide (0<=q) && decide (q<=_) && decide (_<=(3:Int)))=true
     rw [decide_eq_true (by omega),decide_eq_true (by split <;> omega),decide_eq_true (by split <;> omega)]; rfl
mutual
def dep:T->Nat
 | .tup xs=>YZ xs+1
 | .lst xs=>YZ xs+1
 | _=>1
def YZ:List T->Nat
 | []=>0
 | t :: ts=>max (dep t) (YZ ts)
end
mutual
def siz:T->Nat
 | .tup xs=>qa xs+1
 | .lst xs=>qa xs+1
 | _=>1
def qa:List T->Nat
 | []=>0
 | t :: ts=>siz t+qa ts
end
theorem Jh {w:Str} {t:T} (h:isS w t=true):t= .str w:=by
 cases t with
 | str s=>
  have:(s == w)=true:=h
  rw [eq_of_beq this]
 | _=>cases h
theorem Vw {lo hi:Int} {t:T} (h:inR lo hi t=true):∃ i,t= .int i:=by
 cases t with
 | int i=>exact ⟨i,rfl⟩
 | _=>cases h
theorem Jt {lo hi:Int} {a b:T} (h:Je lo hi a b=true):∃ i j,a= .int i/\b= .int j:=by
 cases a with
 | int i=>
  cases b with
  | int j=>exact ⟨i,j,rfl,rfl⟩
  | _=>cases h
 | _=>cases h
structure Fit (D S:Nat) (t:T):Prop where
 so:sOk t
 dp:dep t<=D
 sz:siz t<=S
theorem UI {c:T} (h:zQ c=true):Fit 2 3 c:=by
 unfold zQ at h
 split at h
 ·rename_i w i
  have hw:Zm w=true:=by
   rw [Bool.and_eq_true,Bool.and_eq_true] at h
   exact h.1.1
  cases w with
  | str x=>
   have hx:(decide (1<=x.length) && decide (x.length<=3) && x.cps.toList.all Zh)=true:=hw
   rw [Bool.and_eq_true,Bool.and_eq_true,decide_eq_true_eq,decide_eq_true_eq] at hx
   refine ⟨?_, ?_, ?_⟩
   ·simp only [sOk,WU,and_true]
    exact Nat.le_trans hx.1.2 (by decide)
   ·simp [dep,YZ]
   ·simp [siz,qa]
  | _=>cases hw
 ·cases h
theorem gm {D S:Nat}:∀ {cs:List T},(∀ c∈cs,Fit D S c)->WU cs/\YZ cs<=D/\qa cs<=S*cs.length
 | [],_=>⟨by simp only [WU],Nat.zero_le _,Nat.zero_le _⟩
 | c :: cs,h=>by
  obtain ⟨a,b,d⟩:=gm (cs:=cs) fun x hx=>h x (List.mem_cons_of_mem _ hx)
  obtain ⟨x,y,z⟩:=h c List.mem_cons_self
  refine ⟨?_, ?_, ?_⟩
  ·simp only [WU]; exact ⟨x,a⟩
  ·simp only [YZ]; omega
  ·simp only [qa,List.length_cons,Nat.mul_add,Nat.mul_one]; omega
theorem wT:∀ (d:Nat) (t:T),isK d t=true->Fit (2*d+2) (15*4 ^ d) t
 | 0,_,h=>by cases h
 | d+1,t,h=>by
  have hpow:4 ^ (d+1)=4*4 ^ d:=by rw [Nat.pow_succ,Nat.mul_comm]
  have hone:1<=4 ^ d:=Nat.pow_pos (by omega)
  have h:UE (isK d) t=true:=h
  unfold UE at h
  split at h
  ·rename_i hd r
   split at h
   ·rename_i e
    rw [Jh e]
    unfold Wz at h
    split at h
    ·obtain ⟨i,j,rfl,rfl⟩:=Jt h
     refine ⟨by simp only [sOk,WU,and_true]; decide,by simp only [dep,YZ]; omega,by simp only [siz,qa]; omega⟩
    ·cases h
   ·split at h
    ·rename_i e
     rw [Jh e]
     unfold Y1 at h
     split at h
     ·rename_i c
      unfold uR at h
      split at h
      ·rename_i cs
       rw [Bool.and_eq_true,Bool.and_eq_true,Bool.and_eq_true,decide_eq_true_eq,decide_eq_true_eq] at h
       obtain ⟨a,b,z⟩:=gm (D:=2) (S:=3) (cs:=cs) fun c hc=>UI (List.all_eq_true.mp h.1.2 c hc)
       refine ⟨by simp only [sOk,WU,and_true]; exact ⟨by decide,a⟩,by simp only [dep,YZ]; omega,by simp only [siz,qa]; omega⟩
      ·cases h
     ·cases h
    ·split at h
     ·rename_i e
      rw [Jh e]
      unfold Xw at h
      split at h
      ·rename_i c
       unfold JN at h
       split at h
       ·rename_i cs
        rw [Bool.and_eq_true,Bool.and_eq_true,decide_eq_true_eq,decide_eq_true_eq] at h
        obtain ⟨a,b,z⟩:=gm (D:=2*d+2) (S:=15*4 ^ d) (cs:=cs) fun c hc=>wT d c (List.all_eq_true.mp h.2 c hc)
        have:15*4 ^ d*cs.length<=15*4 ^ d*3:=Nat.mul_le_mul_left _ h.1.2
        refine ⟨by simp only [sOk,WU,and_true]; exact ⟨by decide,a⟩,by simp only [dep,YZ]; omega,by simp only [siz,qa]; omega⟩
       ·cases h
      ·cases h
     ·split at h
      ·rename_i e
       rw [Jh e]
       unfold Y2 at h
       split at h
       ·rename_i c a b
        rw [Bool.and_eq_true] at h
        obtain ⟨i,j,rfl,rfl⟩:=Jt h.1
        obtain ⟨x,y,z⟩:=wT d c h.2
        refine ⟨by simp only [sOk,WU,and_true]; exact ⟨by decide,x⟩,by simp only [dep,YZ]; omega,by simp only [siz,qa]; omega⟩
       ·cases h
      ·cases h
  ·cases h
theorem gp {f:En->R T} {ρ:En} {x:T} (hf:f ρ= .ok x):Zy (z9 f zj) ρ= .ok (.tup [x]):=by
 unfold Zy z9 zj
 rw [hf]; rfl
theorem XF {xs ys:List T} (h:xs.length+ys.length<=bnd):zw (.tup xs) (.tup ys)= .ok (.tup (xs++ys)):=if_pos h
theorem wv (ρ:En):nxS ρ= .nx ρ:=rfl
inductive Kd where
 | whole (lo hi:Int)
 | pick (cs:List (Str×Int))
 | row (ks:List Kd)
 | many (k:Kd) (lo hi:Nat)
def Ji (c:Str×Int):T:= .tup [.str c.1, .int c.2]
mutual
def Kd.t:Kd->T
 | .whole lo hi=> .tup [.str "whole", .int lo, .int hi]
 | .pick cs=> .tup [.str "pick", .tup (cs.map Ji)]
 | .row ks=> .tup [.str "row", .tup (Kd.ts ks)]
 | .many k lo hi=> .tup [.str "many",k.t, .int (lo:Int), .int (hi:Int)]
def Kd.ts:List Kd->List T
 | []=>[]
 | k :: ks=>k.t :: Kd.ts ks
end
theorem Kd.ts_map:∀ ks:List Kd,Kd.ts ks=ks.map Kd.t
 | []=>by simp only [Kd.ts,List.map_nil]
 | k :: ks=>by simp only [Kd.ts,List.map_cons,Kd.ts_map ks]
def Kd.Ok:Nat->Kd->Prop
 | 0,_=>False
 | _+1, .whole lo hi=> -20<=lo/\lo<=hi/\hi<=20
 | _+1, .pick cs=>1<=cs.length/\cs.length<=4/\(∀ c∈cs,Zm (.str c.1)=true/\1<=c.2/\c.2<=20)/\Dst (cs.map (·.1))
 | d+1, .row ks=>1<=ks.length/\ks.length<=3/\∀ k∈ks,Kd.Ok d k
 | d+1, .many k lo hi=>lo<=hi/\hi<=3/\Kd.Ok d k
theorem Y6 {c:T} (h:zQ c=true):∃ p:Str×Int,c=Ji p/\Zm (.str p.1)=true/\1<=p.2/\p.2<=20:=by
 unfold zQ at h
 split at h
 ·rename_i w i
  rw [Bool.and_eq_true,Bool.and_eq_true,decide_eq_true_eq,decide_eq_true_eq] at h
  cases w with
  | str x=>exact ⟨(x,i),rfl,h.1.1,h.1.2,h.2⟩
  | _=>cases h.1.1
 ·cases h
theorem ue {α:Type} {P:T->Prop} {Q:α->Prop} {f:α->T} (H:∀ t,P t->∃ a,t=f a/\Q a):∀ (ts:List T),(∀ t∈ts,P t)->∃ as:List α,ts=as.map f/\∀ a∈as,Q a
 | [],_=>⟨[],rfl,fun _ h=>nomatch h⟩
 | t :: ts,h=>by
  obtain ⟨a,rfl,ha⟩:=H t (h t List.mem_cons_self)
  obtain ⟨as,rfl,has⟩:=ue H ts fun u hu=>h u (List.mem_cons_of_mem _ hu)
  exact ⟨a :: as,rfl,fun b hb=>by
   rcases List.mem_cons.mp hb with rfl | hb
   ·exact ha
   ·exact has b hb⟩
theorem uf:∀ (d:Nat) (t:T),isK d t=true->∃ k:Kd,t=k.t/\k.Ok d
 | 0,_,h=>by cases h
 | d+1,t,h=>by
  have h:UE (isK d) t=true:=h
  unfold UE at h
  split at h
  ·rename_i hd r
   split at h
   ·rename_i e
    rw [Jh e]
    unfold Wz at h
    split at h
    ·obtain ⟨i,j,rfl,rfl⟩:=Jt h
     have h:(decide (-20<=i) && decide (i<=j) && decide (j<=20))=true:=h
     rw [Bool.and_eq_true,Bool.and_eq_true,decide_eq_true_eq,decide_eq_true_eq,decide_eq_true_eq] at h
     exact ⟨.whole i j,by simp only [Kd.t],h.1.1,h.1.2,h.2⟩
    ·cases h
   ·split at h
    ·rename_i e
     rw [Jh e]
     unfold Y1 at h
     split at h
     ·rename_i c
      unfold uR at h
      split at h
      ·rename_i cs
       rw [Bool.and_eq_true,Bool.and_eq_true,Bool.and_eq_true,decide_eq_true_eq,decide_eq_true_eq,decide_eq_true_eq] at h
       obtain ⟨⟨⟨h1,h2⟩,h3⟩,h4⟩:=h
       obtain ⟨as,rfl,has⟩:=ue (fun t ht=>Y6 ht) cs fun c hc=>List.all_eq_true.mp h3 c hc
       rw [List.length_map] at h1 h2
       refine ⟨.pick as,by simp only [Kd.t],h1,h2,has, ?_⟩
       have e1:(as.map Ji).map Zn=as.map (·.1):=by rw [List.map_map]; rfl
       rw [e1] at h4
       have:=(wR (as.map (·.1)) []).mp (by rw [h4,List.length_map,List.length_map]; simp)
       exact fun k w hw hm=>this k w hw (by simpa using hm)
      ·cases h
     ·cases h
    ·split at h
     ·rename_i e
      rw [Jh e]
      unfold Xw at h
      split at h
      ·rename_i c
       unfold JN at h
       split at h
       ·rename_i cs
        rw [Bool.and_eq_true,Bool.and_eq_true,decide_eq_true_eq,decide_eq_true_eq] at h
        obtain ⟨ks,rfl,hks⟩:=ue (fun t ht=>uf d t ht) cs fun c hc=>List.all_eq_true.mp h.2 c hc
        rw [List.length_map] at h
        exact ⟨.row ks,by simp only [Kd.t,Kd.ts_map],h.1.1,h.1.2,hks⟩
       ·cases h
      ·cases h
     ·split at h
      ·rename_i e
       rw [Jh e]
       unfold Y2 at h
       split at h
       ·rename_i c a b
        rw [Bool.and_eq_true] at h
        obtain ⟨h1,h2⟩:=h
        obtain ⟨i,j,rfl,rfl⟩:=Jt h1
        obtain ⟨k,rfl,hk⟩:=uf d c h2
        have h1:(decide (0<=i) && decide (i<=j) && decide (j<=3))=true:=h1
        rw [Bool.and_eq_true,Bool.and_eq_true,decide_eq_true_eq,decide_eq_true_eq,decide_eq_true_eq] at h1
        obtain ⟨⟨a1,a2⟩,a3⟩:=h1
        obtain ⟨m,rfl⟩:=Int.eq_ofNat_of_zero_le a1
        obtain ⟨n,rfl⟩:=Int.eq_ofNat_of_zero_le (Int.le_trans a1 a2)
        exact ⟨.many k m n,by simp only [Kd.t],by omega,by omega,hk⟩
       ·cases h
      ·cases h
  ·cases h
def ZR (made:List (List T)):List (List T)->List (List T)
 | []=>made
 | ls :: r=>ZR (made.flatMap fun a=>ls.map fun x=>a++[x]) r
abbrev WC (ls:List (List T)):List T:=(ZR [[]] ls).map T.tup
mutual
def Kd.all:Kd->List T
 | .whole lo hi=>(List.range (hi+1 - lo).toNat).map fun (i:Nat)=>T.int (lo+(i:Int))
 | .pick cs=>cs.map fun c=>T.str c.1
 | .row ks=>WC (Kd.alls ks)
 | .many k lo hi=>(List.range (hi+1 - lo)).flatMap fun i=>WC (List.replicate (lo+i) k.all)
def Kd.alls:List Kd->List (List T)
 | []=>[]
 | k :: ks=>k.all :: Kd.alls ks
end
theorem Kd.alls_map:∀ ks:List Kd,Kd.alls ks=ks.map Kd.all
 | []=>by simp only [Kd.alls,List.map_nil]
 | k :: ks=>by simp only [Kd.alls,List.map_cons,Kd.alls_map ks]
def prd:List Nat->Nat
 | []=>1
 | n :: r=>n*prd r
theorem JP:∀ {ns:List Nat},(∀ n∈ns,1<=n)->1<=prd ns
 | [],_=>Nat.le_refl _
 | n :: ns,h=>Nat.mul_pos (h n List.mem_cons_self) (JP fun m hm=>h m (List.mem_cons_of_mem _ hm))
theorem Ju {α β:Type} (f:α->List β) (n:Nat):∀ as:List α,(∀ a∈as,(f a).length=n)->(as.flatMap f).length=as.length*n
 | [],_=>by simp
 | a :: as,h=>by
  rw [List.flatMap_cons,List.length_append,h a List.mem_cons_self,Ju f n as fun b hb=>h b (List.mem_cons_of_mem _ hb),List.length_cons,Nat.add_mul,Nat.one_mul,Nat.add_comm]
theorem JQ:∀ (ls:List (List T)) (made:List (List T)),(ZR made ls).length=made.length*prd (ls.map (·.length))
 | [],made=>by simp [ZR,prd]
 | l :: ls,made=>by
  rw [ZR,JQ ls,Ju _ l.length made fun a _=>List.length_map ..,List.map_cons,prd,Nat.mul_assoc]
abbrev QH:En->RS:=YW 3 (zY (j6 (vE 2)) (zG 0) (Z2) (zf zw (vE 1) (Zy (z9 (vE 0) (zj)))) 1 [4])
theorem uU {L M:T} {l:List T} (hl:l.length<=bnd):∀ (as:List (List T)) (acc:List T) (x:Sl),(∀ a∈as,a.length<=1000)->acc.length+as.length*l.length<=bnd->
  ∃ y,ZC (zG 4) QH (as.map T.tup) [.vl L, .vl M, .vl (.lst l), .ow acc,x]= .nx [.vl L, .vl M, .vl (.lst l), .ow (acc++(as.flatMap fun a=>l.map fun x=>a++[x]).map T.tup),y]
 | [],acc,x,_,_=>⟨x,by simp [ZC]⟩
 | a :: as,acc,x,ha,hb=>by
  have ha1:=ha a List.mem_cons_self
  have hb1:bnd=16777216:=rfl
  rw [List.length_cons,Nat.add_mul,Nat.one_mul] at hb
  have ec:zS (zG 0) Z2 (zf zw (vE 1) (Zy (z9 (vE 0) (zj)))) 1 [4] [.vl L, .vl M, .vl (.lst l), .ow acc, .vl (.tup a)] l= .ok (l.map fun x=>T.tup (a++[x])):=
   Zp (h:=fun x=>T.tup (a++[x])) l hl fun x hx=>by
    show zf zw (vE 1) (Zy (z9 (vE 0) (zj))) [.vl x, .vl (.tup a)]=_
    rw [zp,v1,bOk,gp v0,bOk]
    exact XF (by rw [List.length_singleton]; omega)
  have eb:QH [.vl L, .vl M, .vl (.lst l), .ow acc, .vl (.tup a)]= .nx [.vl L, .vl M, .vl (.lst l), .ow (acc++l.map fun x=>T.tup (a++[x])), .vl (.tup a)]:=by
   show ((zY _ _ _ _ _ _ _).s fun t=>match t with | .lst us=>if acc.length+us.length<=bnd then RS.nx _ else .bad | _=> .bad)=_
   rw [Zi,jx,v2,bOk]
   show (((zS _ _ _ _ _ _ l).bind _).s _)=_
   rw [ec,bOk,ZL]
   show (if _ then _ else _)=_
   rw [if_pos (by rw [List.length_map]; omega)]
   rfl
  obtain ⟨y,ih⟩:=uU hl as (acc++l.map fun x=>T.tup (a++[x])) (.vl (.tup a)) (fun b hb=>ha b (List.mem_cons_of_mem _ hb)) (by rw [List.length_append,List.length_map]; omega)
  refine ⟨y, ?_⟩
  have e:ZC (zG 4) QH ((a :: as).map T.tup) [.vl L, .vl M, .vl (.lst l), .ow acc,x]=match QH [.vl L, .vl M, .vl (.lst l), .ow acc, .vl (.tup a)] with
   | .nx ρ2=>ZC (zG 4) QH (as.map T.tup) ρ2
   | .ct ρ2=>ZC (zG 4) QH (as.map T.tup) ρ2
   | .bk ρ2=> .nx ρ2
   | r=>r:=rfl
  rw [e,eb]
  dsimp only
  rw [ih,List.flatMap_cons,List.map_append,List.map_map,List.append_assoc]
  rfl
abbrev WD:En->RS:=(zx (uF 3 (zj))
  (zx (jV (j6 (vE 1)) (zG 4) QH)
  (mvS 1 3)))
theorem WF {L:T} (m:Nat):∀ (ls:List (List T)) (made:List (List T)) (k:Nat) (x y z:Sl),(∀ a∈made,a.length<=k)->k+ls.length<=1000->(∀ l∈ls,1<=l.length)->made.length*prd (ls.map (·.length))<=bnd->1<=made.length->
  ∃ x' y' z',ZC (zG 2) WD (ls.map T.lst) [.vl L, .vl (.lst (made.map T.tup)),x,y,z]= .nx [.vl L, .vl (.lst ((ZR made ls).map T.tup)),x',y',z']
 | [],made,k,x,y,z,_,_,_,_,_=>⟨x,y,z,by simp [ZC,ZR]⟩
 | l :: ls,made,k,x,y,z,hk,hkl,hpos,hb,hm=>by
  have hpr:1<=prd (ls.map (·.length)):=JP fun n hn=>by
   obtain ⟨l',hl',rfl⟩:=List.mem_map.mp hn
   exact hpos l' (List.mem_cons_of_mem _ hl')
  rw [List.map_cons,prd,← Nat.mul_assoc] at hb
  have hb1:made.length*l.length<=bnd:=Nat.le_trans (Nat.le_mul_of_pos_right _ hpr) hb
  have hll:l.length<=bnd:=Nat.le_trans (Nat.le_mul_of_pos_left _ hm) hb1
  rw [List.length_cons] at hkl
  obtain ⟨w,er⟩:=uU (L:=L) (M:= .lst (made.map T.tup)) hll made [] z (fun a ha=>Nat.le_trans (hk a ha) (by omega)) (by rw [List.length_nil]; omega)
  rw [List.nil_append] at er
  have es:WD [.vl L, .vl (.lst (made.map T.tup)), .vl (.lst l),y,z]= .nx [.vl L, .vl (.lst ((made.flatMap fun a=>l.map fun x=>a++[x]).map T.tup)), .vl (.lst l), .vl (.lst ((made.flatMap fun a=>l.map fun x=>a++[x]).map T.tup)),w]:=by
   have e0:uF 3 (zj) [.vl L, .vl (.lst (made.map T.tup)), .vl (.lst l),y,z]= .nx [.vl L, .vl (.lst (made.map T.tup)), .vl (.lst l), .ow [],z]:=rfl
   have e1:jV (j6 (vE 1)) (zG 4) QH [.vl L, .vl (.lst (made.map T.tup)), .vl (.lst l), .ow [],z]= .nx [.vl L, .vl (.lst (made.map T.tup)), .vl (.lst l), .ow ((made.flatMap fun a=>l.map fun x=>a++[x]).map T.tup),w]:=er
   unfold WD
   rw [Zd,e0]
   dsimp only
   rw [Zd,e1]
   rfl
  obtain ⟨x',y',z',ih⟩:=WF (L:=L) m ls (made.flatMap fun a=>l.map fun x=>a++[x]) (k+1) (.vl (.lst l)) (.vl (.lst ((made.flatMap fun a=>l.map fun x=>a++[x]).map T.tup))) w (fun a ha=>by
   obtain ⟨b,hb,hx⟩:=List.mem_flatMap.mp ha
   obtain ⟨u,_,rfl⟩:=List.mem_map.mp hx
   have:=hk b hb
   rw [List.length_append,List.length_singleton]; omega) (by omega) (fun l' hl' =>hpos l' (List.mem_cons_of_mem _ hl')) (by
    rw [Ju _ l.length made fun a _=>List.length_map ..]; exact hb) (by
    rw [Ju _ l.length made fun a _=>List.length_map ..]; exact Nat.mul_pos hm (hpos l List.mem_cons_self))
  refine ⟨x',y',z', ?_⟩
  have e:ZC (zG 2) WD ((l :: ls).map T.lst) [.vl L, .vl (.lst (made.map T.tup)),x,y,z]=match WD [.vl L, .vl (.lst (made.map T.tup)), .vl (.lst l),y,z] with
   | .nx ρ2=>ZC (zG 2) WD (ls.map T.lst) ρ2
   | .ct ρ2=>ZC (zG 2) WD (ls.map T.lst) ρ2
   | .bk ρ2=> .nx ρ2
   | r=>r:=rfl
  rw [e,es]
  exact ih
theorem Y7 (ls:List (List T)) (hl:ls.length<=1000) (hpos:∀ l∈ls,1<=l.length) (hb:prd (ls.map (·.length))<=bnd):f_b [.lst (ls.map T.lst)]= .ok (.lst (WC ls)):=by
 obtain ⟨x',y',z',er⟩:=WF (L:= .lst (ls.map T.lst)) 0 ls [[]] 0 .un .un .un (fun a ha=>by rw [List.mem_singleton.mp ha]; exact Nat.le_refl _) (by omega) hpos (by rw [List.length_singleton,Nat.one_mul]; exact hb) (Nat.le_refl _)
 have e:f_b [.lst (ls.map T.lst)]=zn (b_b [.vl (.lst (ls.map T.lst)), .un, .un, .un, .un]):=rfl
 have e0:zT 1 (J0 (z9 (Zy (zj)) (zj))) [.vl (.lst (ls.map T.lst)), .un, .un, .un, .un]= .nx [.vl (.lst (ls.map T.lst)), .vl (.lst [.tup []]), .un, .un, .un]:=rfl
 have e1:jV (j6 (vE 0)) (zG 2) WD [.vl (.lst (ls.map T.lst)), .vl (.lst [.tup []]), .un, .un, .un]= .nx [.vl (.lst (ls.map T.lst)), .vl (.lst (WC ls)),x',y',z']:=er
 rw [e,b_b,Zd,e0]
 dsimp only
 rw [Zd,e1]
 rfl
theorem jy (n:Nat):∀ m:Nat,prd (List.replicate m n)=n ^ m
 | 0=>rfl
 | m+1=>by rw [List.replicate_succ,prd,jy n m,Nat.pow_succ,Nat.mul_comm]
theorem Jv (ls:List (List T)):(WC ls).length=prd (ls.map (·.length)):=by
 unfold WC
 rw [List.length_map,JQ,List.length_singleton,Nat.one_mul]
def pw (n lo hi:Nat):Nat:=((List.range (hi+1 - lo)).map fun i=>n ^ (lo+i)).sum
theorem jE (k:Kd) (lo hi:Nat):(Kd.many k lo hi).all.length=pw k.all.length lo hi:=by
 rw [Kd.all,List.length_flatMap,pw]
 congr 1
 refine List.map_congr_left fun i _=> ?_
 rw [Jv,List.map_replicate,jy]
theorem Ja (ks:List Kd):(Kd.row ks).all.length=prd (ks.map fun k=>k.all.length):=by
 rw [Kd.all,Jv,Kd.alls_map,List.map_map]; rfl
theorem jz (lo hi:Int):(Kd.whole lo hi).all.length=(hi+1 - lo).toNat:=by
 rw [Kd.all,List.length_map,List.length_range]
theorem wU (cs:List (Str×Int)):(Kd.pick cs).all.length=cs.length:=by
 rw [Kd.all,List.length_map]
theorem Vx {lo hi:Nat} (h:lo<=hi) (h3:hi<=3):(lo=0/\hi=0)\/(lo=0/\hi=1)\/(lo=0/\hi=2)\/(lo=0/\hi=3)\/(lo=1/\hi=1)\/(lo=1/\hi=2)\/(lo=1/\hi=3)\/(lo=2/\hi=2)\/(lo=2/\hi=3)\/(lo=3/\hi=3):=by omega
def iv (b:Bool):Nat:=if b then 1 else 0
theorem Vy (n:Nat) {lo hi:Nat} (h:lo<=hi) (h3:hi<=3):pw n lo hi=iv (lo == 0)+n*iv (decide (lo<=1) && decide (1<=hi))+n*n*iv (decide (lo<=2) && decide (2<=hi))+n*n*n*iv (hi == 3):=by
 rcases Vx h h3 with ⟨rfl,rfl⟩ | ⟨rfl,rfl⟩ | ⟨rfl,rfl⟩ | ⟨rfl,rfl⟩ | ⟨rfl,rfl⟩ | ⟨rfl,rfl⟩ | ⟨rfl,rfl⟩ | ⟨rfl,rfl⟩ | ⟨rfl,rfl⟩ | ⟨rfl,rfl⟩ <;>
  simp [pw,List.range_succ,iv,Nat.pow_succ]
 all_goals omega
theorem XG {n:Nat} (hn:1<=n) {lo hi:Nat} (h:lo<=hi) (h3:hi<=3):1<=pw n lo hi:=by
 have h2:1<=n*n:=Nat.mul_pos hn hn
 have h1:1<=n*n*n:=Nat.mul_pos h2 hn
 rw [Vy n h h3]
 rcases Vx h h3 with ⟨rfl,rfl⟩ | ⟨rfl,rfl⟩ | ⟨rfl,rfl⟩ | ⟨rfl,rfl⟩ | ⟨rfl,rfl⟩ | ⟨rfl,rfl⟩ | ⟨rfl,rfl⟩ | ⟨rfl,rfl⟩ | ⟨rfl,rfl⟩ | ⟨rfl,rfl⟩ <;>
  simp [iv] <;> omega
theorem gq {n N:Nat} (hn:n<=N) {lo hi:Nat} (h:lo<=hi) (h3:hi<=3):pw n lo hi<=1+N+N*N+N*N*N:=by
 have h2:n*n<=N*N:=Nat.mul_le_mul hn hn
 have h1:n*n*n<=N*N*N:=Nat.mul_le_mul h2 hn
 rw [Vy n h h3]
 rcases Vx h h3 with ⟨rfl,rfl⟩ | ⟨rfl,rfl⟩ | ⟨rfl,rfl⟩ | ⟨rfl,rfl⟩ | ⟨rfl,rfl⟩ | ⟨rfl,rfl⟩ | ⟨rfl,rfl⟩ | ⟨rfl,rfl⟩ | ⟨rfl,rfl⟩ | ⟨rfl,rfl⟩ <;>
  simp [iv] <;> omega
theorem QI {N:Nat} (hN:1<=N):∀ (ns:List Nat),(∀ n∈ns,n<=N)->prd ns<=N ^ ns.length
 | [],_=>Nat.le_refl _
 | n :: ns,h=>by
  rw [prd,List.length_cons,Nat.pow_succ,Nat.mul_comm]
  exact Nat.mul_le_mul (QI hN ns fun m hm=>h m (List.mem_cons_of_mem _ hm)) (h n List.mem_cons_self)
theorem ZX:∀ (d:Nat) (k:Kd),k.Ok d->1<=k.all.length
 | 0,_,h=>h.elim
 | d+1, .whole lo hi,h=>by
  obtain ⟨_,h2,_⟩:=h
  rw [jz]; omega
 | d+1, .pick cs,h=>by
  rw [wU]; exact h.1
 | d+1, .row ks,h=>by
  rw [Ja]
  refine JP fun n hn=> ?_
  obtain ⟨k,hk,rfl⟩:=List.mem_map.mp hn
  exact ZX d k (h.2.2 k hk)
 | d+1, .many k lo hi,h=>by
  rw [jE]
  exact XG (ZX d k h.2.2) h.1 h.2.1
def mx:Nat->Nat
 | 0=>0
 | 1=>41
 | d+1=>1+mx d+mx d*mx d+mx d*mx d*mx d
theorem QJ (d:Nat):41<=mx (d+1):=by
 induction d with
 | zero=>exact Nat.le_refl _
 | succ d ih=>
  show 41<=1+mx (d+1)+mx (d+1)*mx (d+1)+mx (d+1)*mx (d+1)*mx (d+1)
  omega
theorem Y8 (d:Nat) (n:Nat) (h:n<=41):n<=mx (d+1):=Nat.le_trans h (QJ d)
theorem Vz {N m:Nat} (hN:1<=N) (h:m<=3):N ^ m<=1+N+N*N+N*N*N:=by
 have:m=0\/m=1\/m=2\/m=3:=by omega
 rcases this with rfl | rfl | rfl | rfl <;> simp [Nat.pow_succ] <;> omega
theorem jL:∀ (d:Nat) (k:Kd),k.Ok d->k.all.length<=mx d
 | 0,_,h=>h.elim
 | d+1, .whole lo hi,h=>by
  obtain ⟨h1,h2,h3⟩:=h
  rw [jz]; exact Y8 d _ (by omega)
 | d+1, .pick cs,h=>by
  rw [wU]; exact Y8 d _ (Nat.le_trans h.2.1 (by omega))
 | 1, .row ks,h=>by
  obtain ⟨h1,h2,h3⟩:=h
  match ks,h1,h3 with
  | k :: _,_,h3=>exact (h3 k List.mem_cons_self).elim
 | d+2, .row ks,h=>by
  obtain ⟨h1,h2,h3⟩:=h
  rw [Ja]
  have hp:=Nat.le_trans (by omega:1<=41) (QJ d)
  have:=QI hp (ks.map fun k=>k.all.length) fun n hn=>by
   obtain ⟨k,hk,rfl⟩:=List.mem_map.mp hn
   exact jL (d+1) k (h3 k hk)
  rw [List.length_map] at this
  exact Nat.le_trans this (Vz hp h2)
 | 1, .many k lo hi,h=>h.2.2.elim
 | d+2, .many k lo hi,h=>by
  rw [jE]
  exact gq (jL (d+1) k h.2.2) h.1 h.2.1
theorem zg {f g:En->RS} {ρ ρ' :En} (h:f ρ= .nx ρ'):zx f g ρ=g ρ' :=by rw [Zd,h]
theorem cs0 {x w:Str} {r:List T} {ρ:En}:zB eqC (zf ixT (vE 0) (cE (.int 0))) (cE (.str w)) (.vl (.tup (.str x :: r)) :: ρ)= .ok (x == w):=by
 rw [Z6,zp,v0,bOk,Z7,bOk,at0,bOk,Z7,bOk,eqS]; rfl
theorem JX {a b:T} {r:List T} {ρ:En}:zf ixT (vE 0) (cE (.int 1)) (.vl (.tup (a :: b :: r)) :: ρ)= .ok b:=by
 rw [zp,v0,bOk,Z7,bOk,at1]
theorem UJ {a b c:T} {r:List T} {ρ:En}:zf ixT (vE 0) (cE (.int 2)) (.vl (.tup (a :: b :: c :: r)) :: ρ)= .ok c:=by
 rw [zp,v0,bOk,Z7,bOk,at2]
theorem XH {a b c d:T} {r:List T} {ρ:En}:zf ixT (vE 0) (cE (.int 3)) (.vl (.tup (a :: b :: c :: d :: r)) :: ρ)= .ok d:=by
 rw [zp,v0,bOk,Z7,bOk,at3]
theorem Y9 {f:En->R T} {ρ:En} {i:Int} (h:f ρ= .ok (.int i)):zf zw f (cE (.int 1)) ρ= .ok (.int (i+1)):=by
 rw [zp,h,bOk,Z7,bOk,Zj]
theorem ug {f g:En->R T} {ρ:En} {i j:Int} (hf:f ρ= .ok (.int i)) (hg:g ρ= .ok (.int j)) (h: -1000000 < i/\i < 1000000/\ -1000000 < j/\j < 1000000):Jn f g ρ= .ok (rng i (j - i).toNat):=by
 unfold Jn
 rw [hf,bOk,hg,bOk]
 exact if_pos h
theorem Ya:∀ (cs:List (Str×Int)) (x y:Sl),zM (Za 0 1) Z2 (vE 0) (cs.map Ji) [x,y]= .ok (cs.map fun c=>T.str c.1)
 | [],_,_=>rfl
 | c :: cs,x,y=>by
  have e:zM (Za 0 1) Z2 (vE 0) ((c :: cs).map Ji) [x,y]=(zM (Za 0 1) Z2 (vE 0) (cs.map Ji) [.vl (.str c.1), .vl (.int c.2)]).bind fun vs=> .ok (.str c.1 :: vs):=rfl
  rw [e,Ya cs]; rfl
theorem Yb {x:T} {m:Nat} (h:m<=3):Z1 (.lst [x]) (.int (m:Int))= .ok (.lst (List.replicate m [x]).flatten):=by
 unfold Z1
 dsimp only
 have c:0<=(m:Int)/\(m:Int) < 1000000/\[x].length*(m:Int).toNat<=bnd:=by
  have hb:3<=bnd:=by decide
  refine ⟨by omega,by omega, ?_⟩
  rw [List.length_singleton,Int.toNat_natCast,Nat.one_mul]
  exact Nat.le_trans h hb
 rw [if_pos c,Int.toNat_natCast]
theorem Jw {α:Type} (x:α):∀ m:Nat,(List.replicate m [x]).flatten=List.replicate m x
 | 0=>rfl
 | m+1=>by rw [List.replicate_succ,List.replicate_succ,List.flatten_cons,Jw x m]; rfl
abbrev wb (ca cr:List T->R T):En->RS:=YW 1 (zc 1 cr (z9 (zf Z1 (J0 (z9 (zc 1 ca (z9 (zf ixT (vE 0) (cE (.int 1))) (zj))) (zj))) (vE 2)) (zj)))
theorem XI {f:En->R T} {ρ:En} {x:T} (hf:f ρ= .ok x):J0 (z9 f zj) ρ= .ok (.lst [x]):=by
 unfold J0 z9 zj
 rw [hf]; rfl
theorem WG {ca:List T->R T} {k:Kd} {t:T} {lo:Nat} {ws:List T} (hw:ca [t]= .ok (.lst ws)) (hpos:1<=ws.length) {a b c:T}:∀ (js:List Nat) (acc:List T) (x:Sl),(∀ j∈js,lo+j<=3)->acc.length+(js.map fun j=>ws.length ^ (lo+j)).sum<=bnd->
  ∃ y,ZC (zG 2) (wb ca f_b) (js.map fun (j:Nat)=>T.int ((lo:Int)+(j:Int))) [.vl (.tup [a,t,b,c]), .ow acc,x]= .nx [.vl (.tup [a,t,b,c]), .ow (acc++js.flatMap fun j=>WC (List.replicate (lo+j) ws)),y]
 | [],acc,x,_,_=>⟨x,by simp [ZC]⟩
 | j :: js,acc,x,hj,hb=>by
  have hj1:=hj j List.mem_cons_self
  have hb1:bnd=16777216:=rfl
  rw [List.map_cons,List.sum_cons] at hb
  have er:f_b [.lst ((List.replicate (lo+j) ws).map T.lst)]= .ok (.lst (WC (List.replicate (lo+j) ws))):=Y7 _ (by rw [List.length_replicate]; omega) (fun l hl=>by rw [List.eq_of_mem_replicate hl]; exact hpos) (by rw [List.map_replicate,jy]; omega)
  have hlen:(WC (List.replicate (lo+j) ws)).length=ws.length ^ (lo+j):=by rw [Jv,List.map_replicate,jy]
  have em:Z1 (.lst [.lst ws]) (.int ((lo:Int)+(j:Int)))= .ok (.lst ((List.replicate (lo+j) ws).map T.lst)):=by
   have e1:(lo:Int)+(j:Int)=((lo+j:Nat):Int):=by omega
   rw [e1,Yb (by omega),Jw,List.map_replicate]
  have eb:wb ca f_b [.vl (.tup [a,t,b,c]), .ow acc, .vl (.int ((lo:Int)+(j:Int)))]= .nx [.vl (.tup [a,t,b,c]), .ow (acc++WC (List.replicate (lo+j) ws)), .vl (.int ((lo:Int)+(j:Int)))]:=by
   have e1:zc 1 f_b (z9 (zf Z1 (J0 (z9 (zc 1 ca (z9 (zf ixT (vE 0) (cE (.int 1))) (zj))) (zj))) (vE 2)) (zj)) [.vl (.tup [a,t,b,c]), .ow acc, .vl (.int ((lo:Int)+(j:Int)))]= .ok (.lst (WC (List.replicate (lo+j) ws))):=by
    have e0:zc 1 ca (z9 (zf ixT (vE 0) (cE (.int 1))) (zj)) [.vl (.tup [a,t,b,c]), .ow acc, .vl (.int ((lo:Int)+(j:Int)))]= .ok (.lst ws):=by
     rw [zL,JX,bOk,hw]
    rw [zL,zp,XI e0,bOk,v2,bOk,em,bOk,er]
   show ((zc 1 f_b _ _).s fun t=>match t with | .lst us=>if acc.length+us.length<=bnd then RS.nx _ else .bad | _=> .bad)=_
   rw [e1,ZL]
   show (if _ then _ else _)=_
   rw [if_pos (by rw [hlen]; omega)]
   rfl
  obtain ⟨y,ih⟩:=WG (k:=k) hw hpos (a:=a) (b:=b) (c:=c) js (acc++WC (List.replicate (lo+j) ws)) (.vl (.int ((lo:Int)+(j:Int)))) (fun i hi=>hj i (List.mem_cons_of_mem _ hi)) (by rw [List.length_append,hlen]; omega)
  refine ⟨y, ?_⟩
  have e:ZC (zG 2) (wb ca f_b) ((j :: js).map fun (j:Nat)=>T.int ((lo:Int)+(j:Int))) [.vl (.tup [a,t,b,c]), .ow acc,x]=match wb ca f_b [.vl (.tup [a,t,b,c]), .ow acc, .vl (.int ((lo:Int)+(j:Int)))] with
   | .nx ρ2=>ZC (zG 2) (wb ca f_b) (js.map fun (j:Nat)=>T.int ((lo:Int)+(j:Int))) ρ2
   | .ct ρ2=>ZC (zG 2) (wb ca f_b) (js.map fun (j:Nat)=>T.int ((lo:Int)+(j:Int))) ρ2
   | .bk ρ2=> .nx ρ2
   | r=>r:=rfl
  rw [e,eb]
  dsimp only
  rw [ih,List.flatMap_cons,List.append_assoc]
theorem qX {ca:List T->R T} {a t:T} {lo hi:Nat} (h1:lo<=hi) (h2:hi<=3) {x:Sl} {acc:List T} {r:RS}
  (el:ZC (zG 2) (wb ca f_b) ((List.range (hi+1 - lo)).map fun (j:Nat)=>T.int ((lo:Int)+(j:Int))) [.vl (.tup [a,t, .int (lo:Int), .int (hi:Int)]), .ow acc,x]=r):
  jV (Jn (zf ixT (vE 0) (cE (.int 2))) (zf zw (zf ixT (vE 0) (cE (.int 3))) (cE (.int 1)))) (zG 2) (wb ca f_b) [.vl (.tup [a,t, .int (lo:Int), .int (hi:Int)]), .ow acc,x]=r:=by
 have hn:((hi:Int)+1 - (lo:Int)).toNat=hi+1 - lo:=by omega
 have hc: -1000000 < (lo:Int)/\(lo:Int) < 1000000/\ -1000000 < (hi:Int)+1/\(hi:Int)+1 < 1000000:=by omega
 have e:jV (Jn (zf ixT (vE 0) (cE (.int 2))) (zf zw (zf ixT (vE 0) (cE (.int 3))) (cE (.int 1)))) (zG 2) (wb ca f_b) [.vl (.tup [a,t, .int (lo:Int), .int (hi:Int)]), .ow acc,x]=(Jn (zf ixT (vE 0) (cE (.int 2))) (zf zw (zf ixT (vE 0) (cE (.int 3))) (cE (.int 1))) [.vl (.tup [a,t, .int (lo:Int), .int (hi:Int)]), .ow acc,x]).s fun ts=>ZC (zG 2) (wb ca f_b) ts [.vl (.tup [a,t, .int (lo:Int), .int (hi:Int)]), .ow acc,x]:=rfl
 rw [e,ug UJ (Y9 XH) hc,ZL,hn]
 exact el
theorem XJ {n L lo hi:Nat} (e:L=pw n lo hi) (h:L<=1000000):([]:List T).length+((List.range (hi+1 - lo)).map fun j=>n ^ (lo+j)).sum<=bnd:=by
 have h' :pw n lo hi<=bnd:=Nat.le_trans (e ▸ h) (by decide)
 unfold pw at h'
 rw [List.length_nil,Nat.zero_add]
 exact h'
theorem Yc {ca:List T->R T} (d:Nat) (lo hi:Int) (h:(Kd.whole lo hi).Ok (d+1)) (hl:(Kd.whole lo hi).all.length<=1000000) (H:∀ k' :Kd,k'.Ok d->ca [k'.t]= .ok (.lst k'.all)):zn (b_8 ca f_b (en0 3 [(Kd.whole lo hi).t]))= .ok (.lst (Kd.whole lo hi).all):=by
 have hb1:bnd=16777216:=rfl
 have e:zn (b_8 ca f_b (en0 3 [(Kd.whole lo hi).t]))=zn (b_8 ca f_b [.vl (Kd.whole lo hi).t, .un, .un]):=rfl
 rw [e,b_8,Zd,jc]
 obtain ⟨h1,h2,h3⟩:=h
 simp only [Kd.t]
 rw [cs0,ZL,show (("whole":Str) == "whole")=true from rfl,if_pos rfl,Zv,jw,wa,wa,jH]
 unfold kA
 rw [ug JX (Y9 UJ) ⟨by omega,by omega,by omega,by omega⟩]
 rw [Kd.all]
 rfl
theorem qY {ca:List T->R T} (d:Nat) (cs:List (Str×Int)) (h:(Kd.pick cs).Ok (d+1)) (hl:(Kd.pick cs).all.length<=1000000) (H:∀ k' :Kd,k'.Ok d->ca [k'.t]= .ok (.lst k'.all)):zn (b_8 ca f_b (en0 3 [(Kd.pick cs).t]))= .ok (.lst (Kd.pick cs).all):=by
 have hb1:bnd=16777216:=rfl
 have e:zn (b_8 ca f_b (en0 3 [(Kd.pick cs).t]))=zn (b_8 ca f_b [.vl (Kd.pick cs).t, .un, .un]):=rfl
 rw [e,b_8,Zd,jc]
 simp only [Kd.t]
 rw [cs0,ZL,show (("pick":Str) == "whole")=false from rfl,if_neg Bool.false_ne_true,wv]
 dsimp only
 rw [Zd,jc,cs0,ZL,show (("pick":Str) == "pick")=true from rfl,if_pos rfl,Zv,jw,wa,wa,jH,Zi,jx,JX,bOk]
 have hc:cs.length<=4:=h.2.1
 have ec:zS (Za 0 1) Z2 (vE 0) 2 [] [.vl (.tup [.str "pick", .tup (cs.map Ji)]), .un, .un] (cs.map Ji)= .ok (cs.map fun c=>T.str c.1):=by
  unfold zS
  rw [if_pos (by rw [List.length_map]; omega)]
  show quiet (zM (Za 0 1) Z2 (vE 0) (cs.map Ji) [.un, .un])=_
  rw [Ya]; rfl
 show zn (match ((((R.ok (cs.map Ji)).bind fun ts=>(zS (Za 0 1) Z2 (vE 0) 2 [] [.vl (.tup [.str "pick", .tup (cs.map Ji)]), .un, .un] ts).bind fun vs=> .ok (.lst vs))).s fun t=> .rt t) with | .nx ρ' =>_ | r=>r)=_
 rw [bOk,ec]
 rw [Kd.all]
 rfl
theorem VA {ca:List T->R T} (d:Nat) (ks:List Kd) (h:(Kd.row ks).Ok (d+1)) (hl:(Kd.row ks).all.length<=1000000) (H:∀ k' :Kd,k'.Ok d->ca [k'.t]= .ok (.lst k'.all)):zn (b_8 ca f_b (en0 3 [(Kd.row ks).t]))= .ok (.lst (Kd.row ks).all):=by
 have hb1:bnd=16777216:=rfl
 have e:zn (b_8 ca f_b (en0 3 [(Kd.row ks).t]))=zn (b_8 ca f_b [.vl (Kd.row ks).t, .un, .un]):=rfl
 rw [e,b_8,Zd,jc]
 obtain ⟨h1,h2,h3⟩:=h
 simp only [Kd.t]
 rw [cs0,ZL,show (("row":Str) == "whole")=false from rfl,if_neg Bool.false_ne_true,wv]
 dsimp only
 rw [Zd,jc,cs0,ZL,show (("row":Str) == "pick")=false from rfl,if_neg Bool.false_ne_true,wv]
 dsimp only
 rw [Zd,jc,cs0,ZL,show (("row":Str) == "row")=true from rfl,if_pos rfl,Zv,jw,wa,wa,jH,zL,Zi,jx,JX,bOk,Kd.ts_map]
 have ec:zS (zG 0) Z2 (zc 1 ca (z9 (vE 0) (zj))) 1 [] [.vl (.tup [.str "row", .tup (ks.map Kd.t)]), .un, .un] (ks.map Kd.t)= .ok ((ks.map Kd.all).map T.lst):=by
  unfold zS
  rw [if_pos (by rw [List.length_map]; omega)]
  show quiet (zM (zG 0) Z2 _ (ks.map Kd.t) [.un])=_
  have:∀ (ks:List Kd) (x:Sl),(∀ k∈ks,k.Ok d)->zM (zG 0) Z2 (zc 1 ca (z9 (vE 0) (zj))) (ks.map Kd.t) [x]= .ok ((ks.map Kd.all).map T.lst):=by
   intro ks
   induction ks with
   | nil=>intro _ _; rfl
   | cons k ks ih=>
    intro x hk
    have e1:zM (zG 0) Z2 (zc 1 ca (z9 (vE 0) (zj))) ((k :: ks).map Kd.t) [x]=(zc 1 ca (z9 (vE 0) (zj)) [.vl k.t]).bind fun v=>(zM (zG 0) Z2 (zc 1 ca (z9 (vE 0) (zj))) (ks.map Kd.t) [.vl k.t]).bind fun vs=> .ok (v :: vs):=rfl
    rw [e1,zL,v0,bOk,H k (hk k List.mem_cons_self),bOk,ih _ fun k' hk' =>hk k' (List.mem_cons_of_mem _ hk')]
    rfl
  rw [this ks .un h3]; rfl
 have hrow:=Ja ks
 have er:f_b [.lst ((ks.map Kd.all).map T.lst)]= .ok (.lst (WC (ks.map Kd.all))):=Y7 _ (by rw [List.length_map]; omega) (fun l hl=>by
  obtain ⟨k,hk,rfl⟩:=List.mem_map.mp hl
  exact ZX d k (h3 k hk)) (by
  rw [List.map_map]
  show prd (ks.map fun k=>k.all.length)<=bnd
  omega)
 show zn (match ((((R.ok (ks.map Kd.t)).bind fun ts=>(zS (zG 0) Z2 (zc 1 ca (z9 (vE 0) (zj))) 1 [] [.vl (.tup [.str "row", .tup (ks.map Kd.t)]), .un, .un] ts).bind fun vs=> .ok (.lst vs)).bind fun x=>f_b [x]).s fun t=> .rt t) with | .nx ρ' =>_ | r=>r)=_
 rw [bOk,ec,bOk,bOk,er,Kd.all,Kd.alls_map]
 rfl
theorem qZ {ca:List T->R T} (d:Nat) (k:Kd) (lo hi:Nat) (h:(Kd.many k lo hi).Ok (d+1)) (hl:(Kd.many k lo hi).all.length<=1000000) (H:∀ k' :Kd,k'.Ok d->ca [k'.t]= .ok (.lst k'.all)):zn (b_8 ca f_b (en0 3 [(Kd.many k lo hi).t]))= .ok (.lst (Kd.many k lo hi).all):=by
 have hb1:bnd=16777216:=rfl
 have e:zn (b_8 ca f_b (en0 3 [(Kd.many k lo hi).t]))=zn (b_8 ca f_b [.vl (Kd.many k lo hi).t, .un, .un]):=rfl
 rw [e,b_8,Zd,jc]
 obtain ⟨h1,h2,h3⟩:=h
 have hml:=jE k lo hi
 simp only [Kd.t]
 rw [cs0,ZL,show (("many":Str) == "whole")=false from rfl,if_neg Bool.false_ne_true,wv]
 dsimp only
 rw [Zd,jc,cs0,ZL,show (("many":Str) == "pick")=false from rfl,if_neg Bool.false_ne_true,wv]
 dsimp only
 rw [Zd,jc,cs0,ZL,show (("many":Str) == "row")=false from rfl,if_neg Bool.false_ne_true,wv]
 dsimp only
 have e0:uF 1 (zj) [.vl (.tup [.str "many",k.t, .int (lo:Int), .int (hi:Int)]), .un, .un]= .nx [.vl (.tup [.str "many",k.t, .int (lo:Int), .int (hi:Int)]), .ow [], .un]:=rfl
 rw [Zd,e0]
 dsimp only
 obtain ⟨y,el⟩:=WG (k:=k) (lo:=lo) (H k h3) (ZX d k h3) (a:= .str "many") (b:= .int (lo:Int)) (c:= .int (hi:Int)) (List.range (hi+1 - lo)) [] .un (fun j hj=>by have:=List.mem_range.mp hj; omega) (XJ hml hl)
 have e1:=qX (ca:=ca) (t:=k.t) h1 h2 el
 rw [List.nil_append] at e1
 rw [zg e1,Kd.all]
 rfl
theorem Q0 {ca:List T->R T} (d:Nat) (k:Kd) (h:k.Ok (d+1)) (hl:k.all.length<=1000000) (H:∀ k' :Kd,k'.Ok d->ca [k'.t]= .ok (.lst k'.all)):zn (b_8 ca f_b (en0 3 [k.t]))= .ok (.lst k.all):=by
 cases k with
 | whole lo hi=>exact Yc d lo hi h hl H
 | pick cs=>exact qY d cs h hl H
 | row ks=>exact VA d ks h hl H
 | many k lo hi=>exact qZ d k lo hi h hl H
theorem QK:∀ (d n:Nat),d<=n->d<=3->∀ k:Kd,k.Ok d->k.all.length<=1000000->S_8 n 0 [k.t]= .ok (.lst k.all)
 | 0,_,_,_,_,h,_=>h.elim
 | d+1,0,hn,_,_,_,_=>by omega
 | d+1,n+1,hn,hd,k,h,hl=>by
  have e:S_8 (n+1) 0 [k.t]=zn (b_8 (S_8 n 0) f_b (en0 3 [k.t])):=rfl
  rw [e]
  refine Q0 d k h hl fun k' hk' =>QK d n (by omega) (by omega) k' hk' ?_
  have h1:=jL d k' hk'
  have:mx d<=1000000:=by
   have:d=0\/d=1\/d=2:=by omega
   rcases this with rfl | rfl | rfl <;> decide
  omega
theorem in2 {x a b:Str} {r:List T} {ρ:En}:zB inC (zf ixT (vE 0) (cE (.int 0))) (Zy (z9 (cE (.str a)) (z9 (cE (.str b)) (zj)))) (.vl (.tup (.str x :: r)) :: ρ)=inC (.str x) (.tup [.str a, .str b]):=by
 rw [Z6,zp,v0,bOk,Z7,bOk,at0,bOk,Y5 Z7 Z7,bOk]
theorem jg {g:En->R Bool} {f1 f2:En->RS} {ρ:En} (h:g ρ= .ok true):ifS g f1 f2 ρ=f1 ρ:=by rw [jc,h,ZL,if_pos rfl]
theorem GK {g:En->R Bool} {f1 f2:En->RS} {ρ:En} (h:g ρ= .ok false):ifS g f1 f2 ρ=f2 ρ:=by rw [jc,h,ZL,if_neg Bool.false_ne_true]
theorem zv {g:En->R Bool} {f1:En->RS} {ρ:En} (h:g ρ= .ok false):ifS g f1 nxS ρ= .nx ρ:=by rw [GK h]; rfl
theorem Z3 {i:Nat} {f:En->R T} {ρ:En} {t:T} (h:f ρ= .ok t):zT i f ρ= .nx (ρ.set i (.vl t)):=by rw [Jg,h,ZL]
theorem zr {f:En->R T} {ρ:En} {t:T} (h:f (frz ρ)= .ok t):zI f ρ= .rt t:=by rw [Zv,h,ZL]
theorem Jj {g:T->En->R En} {fb:En->RS} {t:T} {ts:List T} {ρ ρ1 ρ2:En} (hg:g t ρ= .ok ρ1) (hb:fb ρ1= .nx ρ2):ZC g fb (t :: ts) ρ=ZC g fb ts ρ2:=by
 rw [ZC,hg]
 dsimp only
 rw [hb]
theorem zJ {f g:En->RS} {ρ:En} {t:T} (h:f ρ= .rt t):zx f g ρ= .rt t:=by rw [Zd,h]
theorem Yd {i j:Nat} (h:i < 2 ^ 60):Z1 (.int (i:Int)) (.int (j:Int))= .ok (.int ((i*j:Nat):Int)):=by
 rw [UH _ _ (.inl ⟨by omega,by omega⟩),Int.natCast_mul]
theorem XL {d n:Nat} (h:n<=mx d) (hd:d<=3):n < 2 ^ 60:=by
 have:d=0\/d=1\/d=2\/d=3:=by omega
 have h3:mx 3 < 2 ^ 60:=by decide
 have h2:mx 2 < 2 ^ 60:=by decide
 have h1:mx 1 < 2 ^ 60:=by decide
 have h0:mx 0 < 2 ^ 60:=by decide
 rcases this with rfl | rfl | rfl | rfl <;> omega
theorem uV {a b:Sl}:∀ (ns:List Nat) (m:Nat) (x y:Sl),(∀ n∈ns,1<=n)->m*prd ns < 2 ^ 60->∃ x',ZC (zG 3) (zT 2 (zf Z1 (vE 2) (vE 3))) (ns.map fun (n:Nat)=>T.int (n:Int)) [a,b, .vl (.int (m:Int)),x,y]= .nx [a,b, .vl (.int ((m*prd ns:Nat):Int)),x',y]
 | [],m,x,y,_,_=>⟨x,by simp [ZC,prd]⟩
 | n :: ns,m,x,y,hp,hb=>by
  have hpr:=JP (ns:=ns) fun k hk=>hp k (List.mem_cons_of_mem _ hk)
  have hn:=hp n List.mem_cons_self
  have hmm:m<=m*prd (n :: ns):=Nat.le_mul_of_pos_right _ (Nat.mul_pos hn hpr)
  have hb2:m < 2 ^ 60:=Nat.lt_of_le_of_lt hmm hb
  rw [prd,← Nat.mul_assoc] at hb
  obtain ⟨x',ih⟩:=uV (a:=a) (b:=b) ns (m*n) (.vl (.int (n:Int))) y (fun k hk=>hp k (List.mem_cons_of_mem _ hk)) hb
  refine ⟨x', ?_⟩
  have es:zT 2 (zf Z1 (vE 2) (vE 3)) [a,b, .vl (.int (m:Int)), .vl (.int (n:Int)),y]= .nx [a,b, .vl (.int ((m*n:Nat):Int)), .vl (.int (n:Int)),y]:=by
   rw [Jg,zp,v2,bOk,v3,bOk,Yd hb2,ZL]; rfl
  have s3:zG 3 (T.int (n:Int)) [a,b, .vl (.int (m:Int)),x,y]= .ok [a,b, .vl (.int (m:Int)), .vl (.int (n:Int)),y]:=rfl
  rw [List.map_cons,Jj s3 es,prd,← Nat.mul_assoc]
  exact ih
theorem Q1:∀ (d:Nat) (lo hi:Int),(Kd.whole lo hi).Ok (d+1)->(Kd.whole lo hi).Ok 1
 | _,_,_,h=>h
theorem Q2:∀ (d:Nat) (cs:List (Str×Int)),(Kd.pick cs).Ok (d+1)->(Kd.pick cs).Ok 1
 | _,_,h=>h
theorem WH {cs:List T->R T} (k:Kd) (h:k.Ok 1) {x:Str} {r:List T} (ht:k.t= .tup (.str x :: r)) (hx:inC (.str x) (.tup [.str "whole", .str "pick"])= .ok true):zn (b_9 (f_8 8) cs (en0 5 [k.t]))= .ok (.int (k.all.length:Int)):=by
 have ha:f_8 8 [k.t]= .ok (.lst k.all):=QK 1 8 (by omega) (by omega) k h (Nat.le_trans (jL 1 k h) (by decide))
 have e:zn (b_9 (f_8 8) cs (en0 5 [k.t]))=zn (b_9 (f_8 8) cs [.vl k.t, .un, .un, .un, .un]):=rfl
 have e1:zB inC (zf ixT (vE 0) (cE (.int 0))) (Zy (z9 (cE (.str "whole")) (z9 (cE (.str "pick")) (zj)))) [.vl k.t, .un, .un, .un, .un]= .ok true:=by
  rw [ht,in2,hx]
 have e2:zI (ap1 ZO (zc 1 (f_8 8) (z9 (vE 0) (zj)))) [.vl k.t, .un, .un, .un, .un]= .rt (.int (k.all.length:Int)):=by
  refine zr ?_
  rw [jw,j7,zL,v0,bOk,ha,bOk,Xv]
 rw [e,b_9,zJ (by rw [jg e1,e2])]
 rfl
theorem gr (b:Bool):b2 b=(iv b:Int):=by cases b <;> rfl
theorem Q3 {cs:List T->R T} {d:Nat} (hd:d+1<=3) (ks:List Kd) (h:(Kd.row ks).Ok (d+1)) (H:∀ k:Kd,k.Ok d->cs [k.t]= .ok (.int (k.all.length:Int))):zn (b_9 (f_8 8) cs (en0 5 [(Kd.row ks).t]))= .ok (.int ((Kd.row ks).all.length:Int)):=by
 have hlt:=XL (jL (d+1) (.row ks) h) hd
 rw [Ja] at hlt ⊢
 obtain ⟨h1,h2,h3⟩:=h
 simp only [Kd.t,Kd.ts_map]
 have e:zn (b_9 (f_8 8) cs (en0 5 [.tup [.str "row", .tup (ks.map Kd.t)]]))=zn (b_9 (f_8 8) cs [.vl (.tup [.str "row", .tup (ks.map Kd.t)]), .un, .un, .un, .un]):=rfl
 have e1:zB inC (zf ixT (vE 0) (cE (.int 0))) (Zy (z9 (cE (.str "whole")) (z9 (cE (.str "pick")) (zj)))) [.vl (.tup [.str "row", .tup (ks.map Kd.t)]), .un, .un, .un, .un]= .ok false:=by
  rw [in2]; rfl
 have ec:zS (zG 0) Z2 (zc 1 cs (z9 (vE 0) (zj))) 1 [] [.vl (.tup [.str "row", .tup (ks.map Kd.t)]), .un, .un, .un, .un] (ks.map Kd.t)= .ok ((ks.map fun k=>k.all.length).map fun (n:Nat)=>T.int (n:Int)):=by
  unfold zS
  rw [if_pos (by rw [List.length_map]; exact Nat.le_trans h2 (by decide))]
  have:∀ (ks:List Kd) (x:Sl),(∀ k∈ks,k.Ok d)->zM (zG 0) Z2 (zc 1 cs (z9 (vE 0) (zj))) (ks.map Kd.t) [x]= .ok ((ks.map fun k=>k.all.length).map fun (n:Nat)=>T.int (n:Int)):=by
   intro ks
   induction ks with
   | nil=>intro _ _; rfl
   | cons k ks ih=>
    intro x hk
    have e1:zM (zG 0) Z2 (zc 1 cs (z9 (vE 0) (zj))) ((k :: ks).map Kd.t) [x]=(zc 1 cs (z9 (vE 0) (zj)) [.vl k.t]).bind fun v=>(zM (zG 0) Z2 (zc 1 cs (z9 (vE 0) (zj))) (ks.map Kd.t) [.vl k.t]).bind fun vs=> .ok (v :: vs):=rfl
    rw [e1,zL,v0,bOk,H k (hk k List.mem_cons_self),bOk,ih _ fun k' hk' =>hk k' (List.mem_cons_of_mem _ hk')]
    rfl
  show quiet (zM (zG 0) Z2 _ (ks.map Kd.t) [.un])=_
  rw [this ks .un h3]; rfl
 have e2:ifE (zB eqC (zf ixT (vE 0) (cE (.int 0))) (cE (.str "row"))) (zY (j6 (zf ixT (vE 0) (cE (.int 1)))) (zG 0) (Z2) (zc 1 cs (z9 (vE 0) (zj))) 1 []) (J0 (zj)) [.vl (.tup [.str "row", .tup (ks.map Kd.t)]), .un, .un, .un, .un]= .ok (.lst ((ks.map fun k=>k.all.length).map fun (n:Nat)=>T.int (n:Int))):=by
  unfold ifE
  rw [cs0,bOk,show (("row":Str) == "row")=true from rfl,if_pos rfl,Zi,jx,JX,bOk]
  show ((R.ok (ks.map Kd.t)).bind _)=_
  rw [bOk,ec,bOk]
 obtain ⟨x',el⟩:=uV (a:= .vl (.tup [.str "row", .tup (ks.map Kd.t)])) (b:= .vl (.lst ((ks.map fun k=>k.all.length).map fun (n:Nat)=>T.int (n:Int)))) (ks.map fun k=>k.all.length) 1 .un .un (fun n hn=>by
  obtain ⟨k,hk,rfl⟩:=List.mem_map.mp hn
  exact ZX d k (h3 k hk)) (by rw [Nat.one_mul]; exact hlt)
 rw [Nat.one_mul] at el
 have e3:jV (j6 (vE 1)) (zG 3) (zT 2 (zf Z1 (vE 2) (vE 3))) [.vl (.tup [.str "row", .tup (ks.map Kd.t)]), .vl (.lst ((ks.map fun k=>k.all.length).map fun (n:Nat)=>T.int (n:Int))), .vl (.int 1), .un, .un]=_:=el
 have e4:zB eqC (zf ixT (vE 0) (cE (.int 0))) (cE (.str "many")) [.vl (.tup [.str "row", .tup (ks.map Kd.t)]), .vl (.lst ((ks.map fun k=>k.all.length).map fun (n:Nat)=>T.int (n:Int))), .vl (.int ((prd (ks.map fun k=>k.all.length):Nat):Int)),x', .un]= .ok false:=by
  rw [cs0]; rfl
 rw [e,b_9,zg (zv e1),zg (Z3 e2)]
 have s1:([.vl (.tup [.str "row", .tup (ks.map Kd.t)]), .un, .un, .un, .un]:En).set 1 (.vl (.lst ((ks.map fun k=>k.all.length).map fun (n:Nat)=>T.int (n:Int))))=[.vl (.tup [.str "row", .tup (ks.map Kd.t)]), .vl (.lst ((ks.map fun k=>k.all.length).map fun (n:Nat)=>T.int (n:Int))), .un, .un, .un]:=rfl
 rw [s1,zg (Z3 Z7)]
 have s2:([.vl (.tup [.str "row", .tup (ks.map Kd.t)]), .vl (.lst ((ks.map fun k=>k.all.length).map fun (n:Nat)=>T.int (n:Int))), .un, .un, .un]:En).set 2 (.vl (.int 1))=[.vl (.tup [.str "row", .tup (ks.map Kd.t)]), .vl (.lst ((ks.map fun k=>k.all.length).map fun (n:Nat)=>T.int (n:Int))), .vl (.int 1), .un, .un]:=rfl
 rw [s2,zg e3,zg (zv e4)]
 rfl
theorem XM {f g:En->R T} {ρ:En} {i j c:Int} (hf:f ρ= .ok (.int i)) (hg:g ρ= .ok (.int j)):chE leC leC f (cE (.int c)) g ρ= .ok (.bl (decide (i<=c) && decide (c<=j))):=by
 rw [qW,hf,bOk,Z7,bOk,ua,bOk,hg]
 cases decide (i<=c) <;> rfl
theorem ww (a b:Nat):decide ((a:Int)<=(b:Int))=decide (a<=b):=by
 by_cases h:a<=b
 ·rw [decide_eq_true h]; exact decide_eq_true (by omega)
 ·rw [decide_eq_false h]; exact decide_eq_false (by omega)
theorem Ye (a b:Nat):((a:Int) == (b:Int))=(a == b):=by
 by_cases h:a=b
 ·subst h; simp
 ·rw [beq_eq_false_iff_ne.mpr h,beq_eq_false_iff_ne]; omega
theorem K3 {f:En->R T} {ρ:En} {b:Bool} (h:f ρ= .ok (.bl b)):ap1 W7 f ρ= .ok (.int ((iv b:Nat):Int)):=by
 rw [j7,h,bOk]
 show R.ok (T.int (b2 b))=_
 rw [gr]
theorem Yf {f g:En->R T} {ρ:En} {i j:Nat} (hf:f ρ= .ok (.int (i:Int))) (hg:g ρ= .ok (.int (j:Int))):zf zw f g ρ= .ok (.int ((i+j:Nat):Int)):=by
 rw [zp,hf,bOk,hg,bOk,Zj,Int.natCast_add]
theorem Jb {f g:En->R T} {ρ:En} {i j:Nat} (h:i < 2 ^ 60) (hf:f ρ= .ok (.int (i:Int))) (hg:g ρ= .ok (.int (j:Int))):zf Z1 f g ρ= .ok (.int ((i*j:Nat):Int)):=by
 rw [zp,hf,bOk,hg,bOk,Yd h]
theorem VB {d n:Nat} (h:n<=mx d) (hd:d+1<=3) (h0:1<=d):n*n*n < 2 ^ 60/\n*n < 2 ^ 60/\n < 2 ^ 60:=by
 have h1:n<=70644:=by
  have:d=1\/d=2:=by omega
  have h2:mx 2=70644:=by decide
  have h1:mx 1=41:=by decide
  rcases this with rfl | rfl <;> omega
 have h2:n*n<=70644*70644:=Nat.mul_le_mul h1 h1
 have h3:n*n*n<=70644*70644*70644:=Nat.mul_le_mul h2 h1
 have h4:70644*70644*70644 < 2 ^ 60:=by decide
 have h5:70644*70644 < 2 ^ 60:=by decide
 have h6:70644 < 2 ^ 60:=by decide
 exact ⟨Nat.lt_of_le_of_lt h3 h4,Nat.lt_of_le_of_lt h2 h5,Nat.lt_of_le_of_lt h1 h6⟩
abbrev mt (t:T) (lo hi:Nat):T:= .tup [.str "many",t, .int (lo:Int), .int (hi:Int)]
theorem v4' {t:T} {a b c d:Sl} {ρ:En}:vE 4 (a :: b :: c :: d :: .vl t :: ρ)= .ok t:=rfl
theorem Yg {t:T} {a x:Sl} {lo hi n:Nat} (h3:n*n*n < 2 ^ 60) (h2:n*n < 2 ^ 60) (h1:n < 2 ^ 60):
  zx (zT 2 (zf zw (ap1 W7 (jh eqC (zf ixT (vE 0) (cE (.int 2))) (cE (.int 0)))) (zf Z1 (vE 4) (ap1 W7 (chE leC leC (zf ixT (vE 0) (cE (.int 2))) (cE (.int 1)) (zf ixT (vE 0) (cE (.int 3))))))))
  (zx (zT 2 (zf zw (vE 2) (zf Z1 (zf Z1 (vE 4) (vE 4)) (ap1 W7 (chE leC leC (zf ixT (vE 0) (cE (.int 2))) (cE (.int 2)) (zf ixT (vE 0) (cE (.int 3))))))))
  (zT 2 (zf zw (vE 2) (zf Z1 (zf Z1 (zf Z1 (vE 4) (vE 4)) (vE 4)) (ap1 W7 (jh eqC (zf ixT (vE 0) (cE (.int 3))) (cE (.int 3))))))))
  [.vl (mt t lo hi),a, .vl (.int 1),x, .vl (.int (n:Int))]= .nx [.vl (mt t lo hi),a, .vl (.int ((iv (lo == 0)+n*iv (decide (lo<=1) && decide (1<=hi))+n*n*iv (decide (lo<=2) && decide (2<=hi))+n*n*n*iv (hi == 3):Nat):Int)),x, .vl (.int (n:Int))]:=by
 have le1:∀ {p q r s:Sl},ap1 W7 (chE leC leC (zf ixT (vE 0) (cE (.int 2))) (cE (.int 1)) (zf ixT (vE 0) (cE (.int 3)))) [.vl (mt t lo hi),p,q,r,s]= .ok (.int ((iv (decide (lo<=1) && decide (1<=hi)):Nat):Int)):=fun {p q r s}=>K3 (by
  rw [XM (c:=1) UJ XH]
  rw [show decide ((lo:Int)<=1)=decide (lo<=1) from ww lo 1,show decide ((1:Int)<=(hi:Int))=decide (1<=hi) from ww 1 hi])
 have le2:∀ {p q r s:Sl},ap1 W7 (chE leC leC (zf ixT (vE 0) (cE (.int 2))) (cE (.int 2)) (zf ixT (vE 0) (cE (.int 3)))) [.vl (mt t lo hi),p,q,r,s]= .ok (.int ((iv (decide (lo<=2) && decide (2<=hi)):Nat):Int)):=fun {p q r s}=>K3 (by
  rw [XM (c:=2) UJ XH]
  rw [show decide ((lo:Int)<=2)=decide (lo<=2) from ww lo 2,show decide ((2:Int)<=(hi:Int))=decide (2<=hi) from ww 2 hi])
 have eq0:∀ {p q r s:Sl},ap1 W7 (jh eqC (zf ixT (vE 0) (cE (.int 2))) (cE (.int 0))) [.vl (mt t lo hi),p,q,r,s]= .ok (.int ((iv (lo == 0):Nat):Int)):=fun {p q r s}=>K3 (by
  rw [jP,UJ,bOk,Z7,bOk,eqI,bOk,show ((lo:Int) == 0)=(lo == 0) from Ye lo 0])
 have eq3:∀ {p q r s:Sl},ap1 W7 (jh eqC (zf ixT (vE 0) (cE (.int 3))) (cE (.int 3))) [.vl (mt t lo hi),p,q,r,s]= .ok (.int ((iv (hi == 3):Nat):Int)):=fun {p q r s}=>K3 (by
  rw [jP,XH,bOk,Z7,bOk,eqI,bOk,show ((hi:Int) == 3)=(hi == 3) from Ye hi 3])
 have a1:=Z3 (i:=2) (Yf (eq0 (p:=a) (q:= .vl (.int 1)) (r:=x) (s:= .vl (.int (n:Int)))) (Jb h1 v4' le1))
 have a1:zT 2 (zf zw (ap1 W7 (jh eqC (zf ixT (vE 0) (cE (.int 2))) (cE (.int 0)))) (zf Z1 (vE 4) (ap1 W7 (chE leC leC (zf ixT (vE 0) (cE (.int 2))) (cE (.int 1)) (zf ixT (vE 0) (cE (.int 3))))))) [.vl (mt t lo hi),a, .vl (.int 1),x, .vl (.int (n:Int))]= .nx [.vl (mt t lo hi),a, .vl (.int ((iv (lo == 0)+n*iv (decide (lo<=1) && decide (1<=hi)):Nat):Int)),x, .vl (.int (n:Int))]:=a1
 rw [zg a1]
 generalize iv (lo == 0)+n*iv (decide (lo<=1) && decide (1<=hi))=m1
 have a2:=Z3 (i:=2) (Yf (v2 (t:= .int (m1:Int)) (a:= .vl (mt t lo hi)) (b:=a) (ρ:=[x, .vl (.int (n:Int))])) (Jb h2 (Jb h1 v4' v4') le2))
 have a2:zT 2 (zf zw (vE 2) (zf Z1 (zf Z1 (vE 4) (vE 4)) (ap1 W7 (chE leC leC (zf ixT (vE 0) (cE (.int 2))) (cE (.int 2)) (zf ixT (vE 0) (cE (.int 3))))))) [.vl (mt t lo hi),a, .vl (.int (m1:Int)),x, .vl (.int (n:Int))]= .nx [.vl (mt t lo hi),a, .vl (.int ((m1+n*n*iv (decide (lo<=2) && decide (2<=hi)):Nat):Int)),x, .vl (.int (n:Int))]:=a2
 rw [zg a2]
 generalize m1+n*n*iv (decide (lo<=2) && decide (2<=hi))=m2
 have a3:=Z3 (i:=2) (Yf (v2 (t:= .int (m2:Int)) (a:= .vl (mt t lo hi)) (b:=a) (ρ:=[x, .vl (.int (n:Int))])) (Jb h3 (Jb h2 (Jb h1 v4' v4') v4') eq3))
 exact a3
theorem Yh {cs:List T->R T} {d:Nat} (hd:d+1<=3) (k:Kd) (lo hi:Nat) (h:(Kd.many k lo hi).Ok (d+1)) (H:∀ k:Kd,k.Ok d->cs [k.t]= .ok (.int (k.all.length:Int))):zn (b_9 (f_8 8) cs (en0 5 [(Kd.many k lo hi).t]))= .ok (.int ((Kd.many k lo hi).all.length:Int)):=by
 obtain ⟨h1,h2,h3⟩:=h
 have hd0:1<=d:=by
  cases d with
  | zero=>exact h3.elim
  | succ d=>omega
 obtain ⟨c3,c2,c1⟩:=VB (jL d k h3) hd hd0
 rw [jE,Vy _ h1 h2]
 simp only [Kd.t]
 have hk:=H k h3
 generalize k.all.length=n at*
 generalize k.t=t at*
 have e:zn (b_9 (f_8 8) cs (en0 5 [mt t lo hi]))=zn (b_9 (f_8 8) cs [.vl (mt t lo hi), .un, .un, .un, .un]):=rfl
 have e1:zB inC (zf ixT (vE 0) (cE (.int 0))) (Zy (z9 (cE (.str "whole")) (z9 (cE (.str "pick")) (zj)))) [.vl (mt t lo hi), .un, .un, .un, .un]= .ok false:=by
  rw [in2]; rfl
 have e2:ifE (zB eqC (zf ixT (vE 0) (cE (.int 0))) (cE (.str "row"))) (zY (j6 (zf ixT (vE 0) (cE (.int 1)))) (zG 0) (Z2) (zc 1 cs (z9 (vE 0) (zj))) 1 []) (J0 (zj)) [.vl (mt t lo hi), .un, .un, .un, .un]= .ok (.lst []):=by
  unfold ifE
  rw [cs0,bOk,show (("many":Str) == "row")=false from rfl,if_neg Bool.false_ne_true]
  rfl
 have s1:([.vl (mt t lo hi), .un, .un, .un, .un]:En).set 1 (.vl (.lst []))=[.vl (mt t lo hi), .vl (.lst []), .un, .un, .un]:=rfl
 have s2:([.vl (mt t lo hi), .vl (.lst []), .un, .un, .un]:En).set 2 (.vl (.int 1))=[.vl (mt t lo hi), .vl (.lst []), .vl (.int 1), .un, .un]:=rfl
 have e3:jV (j6 (vE 1)) (zG 3) (zT 2 (zf Z1 (vE 2) (vE 3))) [.vl (mt t lo hi), .vl (.lst []), .vl (.int 1), .un, .un]= .nx [.vl (mt t lo hi), .vl (.lst []), .vl (.int 1), .un, .un]:=rfl
 have e4:zB eqC (zf ixT (vE 0) (cE (.int 0))) (cE (.str "many")) [.vl (mt t lo hi), .vl (.lst []), .vl (.int 1), .un, .un]= .ok true:=by
  rw [cs0]; rfl
 have e5:zc 1 cs (z9 (zf ixT (vE 0) (cE (.int 1))) (zj)) [.vl (mt t lo hi), .vl (.lst []), .vl (.int 1), .un, .un]= .ok (.int (n:Int)):=by
  rw [zL,JX,bOk,hk]
 have s5:([.vl (mt t lo hi), .vl (.lst []), .vl (.int 1), .un, .un]:En).set 4 (.vl (.int (n:Int)))=[.vl (mt t lo hi), .vl (.lst []), .vl (.int 1), .un, .vl (.int (n:Int))]:=rfl
 have e6:=Yg (t:=t) (a:= .vl (.lst [])) (x:= .un) (lo:=lo) (hi:=hi) c3 c2 c1
 rw [e,b_9,zg (zv e1),zg (Z3 e2),s1,zg (Z3 Z7),s2,zg e3]
 have e7:∀ (P:En->RS),ifS (zB eqC (zf ixT (vE 0) (cE (.int 0))) (cE (.str "many"))) (zx (zT 4 (zc 1 cs (z9 (zf ixT (vE 0) (cE (.int 1))) (zj)))) P) nxS [.vl (mt t lo hi), .vl (.lst []), .vl (.int 1), .un, .un]=P [.vl (mt t lo hi), .vl (.lst []), .vl (.int 1), .un, .vl (.int (n:Int))]:=fun P=>by
  rw [jg e4,zg (Z3 e5),s5]
 rw [zg (Eq.trans (e7 _) e6)]
 rfl
theorem Yi:∀ (d n:Nat),d<=n->d<=3->∀ k:Kd,k.Ok d->S_9 n 0 [k.t]= .ok (.int (k.all.length:Int))
 | 0,_,_,_,_,h=>h.elim
 | d+1,0,hn,_,_,_=>by omega
 | d+1,n+1,hn,hd,k,h=>by
  have e:S_9 (n+1) 0 [k.t]=zn (b_9 (f_8 8) (S_9 n 0) (en0 5 [k.t])):=rfl
  rw [e]
  have H:∀ k:Kd,k.Ok d->S_9 n 0 [k.t]= .ok (.int (k.all.length:Int)):=fun k' hk' =>Yi d n (by omega) (by omega) k' hk'
  cases k with
  | whole lo hi=>exact WH (.whole lo hi) (Q1 d lo hi h) (x:="whole") (r:=[.int lo, .int hi]) (by simp only [Kd.t]) rfl
  | pick cs=>exact WH (.pick cs) (Q2 d cs h) (x:="pick") (r:=[.tup (cs.map Ji)]) (by simp only [Kd.t]) rfl
  | row ks=>exact Q3 (by omega) ks h H
  | many k lo hi=>exact Yh (by omega) k lo hi h H
theorem Ok.mono:∀ (d:Nat) (k:Kd),k.Ok d->k.Ok (d+1)
 | 0,_,h=>h.elim
 | d+1, .whole _ _,h=>h
 | d+1, .pick _,h=>h
 | d+1, .row ks,h=>⟨h.1,h.2.1,fun k hk=>Ok.mono d k (h.2.2 k hk)⟩
 | d+1, .many k _ _,h=>⟨h.1,h.2.1,Ok.mono d k h.2.2⟩
theorem VC (j:Int):Z1 (.int 700) (.int j)= .ok (.int (700*j)):=UH _ _ (.inl ⟨by decide,by decide⟩)
theorem XN (ns:List Int) (d:Nat) (h1:1<=d) (h8:d<=8) (k:Int) (h0:0<=k):∃ q:Kd,f_c 8 [scr ns, .int k, .int (d:Int)]= .ok q.t/\q.Ok d:=by
 obtain ⟨t,ht,hi⟩:=ud ns d 8 h8 h1 k h0
 obtain ⟨q,rfl,hq⟩:=uf d t hi
 exact ⟨q,ht,hq⟩
abbrev smB:En->RS:=zx (ifS (zB leC (zc 1 (f_9 8) (z9 (vE 3) (zj))) (vB 2)) (zI (vE 3)) (nxS))
  (zT 3 (zc 3 (f_c 8) (z9 (vE 0) (z9 (zf zw (zf zw (vE 1) (cE (.int 500))) (zf Z1 (cE (.int 700)) (vE 4))) (z9 (cE (.int 2)) (zj))))))
abbrev en5 (ns:List Int) (a:Int) (m:Nat) (k:Kd) (x:Sl):En:=[.vl (scr ns), .vl (.int a), .vl (.int (m:Int)), .vl k.t,x]
theorem Yj {ns:List Int} {a:Int} {m:Nat} {k:Kd} {x:Sl} (hk:k.Ok 3):zB leC (zc 1 (f_9 8) (z9 (vE 3) (zj))) (vB 2) (en5 ns a m k x)= .ok (decide (k.all.length<=m)):=by
 have e:f_9 8 [k.t]= .ok (.int (k.all.length:Int)):=Yi 3 8 (by omega) (by omega) k hk
 rw [Z6,zL,v3,bOk,e,bOk,w2,bOk,ua,ww]
theorem VD (ns:List Int) {a:Int} {m:Nat} (ha:0<=a) {k:Kd} (hk:k.Ok 3) (j:Nat):(k.all.length<=m/\smB (en5 ns a m k (.vl (.int (0+(j:Int)))))= .rt k.t)\/∃ k' :Kd,k'.Ok 3/\smB (en5 ns a m k (.vl (.int (0+(j:Int)))))= .nx (en5 ns a m k' (.vl (.int (0+(j:Int))))):=by
 by_cases h:k.all.length<=m
 ·refine .inl ⟨h, ?_⟩
  unfold smB
  refine zJ ?_
  rw [jg (by rw [Yj hk,decide_eq_true h])]
  exact zr rfl
 ·obtain ⟨q,hq,ho⟩:=XN ns 2 (by omega) (by omega) (a+500+700*(0+(j:Int))) (by omega)
  refine .inr ⟨q,Ok.mono 2 q ho, ?_⟩
  unfold smB
  rw [zg (zv (by rw [Yj hk,decide_eq_false h]))]
  have hq:f_c 8 [scr ns, .int (a+500+700*(0+(j:Int))), .int 2]= .ok q.t:=hq
  have e:zc 3 (f_c 8) (z9 (vE 0) (z9 (zf zw (zf zw (vE 1) (cE (.int 500))) (zf Z1 (cE (.int 700)) (vE 4))) (z9 (cE (.int 2)) (zj)))) (en5 ns a m k (.vl (.int (0+(j:Int)))))= .ok q.t:=by
   rw [Zz,v0,bOk,zp,zp,v1,bOk,Z7,bOk,Zj,bOk,zp,Z7,bOk,v4,bOk,VC,bOk,Zj,bOk,Z7,bOk,hq]
  rw [Z3 e]
  rfl
theorem XO {g:T->En->R En} {fb:En->RS} {t:T} {ts:List T} {ρ ρ1:En} {r:T} (hg:g t ρ= .ok ρ1) (hb:fb ρ1= .rt r):ZC g fb (t :: ts) ρ= .rt r:=by
 rw [ZC,hg]
 dsimp only
 rw [hb]
theorem Yk (ns:List Int) {a:Int} {m:Nat} (ha:0<=a):∀ (js:List Nat) (k:Kd) (x:Sl),k.Ok 3->(∃ k' :Kd,k'.Ok 3/\k'.all.length<=m/\ZC (zG 4) smB (js.map fun (j:Nat)=>T.int (0+(j:Int))) (en5 ns a m k x)= .rt k'.t)\/
  ∃ (k' :Kd) (x' :Sl),k'.Ok 3/\ZC (zG 4) smB (js.map fun (j:Nat)=>T.int (0+(j:Int))) (en5 ns a m k x)= .nx (en5 ns a m k' x')
 | [],k,x,hk=> .inr ⟨k,x,hk,rfl⟩
 | j :: js,k,x,hk=>by
  have s3:zG 4 (T.int (0+(j:Int))) (en5 ns a m k x)= .ok (en5 ns a m k (.vl (.int (0+(j:Int))))):=rfl
  rw [List.map_cons]
  rcases VD ns ha (m:=m) hk j with ⟨h1,h2⟩ | ⟨k',h1,h2⟩
  ·exact .inl ⟨k,hk,h1,XO s3 h2⟩
  ·rw [Jj s3 h2]
   exact Yk ns ha js k' _ h1
theorem Q4 (ns:List Int) (a:Int) (ha:0<=a) (m:Nat) (hm:4<=m):∃ k:Kd,k.Ok 3/\k.all.length<=m/\f_y [scr ns, .int a, .int (m:Int)]= .ok k.t:=by
 obtain ⟨q,hq,ho⟩:=XN ns 3 (by omega) (by omega) a ha
 have hq:f_c 8 [scr ns, .int a, .int 3]= .ok q.t:=hq
 have e:f_y [scr ns, .int a, .int (m:Int)]=zn (b_y (f_c 8) (f_9 8) [.vl (scr ns), .vl (.int a), .vl (.int (m:Int)), .un, .un]):=rfl
 have e1:zc 3 (f_c 8) (z9 (vE 0) (z9 (vE 1) (z9 (cE (.int 3)) (zj)))) [.vl (scr ns), .vl (.int a), .vl (.int (m:Int)), .un, .un]= .ok q.t:=by
  rw [Zz,v0,bOk,v1,bOk,Z7,bOk,hq]
 have s1:([.vl (scr ns), .vl (.int a), .vl (.int (m:Int)), .un, .un]:En).set 3 (.vl q.t)=en5 ns a m q .un:=rfl
 rw [e,b_y,zg (Z3 e1),s1]
 rcases Yk ns ha (m:=m) (List.range 3) q .un ho with ⟨k,h1,h2,h3⟩ | ⟨k,x,h1,h3⟩
 ·refine ⟨k,h1,h2, ?_⟩
  have e2:jV (ZY (cE (.int 3))) (zG 4) smB (en5 ns a m q .un)= .rt k.t:=h3
  rw [zJ e2]
  rfl
 ·have e2:jV (ZY (cE (.int 3))) (zG 4) smB (en5 ns a m q .un)= .nx (en5 ns a m k x):=h3
  rw [zg e2]
  have ec:zB leC (zc 1 (f_9 8) (z9 (vE 3) (zj))) (vB 2) (frz (en5 ns a m k x))= .ok (decide (k.all.length<=m)):=Yj (x:=GF x) h1
  by_cases h:k.all.length<=m
  ·refine ⟨k,h1,h, ?_⟩
   rw [zr (t:=k.t)]
   ·rfl
   ·unfold ifE
    rw [ec,bOk,decide_eq_true h,if_pos rfl]
    rfl
  ·refine ⟨.whole (-1) 2,⟨by omega,by omega,by omega⟩,by rw [jz]; exact hm, ?_⟩
   rw [zr (t:=(Kd.whole (-1) 2).t)]
   ·rfl
   ·unfold ifE
    rw [ec,bOk,decide_eq_false h,if_neg Bool.false_ne_true,Kd.t]
    rfl
mutual
def Kd.has:Kd->T->Bool
 | .whole lo hi=>fun t=>inR lo hi t
 | .pick cs=>fun t=>match t with | .str x=>cs.any fun c=>c.1 == x | _=>false
 | .row ks=>fun t=>match t with | .tup xs=>xs.length == ks.length && Kd.hass ks xs | _=>false
 | .many k lo hi=>fun t=>match t with | .tup xs=>decide (lo<=xs.length) && decide (xs.length<=hi) && xs.all k.has | _=>false
def Kd.hass:List Kd->List T->Bool
 | []=>fun _=>true
 | k :: ks=>fun xs=>match xs with | []=>true | x :: xs=>k.has x && Kd.hass ks xs
end
def UK:List (List T)->List T->Prop
 | [],[]=>True
 | l :: ls,x :: xs=>x∈l/\UK ls xs
 | _,_=>False
theorem JR:∀ (ls made:List (List T)) (xs:List T),xs∈ZR made ls↔∃ a∈made,∃ b,UK ls b/\xs=a++b
 | [],made,xs=>by
  rw [ZR]
  constructor
  ·exact fun h=>⟨xs,h,[],trivial,by simp⟩
  ·rintro ⟨a,ha,b,hb,rfl⟩
   cases b with
   | nil=>simpa using ha
   | cons=>exact hb.elim
 | l :: ls,made,xs=>by
  rw [ZR,JR ls]
  constructor
  ·rintro ⟨a',ha',b,hb,rfl⟩
   obtain ⟨a,ha,hx⟩:=List.mem_flatMap.mp ha'
   obtain ⟨x,hl,e⟩:=List.mem_map.mp hx
   exact ⟨a,ha,x :: b,⟨hl,hb⟩,by rw [← e]; simp⟩
  ·rintro ⟨a,ha,b,hb,rfl⟩
   cases b with
   | nil=>exact hb.elim
   | cons x b=>exact ⟨a++[x],List.mem_flatMap.mpr ⟨a,ha,List.mem_map.mpr ⟨x,hb.1,rfl⟩⟩,b,hb.2,by simp⟩
theorem wV (ls:List (List T)) (t:T):t∈WC ls↔∃ xs,UK ls xs/\t= .tup xs:=by
 unfold WC
 rw [List.mem_map]
 constructor
 ·rintro ⟨xs,h,rfl⟩
  obtain ⟨a,ha,b,hb,rfl⟩:=(JR ls [[]] xs).mp h
  rw [List.mem_singleton.mp ha]
  exact ⟨b,hb,rfl⟩
 ·rintro ⟨xs,h,rfl⟩
  exact ⟨xs,(JR ls [[]] xs).mpr ⟨[],List.mem_singleton.mpr rfl,xs,h,rfl⟩,rfl⟩
theorem wW (l:List T):∀ (m:Nat) (xs:List T),UK (List.replicate m l) xs↔xs.length=m/\∀ x∈xs,x∈l
 | 0,[]=>by simp [UK]
 | 0,x :: xs=>by simp [UK]
 | m+1,[]=>by simp [UK,List.replicate_succ]
 | m+1,x :: xs=>by
  rw [List.replicate_succ]
  show x∈l/\UK _ xs↔_
  rw [wW l m xs]
  simp
  constructor
  ·rintro ⟨a,b,c⟩; exact ⟨b,a,c⟩
  ·rintro ⟨a,b,c⟩; exact ⟨b,a,c⟩
theorem WI:∀ (ks:List Kd),(∀ k∈ks,∀ x,x∈k.all↔k.has x=true)->∀ xs,UK (ks.map Kd.all) xs↔(xs.length == ks.length && Kd.hass ks xs)=true
 | [],_,[]=>by simp [UK,Kd.hass]
 | [],_,x :: xs=>by simp [UK]
 | k :: ks,h,[]=>by simp [UK]
 | k :: ks,h,x :: xs=>by
  show x∈k.all/\UK (ks.map Kd.all) xs↔_
  rw [WI ks (fun k' hk' =>h k' (List.mem_cons_of_mem _ hk')) xs,h k List.mem_cons_self x]
  simp [Kd.hass]
  constructor
  ·rintro ⟨a,b,c⟩; exact ⟨b,a,c⟩
  ·rintro ⟨a,b,c⟩; exact ⟨b,a,c⟩
mutual
theorem wX:∀ (k:Kd) (x:T),x∈k.all↔k.has x=true
 | .whole lo hi,x=>by
  rw [Kd.all,Kd.has,List.mem_map]
  constructor
  ·rintro ⟨i,hi',rfl⟩
   rw [List.mem_range] at hi'
   simp [inR]; omega
  ·intro h
   obtain ⟨i,rfl⟩:=Vw h
   simp [inR] at h
   exact ⟨(i - lo).toNat,by rw [List.mem_range]; omega,by congr 1; omega⟩
 | .pick cs,x=>by
  rw [Kd.all,Kd.has,List.mem_map]
  constructor
  ·rintro ⟨c,hc,rfl⟩
   simp only [List.any_eq_true]
   exact ⟨c,hc,by simp⟩
  ·intro h
   dsimp only at h
   split at h
   ·rw [List.any_eq_true] at h
    obtain ⟨c,hc,e⟩:=h
    exact ⟨c,hc,by rw [eq_of_beq e]⟩
   ·cases h
 | .row ks,x=>by
  rw [Kd.all,Kd.has,wV,Kd.alls_map]
  have:=WI ks (uW ks)
  constructor
  ·rintro ⟨xs,h,rfl⟩
   exact (this xs).mp h
  ·intro h
   dsimp only at h
   split at h
   ·rename_i xs
    exact ⟨xs,(this xs).mpr h,rfl⟩
   ·cases h
 | .many k lo hi,x=>by
  rw [Kd.all,Kd.has,List.mem_flatMap]
  constructor
  ·rintro ⟨i,hi',h⟩
   rw [wV] at h
   obtain ⟨xs,h,rfl⟩:=h
   rw [wW] at h
   rw [List.mem_range] at hi'
   simp only [Bool.and_eq_true,decide_eq_true_eq,List.all_eq_true]
   exact ⟨⟨by omega,by omega⟩,fun y hy=>(wX k y).mp (h.2 y hy)⟩
  ·intro h
   dsimp only at h
   split at h
   ·rename_i xs
    simp only [Bool.and_eq_true,decide_eq_true_eq,List.all_eq_true] at h
    refine ⟨xs.length - lo,by rw [List.mem_range]; omega, ?_⟩
    rw [wV]
    exact ⟨xs,(wW _ _ _).mpr ⟨by omega,fun y hy=>(wX k y).mpr (h.2 y hy)⟩,rfl⟩
   ·cases h
theorem uW:∀ (ks:List Kd),∀ k∈ks,∀ x,x∈k.all↔k.has x=true
 | [],_,h=>nomatch h
 | k :: ks,k',h=>by
  rcases List.mem_cons.mp h with e | h
  ·intro x
   rw [e]
   exact wX k x
  ·exact uW ks k' h
end
theorem uX {α:Type} (p:α->Bool):∀ qs:List α,WT (qs.map fun q=>T.bl (p q))=some (qs.all p)
 | []=>rfl
 | q :: qs=>by
  have e:WT ((q :: qs).map fun q=>T.bl (p q))=match WT (qs.map fun q=>T.bl (p q)) with | some j=>some (p q && j) | none=>none:=rfl
  rw [e,uX p qs]
  rfl
theorem Q5 (cs:List (Str×Int)) (h:cs.length<=4):Xt [(Kd.pick cs).t]= .ok (.lst (cs.map fun c=>T.str c.1)):=by
 have e:Xt [(Kd.pick cs).t]=zn (kQ [.vl (.tup [.str "pick", .tup (cs.map Ji)])]):=by rw [Kd.t]; rfl
 have hb:(cs.map Ji).length<=bnd:=by rw [List.length_map]; exact Nat.le_trans h (by decide)
 have ec:zS (zG 0) Z2 (zf ixT (vE 0) (cE (.int 0))) 1 [] [.vl (.tup [.str "pick", .tup (cs.map Ji)])] (cs.map Ji)= .ok ((cs.map Ji).map fun c=>match c with | .tup (w :: _)=>w | _=>c):=
  Zp _ hb fun t ht=>by
   obtain ⟨c,_,rfl⟩:=List.mem_map.mp ht
   rfl
 rw [e,kQ,zr (t:= .lst (cs.map fun c=>T.str c.1))]
 ·rfl
 ·show zY _ _ _ _ _ _ [.vl (.tup [.str "pick", .tup (cs.map Ji)])]=_
  rw [Zi,jx,JX,bOk]
  show ((zS _ _ _ _ _ _ (cs.map Ji)).bind _)=_
  rw [ec,bOk,List.map_map]
  rfl
abbrev en2 (a b:T):En:=[.vl a, .vl b]
theorem xa {x w:Str} {r:List T} {b:T} (h:(x == w)=false) {f:En->RS}:ifS (zB eqC (zf ixT (vE 0) (cE (.int 0))) (cE (.str w))) f nxS (en2 (.tup (.str x :: r)) b)= .nx (en2 (.tup (.str x :: r)) b):=
 zv (by rw [cs0,h])
theorem gs {x:Str} {r:List T} {b:T} {f:En->RS}:ifS (zB eqC (zf ixT (vE 0) (cE (.int 0))) (cE (.str x))) f nxS (en2 (.tup (.str x :: r)) b)=f (en2 (.tup (.str x :: r)) b):=
 jg (by rw [cs0,beq_self_eq_true])
theorem Yl:∀ (d:Nat) (k:Kd),k.Ok d->isK d k.t=true
 | 0,_,h=>h.elim
 | d+1, .whole lo hi,h=>by
  have e:isK (d+1) (Kd.whole lo hi).t=(decide (-20<=lo) && decide (lo<=hi) && decide (hi<=20)):=by rw [Kd.t]; rfl
  obtain ⟨h1,h2,h3⟩:=h
  rw [e]; simp; omega
 | d+1, .pick cs,h=>by
  have e:isK (d+1) (Kd.pick cs).t=(decide (1<=(cs.map Ji).length) && decide ((cs.map Ji).length<=4) && (cs.map Ji).all zQ && decide ((dd [] ((cs.map Ji).map Zn)).length=(cs.map Ji).length)):=by rw [Kd.t]; rfl
  obtain ⟨h1,h2,h3,h4⟩:=h
  have e1:(cs.map Ji).map Zn=cs.map (·.1):=by rw [List.map_map]; rfl
  have e2:=(wR (cs.map (·.1)) []).mpr fun k w hw=>by simpa using h4 k w hw
  rw [e,e1,e2,List.length_map,List.length_map]
  simp only [Bool.and_eq_true,decide_eq_true_eq,List.all_eq_true]
  refine ⟨⟨⟨h1,h2⟩,fun c hc=> ?_⟩,by simp⟩
  obtain ⟨p,hp,rfl⟩:=List.mem_map.mp hc
  obtain ⟨a,b,c⟩:=h3 p hp
  show (Zm (.str p.1) && decide (1<=p.2) && decide (p.2<=20))=true
  rw [a]; simp; omega
 | d+1, .row ks,h=>by
  have e:isK (d+1) (Kd.row ks).t=(decide (1<=(ks.map Kd.t).length) && decide ((ks.map Kd.t).length<=3) && (ks.map Kd.t).all (isK d)):=by rw [Kd.t,Kd.ts_map]; rfl
  obtain ⟨h1,h2,h3⟩:=h
  rw [e,List.length_map]
  simp only [Bool.and_eq_true,decide_eq_true_eq,List.all_eq_true]
  refine ⟨⟨h1,h2⟩,fun c hc=> ?_⟩
  obtain ⟨k,hk,rfl⟩:=List.mem_map.mp hc
  exact Yl d k (h3 k hk)
 | d+1, .many k lo hi,h=>by
  have e:isK (d+1) (Kd.many k lo hi).t=((decide ((0:Int)<=(lo:Int)) && decide ((lo:Int)<=(hi:Int)) && decide ((hi:Int)<=3)) && isK d k.t):=by rw [Kd.t]; rfl
  obtain ⟨h1,h2,h3⟩:=h
  rw [e,Yl d k h3]; simp; omega
theorem uY:∀ (ks:List Kd) (xs:List T),xs.length=ks.length->Kd.hass ks xs=true->∀ x∈xs,∃ k∈ks,k.has x=true
 | [],[],_,_,_,h=>nomatch h
 | k :: ks,[],h,_,_,_=>by cases h
 | [],x :: xs,h,_,_,_=>by cases h
 | k :: ks,x :: xs,hl,h,y,hy=>by
  rw [Kd.hass] at h
  have h:(k.has x && Kd.hass ks xs)=true:=h
  rw [Bool.and_eq_true] at h
  rcases List.mem_cons.mp hy with rfl | hy
  ·exact ⟨k,List.mem_cons_self,h.1⟩
  ·obtain ⟨k',hk,hh⟩:=uY ks xs (by simpa using hl) h.2 y hy
   exact ⟨k',List.mem_cons_of_mem _ hk,hh⟩
theorem WJ (t:T) (ht:sOk t):x8 [t]=if isK 3 t=true then .ok .non else .ex 0:=by
 have e:x8 [t]=zn (kP f_4 [.vl t]):=rfl
 have ec:wl (jC (zc 1 f_4 (z9 (vE 0) (zj)))) [.vl t]= .ok (!isK 3 t):=by
  rw [jZ,ZW,zL,v0,bOk,UF t ht,bOk,jf,bOk]
 rw [e,kP,jc,ec,ZL]
 cases isK 3 t <;> rfl
theorem uZ {α β:Type} (f:α->List β) (m:Nat):∀ (as:List α) (i j:Nat),(∀ a∈as,(f a).length=m)->j < m->(as.flatMap f)[i*m+j]? =(as[i]?).bind fun a=>(f a)[j]?
 | [],i,j,_,_=>by simp
 | a :: as,0,j,h,hj=>by
  have ha:=h a List.mem_cons_self
  rw [List.flatMap_cons,Nat.zero_mul,Nat.zero_add,List.getElem?_append_left (by omega)]
  rfl
 | a :: as,i+1,j,h,hj=>by
  have ha:=h a List.mem_cons_self
  have e:(i+1)*m=i*m+m:=by rw [Nat.add_mul,Nat.one_mul]
  rw [List.flatMap_cons,List.getElem?_append_right (by omega),ha,e,show i*m+m+j - m=i*m+j by omega,uZ f m as i j (fun b hb=>h b (List.mem_cons_of_mem _ hb)) hj]
  rfl
theorem WK {α β:Type} (f:α->List β):∀ (as:List α) (q j:Nat) (a:α),as[q]? =some a->j < (f a).length->(as.flatMap f)[((as.take q).map fun b=>(f b).length).sum+j]? =(f a)[j]?
 | [],q,j,a,h,_=>by simp at h
 | b :: as,0,j,a,h,hj=>by
  have e:b=a:=by simpa using h
  subst e
  rw [List.flatMap_cons,List.take_zero,List.map_nil,List.sum_nil,Nat.zero_add,List.getElem?_append_left hj]
 | b :: as,q+1,j,a,h,hj=>by
  rw [List.flatMap_cons,List.take_succ_cons,List.map_cons,List.sum_cons,Nat.add_assoc,List.getElem?_append_right (by omega),Nat.add_sub_cancel_left]
  exact WK f as q j a (by simpa using h) hj
theorem wx:∀ (ls made:List (List T)) (l:List T),ZR made (ls++[l])=(ZR made ls).flatMap fun a=>l.map fun x=>a++[x]
 | [],made,l=>rfl
 | _ :: ls,made,l=>by
  rw [List.cons_append,ZR,ZR,wx ls]
theorem Q6 {ls:List (List T)} {l:List T} {i j:Nat} {xs:List T} {x:T} (h:(ZR [[]] ls)[i]? =some xs) (hx:l[j]? =some x):(ZR [[]] (ls++[l]))[i*l.length+j]? =some (xs++[x]):=by
 have hj:j < l.length:=(List.getElem?_eq_some_iff.mp hx).1
 rw [wx,uZ _ l.length _ i j (fun a _=>List.length_map ..) hj,h]
 show (l.map fun x=>xs++[x])[j]? =_
 rw [List.getElem?_map,hx]
 rfl
theorem U0:∀ (ns:List Nat) (n:Nat),prd (ns++[n])=prd ns*n
 | [],n=>by simp [prd]
 | m :: ns,n=>by rw [List.cons_append,prd,prd,U0 ns n,Nat.mul_assoc]
theorem wy (ls:List (List T)):(ZR [[]] ls).length=prd (ls.map (·.length)):=by rw [JQ,List.length_singleton,Nat.one_mul]
theorem U1 {α:Type} {xs:List α} {i:Nat} (h:i < xs.length):∃ x,xs[i]? =some x:=⟨_,List.getElem?_eq_getElem h⟩
theorem QL {xs:List T} {j:Nat} {v:T} (h:xs[j]? =some v):atT xs (j:Int)= .ok v:=by unfold atT; rw [jM h]
def shr (c lo q:Nat):Nat:=((List.range q).map fun i=>c ^ (lo+i)).sum
theorem Q7 (c lo q:Nat):shr c lo (q+1)=shr c lo q+c ^ (lo+q):=by
 unfold shr
 rw [List.range_succ,List.map_append,List.sum_append]
 simp
theorem QM (c lo hi:Nat):pw c lo hi=shr c lo (hi+1 - lo):=rfl
theorem VE {k:Kd} {lo hi q j:Nat} {xs:List T} (hq:q < hi+1 - lo) (h:(ZR [[]] (List.replicate (lo+q) k.all))[j]? =some xs):(Kd.many k lo hi).all[shr k.all.length lo q+j]? =some (.tup xs):=by
 have hj:=(List.getElem?_eq_some_iff.mp h).1
 have e:=WK (fun i=>WC (List.replicate (lo+i) k.all)) (List.range (hi+1 - lo)) q j q (by rw [List.getElem?_range hq]) (by rw [List.length_map]; exact hj)
 have e2:(((List.range (hi+1 - lo)).take q).map fun b=>(WC (List.replicate (lo+b) k.all)).length).sum=shr k.all.length lo q:=by
  rw [List.take_range,Nat.min_eq_left (Nat.le_of_lt hq),shr]
  congr 1
  refine List.map_congr_left fun i _=> ?_
  rw [Jv,List.map_replicate,jy]
 rw [e2] at e
 rw [Kd.all,e]
 show (List.map T.tup _)[j]? =_
 rw [List.getElem?_map,h]
 rfl
abbrev cpB (c:List T->R T):En->RS:=zT 1 (zf Z1 (vE 1) (zc 1 c (z9 (vE 2) (zj))))
theorem Ym {c:List T->R T} {S:Sl}:∀ (ks:List Kd) (m:Nat) (x:Sl),(∀ k∈ks,c [k.t]= .ok (.int (k.all.length:Int))/\1<=k.all.length)->m*prd (ks.map fun k=>k.all.length) < 2 ^ 60->
  ∃ y,ZC (zG 2) (cpB c) (ks.map Kd.t) [S, .vl (.int (m:Int)),x]= .nx [S, .vl (.int ((m*prd (ks.map fun k=>k.all.length):Nat):Int)),y]
 | [],m,x,_,_=>⟨x,by simp [ZC,prd]⟩
 | k :: ks,m,x,H,hb=>by
  obtain ⟨hc,h1⟩:=H k List.mem_cons_self
  have hp:1<=prd (ks.map fun k=>k.all.length):=JP fun n hn=>by
   obtain ⟨k',hk',rfl⟩:=List.mem_map.mp hn
   exact (H k' (List.mem_cons_of_mem _ hk')).2
  rw [List.map_cons,prd,← Nat.mul_assoc] at hb
  have hm:m < 2 ^ 60:=by
   have h2:m<=m*k.all.length:=Nat.le_mul_of_pos_right _ h1
   have h3:m*k.all.length<=m*k.all.length*prd (ks.map fun k=>k.all.length):=Nat.le_mul_of_pos_right _ hp
   omega
  have eb:cpB c [S, .vl (.int (m:Int)), .vl k.t]= .nx [S, .vl (.int ((m*k.all.length:Nat):Int)), .vl k.t]:=by
   rw [cpB,Z3 (t:= .int ((m*k.all.length:Nat):Int))]
   ·rfl
   ·rw [zp,v1,bOk,zL,v2,bOk,hc,bOk,Yd hm]
  obtain ⟨y,ih⟩:=Ym (c:=c) (S:=S) ks (m*k.all.length) (.vl k.t) (fun k' hk' =>H k' (List.mem_cons_of_mem _ hk')) hb
  refine ⟨y, ?_⟩
  rw [List.map_cons,Jj (ρ1:=[S, .vl (.int (m:Int)), .vl k.t]) rfl eb,ih,List.map_cons,prd,Nat.mul_assoc]
theorem JS {c:List T->R T} {s:T} (ks:List Kd) (hs:jX s= .ok (ks.map Kd.t)) (H:∀ k∈ks,c [k.t]= .ok (.int (k.all.length:Int))/\1<=k.all.length) (hb:prd (ks.map fun k=>k.all.length) < 2 ^ 60):
  zn (b_p c (en0 3 [s]))= .ok (.int ((prd (ks.map fun k=>k.all.length):Nat):Int)):=by
 obtain ⟨y,e⟩:=Ym (c:=c) (S:= .vl s) ks 1 .un H (by rw [Nat.one_mul]; exact hb)
 rw [Nat.one_mul] at e
 have e0:zT 1 (cE (.int 1)) [.vl s, .un, .un]= .nx [.vl s, .vl (.int 1), .un]:=rfl
 have e1:jV (j6 (vE 0)) (zG 2) (cpB c) [.vl s, .vl (.int 1), .un]= .nx [.vl s, .vl (.int ((prd (ks.map fun k=>k.all.length):Nat):Int)),y]:=by
  show ((jX s).s fun ts=>ZC (zG 2) (cpB c) ts [.vl s, .vl (.int 1), .un])=_
  rw [hs,ZL]
  exact e
 show zn (b_p c [.vl s, .un, .un])=_
 rw [b_p,zg e0,zg e1]
 rfl
theorem Yn {α:Type} (g:α->Nat):∀ l:List α,jt (l.map fun a=>T.int ((g a:Nat):Int))=some (l.map fun a=>((g a:Nat):Int))
 | []=>rfl
 | a :: l=>by
  show (match jt (l.map fun a=>T.int ((g a:Nat):Int)) with | some l=>some (_ :: l) | none=>none)=_
  rw [Yn g l]; rfl
theorem U2 {α:Type} (g:α->Nat):∀ l:List α,(l.map fun a=>((g a:Nat):Int)).sum=(((l.map g).sum:Nat):Int)
 | []=>rfl
 | a :: l=>by rw [List.map_cons,List.sum_cons,List.map_cons,List.sum_cons,U2 g l]; omega
theorem XQ {α:Type} (g:α->Nat) (l:List α):Vg (.lst (l.map fun a=>T.int ((g a:Nat):Int)))= .ok (.int (((l.map g).sum:Nat):Int)):=by
 unfold Vg
 dsimp only
 rw [Yn,← U2]
theorem J4 (k:Kd) (m:Nat):((List.replicate m k).map fun k=>k.all.length)=List.replicate m k.all.length:=by rw [List.map_replicate]
theorem Yo {c:List T->R T} {t:T} {n lo hi q:Nat} (h4:lo+q<=4) (H:∀ m,m<=3->c [.lst (List.replicate m t)]= .ok (.int ((n ^ m:Nat):Int))):
  zn (b_l c (en0 2 [mt t lo hi, .int ((lo+q:Nat):Int)]))= .ok (.int ((shr n lo q:Nat):Int)):=by
 show zn (b_l c [.vl (mt t lo hi), .vl (.int ((lo+q:Nat):Int))])=_
 have er:Jn (zf ixT (vE 0) (cE (.int 2))) (vE 1) [.vl (mt t lo hi), .vl (.int ((lo+q:Nat):Int))]= .ok (rng (lo:Int) q):=by
  rw [ug (i:=(lo:Int)) (j:=((lo+q:Nat):Int)) rfl rfl ⟨by omega,by omega,by omega,by omega⟩]
  congr 2; omega
 have ec:zS (zG 0) Z2 (zc 1 c (z9 (zf Z1 (J0 (z9 (zf ixT (vE 1) (cE (.int 1))) (zj))) (vE 0)) (zj))) 1 [0] [.vl (mt t lo hi), .vl (.int ((lo+q:Nat):Int))] (rng (lo:Int) q)= .ok ((rng (lo:Int) q).map fun x=>match x with | .int i=>T.int ((n ^ i.toNat:Nat):Int) | y=>y):=
  Zp _ (by unfold rng; rw [List.length_map,List.length_range]; have:bnd=16777216:=rfl; omega) fun x hx=>by
   unfold rng at hx
   obtain ⟨i,hi',rfl⟩:=List.mem_map.mp hx
   have hi2:=List.mem_range.mp hi'
   show zc 1 c _ [.vl (.int ((lo:Int)+(i:Int))), .vl (mt t lo hi)]=_
   have e1:zf Z1 (J0 (z9 (zf ixT (vE 1) (cE (.int 1))) (zj))) (vE 0) [.vl (.int ((lo:Int)+(i:Int))), .vl (mt t lo hi)]= .ok (.lst (List.replicate (lo+i) t)):=by
    have e0:zf ixT (vE 1) (cE (.int 1)) [.vl (.int ((lo:Int)+(i:Int))), .vl (mt t lo hi)]= .ok t:=rfl
    rw [zp,XI e0,bOk,v0,bOk,show (lo:Int)+(i:Int)=((lo+i:Nat):Int) by omega,Yb (by omega),Jw]
   rw [zL,e1,bOk,H (lo+i) (by omega)]
   show _=R.ok (T.int ((n ^ ((lo:Int)+(i:Int)).toNat:Nat):Int))
   rw [show ((lo:Int)+(i:Int)).toNat=lo+i by omega]
 rw [b_l,zr (t:= .int ((shr n lo q:Nat):Int))]
 ·rfl
 ·show ap1 _ _ [.vl (mt t lo hi), .vl (.int ((lo+q:Nat):Int))]=_
  rw [j7,Zi,er,bOk,ec,bOk,bOk]
  have e2:((rng (lo:Int) q).map fun x=>match x with | .int i=>T.int ((n ^ i.toNat:Nat):Int) | y=>y)=(List.range q).map fun i=>T.int ((n ^ (lo+i):Nat):Int):=by
   unfold rng
   rw [List.map_map]
   refine List.map_congr_left fun i _=> ?_
   show T.int ((n ^ ((lo:Int)+(i:Int)).toNat:Nat):Int)=_
   rw [show ((lo:Int)+(i:Int)).toNat=lo+i by omega]
  rw [e2,XQ (fun i=>n ^ (lo+i))]
  rfl
theorem QN {d n m:Nat} (h:n<=mx d) (hd:d<=2) (hm:m<=3):n ^ m < 2 ^ 60:=by
 have h2:mx d<=70644:=by
  have:d=0\/d=1\/d=2:=by omega
  rcases this with rfl | rfl | rfl <;> decide
 have h3:n ^ m<=70644 ^ 3:=Nat.le_trans (Nat.pow_le_pow_left (Nat.le_trans h h2) m) (Nat.pow_le_pow_right (by omega) hm)
 have:70644 ^ 3 < 2 ^ 60:=by decide
 omega
theorem U3:∀ (d n:Nat),3*d<=n->d<=3->∀ k:Kd,k.Ok d->S_1 n 0 [k.t]= .ok (.int (k.all.length:Int))
 | 0,_,_,_,_,h=>h.elim
 | d+1,n+3,hn,hd,k,h=>by
  have ih:=U3 d n (by omega) (by omega)
  have ih1:=U3 d (n+1) (by omega) (by omega)
  have e:S_1 (n+3) 0 [k.t]=zn (b_1 (S_1 (n+2) 1) (S_1 (n+2) 2) [.vl k.t]):=rfl
  have e1:∀ s,S_1 (n+2) 1 [s]=zn (b_p (S_1 (n+1) 0) (en0 3 [s])):=fun s=>rfl
  have e1' :∀ s,S_1 (n+1) 1 [s]=zn (b_p (S_1 n 0) (en0 3 [s])):=fun s=>rfl
  have e2:∀ s u,S_1 (n+2) 2 [s,u]=zn (b_l (S_1 (n+1) 1) (en0 2 [s,u])):=fun s u=>rfl
  rw [e,b_1]
  cases k with
  | whole lo hi=>
   obtain ⟨h1,h2,h3⟩:=h
   rw [jz]
   simp only [Kd.t]
   rw [zJ (t:= .int ((hi+1 - lo).toNat:Int))]
   ·rfl
   ·rw [jg (by rw [cs0,beq_self_eq_true]),zr]
    show R.ok (T.int (hi - lo+1))=_
    congr 2; omega
  | pick cs=>
   rw [wU]
   simp only [Kd.t]
   rw [zg (zv (by rw [cs0]; rfl)),zJ (t:= .int (cs.length:Int))]
   ·rfl
   ·rw [jg (by rw [cs0,beq_self_eq_true]),zr]
    show R.ok (T.int ((cs.map Ji).length:Int))=_
    rw [List.length_map]
  | row ks=>
   obtain ⟨h1,h2,h3⟩:=h
   rw [Ja]
   simp only [Kd.t]
   rw [Kd.ts_map,zg (zv (by rw [cs0]; rfl)),zg (zv (by rw [cs0]; rfl)),zJ (t:= .int ((prd (ks.map fun k=>k.all.length):Nat):Int))]
   ·rfl
   ·rw [jg (by rw [cs0,beq_self_eq_true]),zr]
    show zc 1 _ _ [.vl (.tup [.str "row", .tup (ks.map Kd.t)])]=_
    rw [zL,JX,bOk,e1]
    have hl:=jL (d+1) (.row ks) ⟨h1,h2,h3⟩
    rw [Ja] at hl
    exact JS ks rfl (fun k hk=>⟨ih1 k (h3 k hk),ZX d k (h3 k hk)⟩) (XL hl hd)
  | many k lo hi=>
   obtain ⟨h1,h2,h3⟩:=h
   rw [jE,QM]
   simp only [Kd.t]
   rw [zg (zv (by rw [cs0]; rfl)),zg (zv (by rw [cs0]; rfl)),zg (zv (by rw [cs0]; rfl)),zr (t:= .int ((shr k.all.length lo (hi+1 - lo):Nat):Int))]
   ·rfl
   ·show zc 2 _ _ [.vl (mt k.t lo hi)]=_
    rw [Zq,v0,bOk,Y9 XH,bOk,e2,show (hi:Int)+1=((lo+(hi+1 - lo):Nat):Int) by omega]
    refine Yo (by omega) fun m hm=> ?_
    have hp:prd ((List.replicate m k).map fun k=>k.all.length)=k.all.length ^ m:=by rw [J4,jy]
    rw [e1',← hp]
    have hd1:1<=d:=by
     cases d with
     | zero=>exact h3.elim
     | succ d=>omega
    refine JS (List.replicate m k) (by rw [List.map_replicate]; rfl) (fun k' hk' => ?_) (by rw [hp]; exact QN (jL d k h3) (by omega) hm)
    rw [List.eq_of_mem_replicate hk']
    exact ⟨ih k h3,ZX d k h3⟩
theorem wY {d:Nat} (hd:d<=3) {k:Kd} (h:k.Ok d):f_1 20 [k.t]= .ok (.int (k.all.length:Int)):=U3 d 20 (by omega) hd k h
theorem U4 {d:Nat} (hd:d<=2) {k:Kd} (h:k.Ok d) {lo hi q:Nat} (h4:lo+q<=4):f_l 20 [mt k.t lo hi, .int ((lo+q:Nat):Int)]= .ok (.int ((shr k.all.length lo q:Nat):Int)):=by
 have e:f_l 20 [mt k.t lo hi, .int ((lo+q:Nat):Int)]=zn (b_l (S_1 19 1) (en0 2 [mt k.t lo hi, .int ((lo+q:Nat):Int)])):=rfl
 rw [e]
 refine Yo h4 fun m hm=> ?_
 have hp:prd ((List.replicate m k).map fun k=>k.all.length)=k.all.length ^ m:=by rw [J4,jy]
 have e1:∀ s,S_1 19 1 [s]=zn (b_p (S_1 18 0) (en0 3 [s])):=fun s=>rfl
 rw [e1,← hp]
 refine JS (List.replicate m k) (by rw [List.map_replicate]; rfl) (fun k' hk' => ?_) (by rw [hp]; exact QN (jL d k h) hd hm)
 rw [List.eq_of_mem_replicate hk']
 exact ⟨U3 d 18 (by omega) (by omega) k h,ZX d k h⟩
abbrev paB (cc cw:List T->R T):En->RS:=zx (zT 5 (zc 1 cc (z9 (vE 4) (zj))))
  (zx (uH 2 (zc 2 cw (z9 (vE 4) (z9 (zf jI (vE 3) (vE 5)) (zj)))))
  (zT 3 (zf JF (vE 3) (vE 5))))
structure GL (cc cw:List T->R T) (k:Kd):Prop where
 cnt:cc [k.t]= .ok (.int (k.all.length:Int))
 at_:∀ (i:Nat) x,k.all[i]? =some x->cw [k.t, .int (i:Int)]= .ok x
 pos:1<=k.all.length
 le:k.all.length < 1000000
theorem v5' {t:T} {a b c d e:Sl} {ρ:En}:vE 5 (a :: b :: c :: d :: e :: .vl t :: ρ)= .ok t:=rfl
theorem QO {n c:Nat} (h:1<=c):jI (.int (n:Int)) (.int (c:Int))= .ok (.int ((n % c:Nat):Int)):=by
 unfold jI; dsimp only; rw [if_pos (by omega)]; rfl
theorem VF {n c:Nat} (h:1<=c) (h' :c < 1000000):JF (.int (n:Int)) (.int (c:Int))= .ok (.int ((n / c:Nat):Int)):=by
 unfold JF; dsimp only; rw [if_pos (by omega)]; rfl
theorem XR {i:Nat} {f:En->R T} {ρ:En} {ts:List T} {t:T} (hi:ρ[i]? =some (.ow ts)) (hl:ts.length < bnd) (h:f ρ= .ok t):uH i f ρ= .nx (ρ.set i (.ow (ts++[t]))):=by
 unfold uH; rw [hi]; dsimp only; rw [h,ZL,if_pos hl]
theorem Yp {cc cw:List T->R T} {S N:Sl}:∀ (rs:List Kd) (acc:List T) (n:Nat) (x y:Sl),(∀ k∈rs,GL cc cw k)->n < prd (rs.map fun k=>k.all.length)->acc.length+rs.length<=1000->
  ∃ xs r x' y',(ZR [[]] (rs.reverse.map Kd.all))[n]? =some xs/\ZC (zG 4) (paB cc cw) (rs.map Kd.t) [S,N, .ow acc, .vl (.int (n:Int)),x,y]= .nx [S,N, .ow (acc++xs.reverse),r,x',y']
 | [],acc,n,x,y,_,hn,_=>⟨[], .vl (.int (n:Int)),x,y,by
   have:n=0:=by simp [prd] at hn; exact hn
   subst this; rfl,by simp [ZC]⟩
 | k :: rs,acc,n,x,y,H,hn,hl=>by
  obtain ⟨hc,hw,h1,hle⟩:=H k List.mem_cons_self
  rw [List.map_cons,prd] at hn
  rw [List.length_cons] at hl
  have hb:bnd=16777216:=rfl
  have hmod:n % k.all.length < k.all.length:=Nat.mod_lt _ h1
  obtain ⟨v,hv⟩:=U1 hmod
  have hdiv:n / k.all.length < prd (rs.map fun k=>k.all.length):=Nat.div_lt_of_lt_mul hn
  obtain ⟨xs,r,x',y',e1,e2⟩:=Yp (cc:=cc) (cw:=cw) (S:=S) (N:=N) rs (acc++[v]) (n / k.all.length) (.vl k.t) (.vl (.int (k.all.length:Int))) (fun k' hk' =>H k' (List.mem_cons_of_mem _ hk')) hdiv (by rw [List.length_append,List.length_singleton]; omega)
  have b1:zT 5 (zc 1 cc (z9 (vE 4) (zj))) [S,N, .ow acc, .vl (.int (n:Int)), .vl k.t,y]= .nx [S,N, .ow acc, .vl (.int (n:Int)), .vl k.t, .vl (.int (k.all.length:Int))]:=by
   rw [Z3 (t:= .int (k.all.length:Int))]
   ·rfl
   ·rw [zL,v4,bOk,hc]
  have b2:uH 2 (zc 2 cw (z9 (vE 4) (z9 (zf jI (vE 3) (vE 5)) (zj)))) [S,N, .ow acc, .vl (.int (n:Int)), .vl k.t, .vl (.int (k.all.length:Int))]= .nx [S,N, .ow (acc++[v]), .vl (.int (n:Int)), .vl k.t, .vl (.int (k.all.length:Int))]:=by
   rw [XR (ts:=acc) (t:=v) rfl (by omega)]
   ·rfl
   ·rw [Zq,v4,bOk,zp,v3,bOk,v5',bOk,QO h1,bOk,hw _ v hv]
  have b3:zT 3 (zf JF (vE 3) (vE 5)) [S,N, .ow (acc++[v]), .vl (.int (n:Int)), .vl k.t, .vl (.int (k.all.length:Int))]= .nx [S,N, .ow (acc++[v]), .vl (.int ((n / k.all.length:Nat):Int)), .vl k.t, .vl (.int (k.all.length:Int))]:=by
   rw [Z3 (t:= .int ((n / k.all.length:Nat):Int))]
   ·rfl
   ·rw [zp,v3,bOk,v5',bOk,VF h1 hle]
  have eb:paB cc cw [S,N, .ow acc, .vl (.int (n:Int)), .vl k.t,y]= .nx [S,N, .ow (acc++[v]), .vl (.int ((n / k.all.length:Nat):Int)), .vl k.t, .vl (.int (k.all.length:Int))]:=by
   rw [paB,zg b1,zg b2,b3]
  refine ⟨xs++[v],r,x',y', ?_, ?_⟩
  ·have:=Q6 e1 hv
   rw [Nat.mul_comm,Nat.div_add_mod] at this
   rw [List.reverse_cons,List.map_append]
   exact this
  ·rw [List.map_cons,Jj (ρ1:=[S,N, .ow acc, .vl (.int (n:Int)), .vl k.t,y]) rfl eb,e2,List.reverse_append]
   simp
theorem Yq:∀ ns:List Nat,prd ns.reverse=prd ns
 | []=>rfl
 | n :: ns=>by rw [List.reverse_cons,U0,Yq ns,prd,Nat.mul_comm]
theorem JT {cc cw:List T->R T} {s:T} (ks:List Kd) (hs:wL s= .ok (ks.map Kd.t)) (hl:ks.length<=3) (H:∀ k∈ks,GL cc cw k) {n:Nat} {xs:List T} (hx:(ZR [[]] (ks.map Kd.all))[n]? =some xs):
  zn (b_n cc cw (en0 6 [s, .int (n:Int)]))= .ok (.tup xs):=by
 have hn:=(List.getElem?_eq_some_iff.mp hx).1
 rw [wy,List.map_map] at hn
 have hr:(ks.reverse.map fun k=>k.all.length)=(ks.map fun k=>k.all.length).reverse:=by rw [List.map_reverse]
 obtain ⟨ys,r,x',y',e1,e2⟩:=Yp (cc:=cc) (cw:=cw) (S:= .vl s) (N:= .vl (.int (n:Int))) ks.reverse [] n .un .un (fun k hk=>H k (List.mem_reverse.mp hk)) (by rw [hr,Yq]; exact hn) (by rw [List.length_reverse,List.length_nil]; omega)
 rw [List.reverse_reverse,hx] at e1
 cases e1
 rw [List.nil_append] at e2
 have e0:uF 2 (zj) [.vl s, .vl (.int (n:Int)), .un, .un, .un, .un]= .nx [.vl s, .vl (.int (n:Int)), .ow [], .un, .un, .un]:=rfl
 have e3:zT 3 (vE 1) [.vl s, .vl (.int (n:Int)), .ow [], .un, .un, .un]= .nx [.vl s, .vl (.int (n:Int)), .ow [], .vl (.int (n:Int)), .un, .un]:=rfl
 have e4:jV (KR (vE 0)) (zG 4) (paB cc cw) [.vl s, .vl (.int (n:Int)), .ow [], .vl (.int (n:Int)), .un, .un]= .nx [.vl s, .vl (.int (n:Int)), .ow xs.reverse,r,x',y']:=by
  show (((wL s).bind fun xs=>R.ok xs.reverse).s fun ts=>ZC (zG 4) (paB cc cw) ts [.vl s, .vl (.int (n:Int)), .ow [], .vl (.int (n:Int)), .un, .un])=_
  rw [hs,bOk,ZL,← List.map_reverse]
  exact e2
 have hlen:xs.reverse.length<=bnd:=by
  have:∀ (ls made:List (List T)) (m:Nat),(∀ a∈made,a.length<=m)->∀ a∈ZR made ls,a.length<=m+ls.length:=by
   intro ls
   induction ls with
   | nil=>intro made m h a ha; exact h a ha
   | cons l ls ih=>
    intro made m h a ha
    have:=ih (made.flatMap fun a=>l.map fun x=>a++[x]) (m+1) (fun b hb=>by
     obtain ⟨c,hc,hb⟩:=List.mem_flatMap.mp hb
     obtain ⟨z,_,rfl⟩:=List.mem_map.mp hb
     have:=h c hc
     rw [List.length_append,List.length_singleton]; omega) a ha
    rw [List.length_cons]; omega
  have h1:=this (ks.map Kd.all) [[]] 0 (fun a ha=>by rw [List.mem_singleton.mp ha]; exact Nat.le_refl _) xs (List.mem_of_getElem? hx)
  rw [List.length_map] at h1
  rw [List.length_reverse]
  have hb:bnd=16777216:=rfl
  omega
 show zn (b_n cc cw [.vl s, .vl (.int (n:Int)), .un, .un, .un, .un])=_
 rw [b_n,zg e0,zg e3,zg e4,zr (t:= .tup xs)]
 ·rfl
 ·show qQ (.lst xs.reverse)=_
  unfold qQ
  dsimp only
  rw [if_pos hlen,List.reverse_reverse]
abbrev mtT:En->R Bool:=zB leC (zc 2 (f_l 20) (z9 (vE 0) (z9 (zf zw (vE 2) (cE (.int 1))) (zj)))) (vB 1)
abbrev mtB:En->RS:=zT 2 (zf zw (vE 2) (cE (.int 1)))
theorem w1n {t:T} {a:Sl} {ρ:En}:vB 1 (a :: .vl t :: ρ)= .ok t:=rfl
theorem Yr {d:Nat} (hd:d<=2) {k:Kd} (h:k.Ok d) {lo hi n:Nat} (h1:lo<=hi) (h3:hi<=3) (hn:n < shr k.all.length lo (hi+1 - lo)):∀ (f q:Nat),q<=hi - lo->hi - lo - q < f->shr k.all.length lo q<=n->
  ∃ q',q' <=hi - lo/\shr k.all.length lo q' <=n/\n < shr k.all.length lo (q' +1)/\j5 mtT mtB f [.vl (mt k.t lo hi), .vl (.int (n:Int)), .vl (.int ((lo+q:Nat):Int))]= .nx [.vl (mt k.t lo hi), .vl (.int (n:Int)), .vl (.int ((lo+q' :Nat):Int))]
 | 0,q,_,hf,_=>by omega
 | f+1,q,hq,hf,hs=>by
  have et:mtT [.vl (mt k.t lo hi), .vl (.int (n:Int)), .vl (.int ((lo+q:Nat):Int))]= .ok (decide (shr k.all.length lo (q+1)<=n)):=by
   rw [mtT,Z6,Zq,v0,bOk,Y9 v2,bOk,show ((lo+q:Nat):Int)+1=((lo+(q+1):Nat):Int) by omega,U4 hd h (by omega),bOk,w1n,bOk,ua,ww]
  have eu:j5 mtT mtB (f+1) [.vl (mt k.t lo hi), .vl (.int (n:Int)), .vl (.int ((lo+q:Nat):Int))]=(mtT [.vl (mt k.t lo hi), .vl (.int (n:Int)), .vl (.int ((lo+q:Nat):Int))]).s fun k' =>if k' =true then match mtB [.vl (mt k.t lo hi), .vl (.int (n:Int)), .vl (.int ((lo+q:Nat):Int))] with
    | .nx ρ2=>j5 mtT mtB f ρ2
    | .ct ρ2=>j5 mtT mtB f ρ2
    | .bk ρ2=> .nx ρ2
    | r=>r
   else .nx [.vl (mt k.t lo hi), .vl (.int (n:Int)), .vl (.int ((lo+q:Nat):Int))]:=rfl
  rw [eu,et,ZL]
  by_cases hc:shr k.all.length lo (q+1)<=n
  ·rw [if_pos (decide_eq_true hc)]
   have hq2:q+1<=hi - lo:=by
    rcases Nat.lt_or_ge q (hi - lo) with z | z
    ·exact z
    ·have:q=hi - lo:=by omega
     rw [this,show hi - lo+1=hi+1 - lo by omega] at hc
     omega
   have eb:mtB [.vl (mt k.t lo hi), .vl (.int (n:Int)), .vl (.int ((lo+q:Nat):Int))]= .nx [.vl (mt k.t lo hi), .vl (.int (n:Int)), .vl (.int ((lo+(q+1):Nat):Int))]:=by
    rw [mtB,Z3 (t:= .int ((lo+(q+1):Nat):Int))]
    ·rfl
    ·rw [Y9 v2,show ((lo+q:Nat):Int)+1=((lo+(q+1):Nat):Int) by omega]
   rw [eb]
   exact Yr hd h h1 h3 hn f (q+1) hq2 (by omega) hc
  ·rw [if_neg (by simpa using hc)]
   exact ⟨q,hq,hs,by omega,rfl⟩
theorem XS {i j:Nat} (h:j<=i):jG (.int (i:Int)) (.int (j:Int))= .ok (.int ((i - j:Nat):Int)):=by
 rw [ZD]; congr 2; omega
theorem UL {d:Nat} (hd:d<=2) {k:Kd} (h:k.Ok d) {cp:List T->R T} {lo hi n:Nat} (h1:lo<=hi) (h3:hi<=3) (hn:n < shr k.all.length lo (hi+1 - lo))
  (H:∀ (m:Nat),m<=3->∀ (j:Nat) (xs:List T),(ZR [[]] (List.replicate m k.all))[j]? =some xs->cp [.lst (List.replicate m k.t), .int (j:Int)]= .ok (.tup xs)):
  ∃ x,(Kd.many k lo hi).all[n]? =some x/\zn (x9 (f_l 20) cp (en0 3 [mt k.t lo hi, .int (n:Int)]))= .ok x:=by
 obtain ⟨q,hq,hs,hs',e⟩:=Yr hd h h1 h3 hn 8 0 (by omega) (by omega) (by unfold shr; simp)
 rw [Q7] at hs'
 have hj:n - shr k.all.length lo q < (ZR [[]] (List.replicate (lo+q) k.all)).length:=by
  rw [wy,List.map_replicate,jy]; omega
 obtain ⟨xs,hx⟩:=U1 hj
 have ha:=VE (k:=k) (lo:=lo) (hi:=hi) (by omega) hx
 rw [show shr k.all.length lo q+(n - shr k.all.length lo q)=n by omega] at ha
 refine ⟨_,ha, ?_⟩
 have e0:zT 2 (zf ixT (vE 0) (cE (.int 2))) [.vl (mt k.t lo hi), .vl (.int (n:Int)), .un]= .nx [.vl (mt k.t lo hi), .vl (.int (n:Int)), .vl (.int ((lo+0:Nat):Int))]:=rfl
 show zn (x9 (f_l 20) cp [.vl (mt k.t lo hi), .vl (.int (n:Int)), .un])=_
 rw [x9,zg e0,zg e,zr (t:= .tup xs)]
 ·rfl
 ·show zc 2 cp _ [.vl (mt k.t lo hi), .vl (.int (n:Int)), .vl (.int ((lo+q:Nat):Int))]=_
  have em:zf Z1 (J0 (z9 (zf ixT (vE 0) (cE (.int 1))) (zj))) (vE 2) [.vl (mt k.t lo hi), .vl (.int (n:Int)), .vl (.int ((lo+q:Nat):Int))]= .ok (.lst (List.replicate (lo+q) k.t)):=by
   rw [zp,XI JX,bOk,v2,bOk,Yb (by omega),Jw]
  rw [Zq,em,bOk,zp,v1,bOk,Zq,v0,bOk,v2,bOk,U4 hd h (by omega),bOk,XS hs,bOk,H (lo+q) (by omega) _ xs hx]
theorem Ys {d:Nat} (hd:d<=2) {k:Kd} (h:k.Ok d):k.all.length < 1000000:=by
 have h1:=jL d k h
 have h2:mx d<=70644:=by
  have:d=0\/d=1\/d=2:=by omega
  rcases this with rfl | rfl | rfl <;> decide
 omega
theorem jQ:∀ (d n:Nat),3*d<=n->d<=3->∀ k:Kd,k.Ok d->∀ (i:Nat) (x:T),k.all[i]? =some x->S_e n 0 [k.t, .int (i:Int)]= .ok x
 | 0,_,_,_,_,h=>h.elim
 | d+1,n+3,hn,hd,k,h=>by
  intro i x hx
  have ih:=jQ d n (by omega) (by omega)
  have ih1:=jQ d (n+1) (by omega) (by omega)
  have e:S_e (n+3) 0 [k.t, .int (i:Int)]=zn (b_e Xt (S_e (n+2) 1) (S_e (n+2) 2) (en2 k.t (.int (i:Int)))):=rfl
  have e2:∀ s u,S_e (n+2) 2 [s,u]=zn (b_n (f_1 20) (S_e (n+1) 0) (en0 6 [s,u])):=fun s u=>rfl
  have e2' :∀ s u,S_e (n+1) 2 [s,u]=zn (b_n (f_1 20) (S_e n 0) (en0 6 [s,u])):=fun s u=>rfl
  have e1:∀ s u,S_e (n+2) 1 [s,u]=zn (x9 (f_l 20) (S_e (n+1) 2) (en0 3 [s,u])):=fun s u=>rfl
  have hi' :=(List.getElem?_eq_some_iff.mp hx).1
  rw [e,b_e]
  cases k with
  | whole lo hi=>
   rw [Kd.all,List.getElem?_map] at hx
   rw [jz] at hi'
   rw [List.getElem?_range hi'] at hx
   cases hx
   simp only [Kd.t]
   rw [zJ (t:= .int (lo+(i:Int)))]
   ·rfl
   ·rw [gs,zr]; rfl
  | pick cs=>
   have hw:=Q5 cs h.2.1
   rw [Kd.all] at hx
   simp only [Kd.t] at hw ⊢
   rw [zg (xa (by decide)),zJ (t:=x)]
   ·rfl
   ·rw [gs,zr]
    show zf ixT _ _ (en2 _ _)=_
    rw [zp,zL,v0,bOk,hw,bOk,v1,bOk]
    exact QL hx
  | row ks=>
   obtain ⟨h1,h2,h3⟩:=h
   rw [Kd.all,Kd.alls_map,List.getElem?_map] at hx
   cases hr:(ZR [[]] (ks.map Kd.all))[i]? with
   | none=>rw [hr] at hx; cases hx
   | some xs=>
    rw [hr] at hx
    cases hx
    simp only [Kd.t]
    rw [Kd.ts_map,zg (xa (by decide)),zg (xa (by decide)),zJ (t:= .tup xs)]
    ·rfl
    ·rw [gs,zr]
     show zc 2 _ _ (en2 _ _)=_
     rw [Zq,JX,bOk,v1,bOk,e2]
     refine JT ks rfl h2 (fun k hk=>⟨wY (by omega) (h3 k hk),ih1 k (h3 k hk),ZX d k (h3 k hk),Ys (by omega) (h3 k hk)⟩) hr
  | many k lo hi=>
   obtain ⟨h1,h2,h3⟩:=h
   rw [jE,QM] at hi'
   obtain ⟨x',hx',hv⟩:=UL (cp:=S_e (n+1) 2) (by omega:d<=2) h3 h1 h2 hi' (fun m hm j xs hr=>by
    rw [e2']
    refine JT (List.replicate m k) (by rw [List.map_replicate]; rfl) (by rw [List.length_replicate]; exact hm) (fun k' hk' => ?_) (by rw [List.map_replicate]; exact hr)
    rw [List.eq_of_mem_replicate hk']
    exact ⟨wY (by omega) h3,ih k h3,ZX d k h3,Ys (by omega) h3⟩)
   rw [hx] at hx'
   cases hx'
   simp only [Kd.t]
   rw [zg (xa (by decide)),zg (xa (by decide)),zg (xa (by decide)),zr (t:=x)]
   ·rfl
   ·show zc 2 _ _ (en2 _ _)=_
    rw [Zq,v0,bOk,v1,bOk,e1]
    exact hv
theorem XT {k:Kd} (h:k.Ok 3) {i:Nat} {x:T} (hx:k.all[i]? =some x):f_e 20 [k.t, .int (i:Int)]= .ok x:=jQ 3 20 (by omega) (by omega) k h i x hx
def Pl:Nat->T->Prop
 | 0,_=>False
 | n+1, .tup xs=>∀ x∈xs,Pl n x
 | n+1, .lst xs=>∀ x∈xs,Pl n x
 | _+1, .fz _=>False
 | _+1,_=>True
theorem Jx {f:T->T->Option Bool}:∀ (xs ys:List T),(∀ x∈xs,∀ y,∃ b,f x y=some b)->∃ b,eqL f xs ys=some b
 | [],[],_=>⟨_,rfl⟩
 | [],_ :: _,_=>⟨_,rfl⟩
 | _ :: _,[],_=>⟨_,rfl⟩
 | x :: xs,y :: ys,h=>by
  obtain ⟨b,hb⟩:=h x List.mem_cons_self y
  obtain ⟨c,hc⟩:=Jx xs ys fun z hz=>h z (List.mem_cons_of_mem _ hz)
  exact ⟨b && c,by unfold eqL; rw [hb,hc]⟩
theorem ZB {f:T->T->Option Bool}:∀ (xs:List T),(∀ x∈xs,f x x=some true)->eqL f xs xs=some true
 | [],_=>rfl
 | x :: xs,h=>by
  unfold eqL
  rw [h x List.mem_cons_self,ZB xs fun z hz=>h z (List.mem_cons_of_mem _ hz)]
  rfl
theorem Jy:∀ (n:Nat) (y x:T),Pl n y->∃ b,eqF n y x=some b
 | 0,_,_,h=>h.elim
 | n+1,y,x,h=>by
  cases y with
  | tup xs=>
   have h:∀ x∈xs,Pl n x:=h
   cases x with
   | tup ys=>rw [eqF]; exact Jx xs ys fun z hz u=>Jy n z u (h z hz)
   | _=>exact ⟨false,by rw [eqF] <;> intros <;> first | rfl | contradiction | (intro z; cases z)⟩
  | lst xs=>
   have h:∀ x∈xs,Pl n x:=h
   cases x with
   | lst ys=>rw [eqF]; exact Jx xs ys fun z hz u=>Jy n z u (h z hz)
   | fz ys=>rw [eqF]; exact Jx xs ys fun z hz u=>Jy n z u (h z hz)
   | _=>exact ⟨false,by rw [eqF] <;> intros <;> first | rfl | contradiction | (intro z; cases z)⟩
  | fz xs=>exact h.elim
  | non=>cases x <;> exact ⟨_,rfl⟩
  | bl b=>cases x <;> exact ⟨_,rfl⟩
  | int i=>cases x <;> exact ⟨_,rfl⟩
  | str i=>cases x <;> exact ⟨_,rfl⟩
theorem Zk:∀ (n:Nat) (y:T),Pl n y->eqF n y y=some true
 | 0,_,h=>h.elim
 | n+1,y,h=>by
  cases y with
  | tup xs=>rw [eqF]; exact ZB xs fun z hz=>Zk n z ((show ∀ x∈xs,Pl n x from h) z hz)
  | lst xs=>rw [eqF]; exact ZB xs fun z hz=>Zk n z ((show ∀ x∈xs,Pl n x from h) z hz)
  | fz xs=>exact h.elim
  | non=>rfl
  | bl b=>show some (b == b)=_; simp
  | int i=>show some (i == i)=_; simp
  | str i=>show some (i == i)=_; simp
theorem Pl.up:∀ (n:Nat) (y:T),Pl n y->Pl (n+1) y
 | 0,_,h=>h.elim
 | n+1,y,h=>by
  cases y with
  | tup xs=>exact fun z hz=>Pl.up n z ((show ∀ x∈xs,Pl n x from h) z hz)
  | lst xs=>exact fun z hz=>Pl.up n z ((show ∀ x∈xs,Pl n x from h) z hz)
  | fz xs=>exact h.elim
  | _=>exact trivial
theorem Pl.le {n m:Nat} {y:T} (hm:n<=m) (h:Pl n y):Pl m y:=by
 obtain ⟨j,rfl⟩:∃ j,m=n+j:=⟨m - n,by omega⟩
 clear hm
 induction j with
 | zero=>exact h
 | succ j ih=>exact Pl.up _ _ ih
theorem uh {t:T} (h:Pl 30 t):neC t t= .ok false:=by unfold neC; rw [Zk 30 t h]; rfl
theorem Q8 {t:T} (h:Pl 30 t):eqC t t= .ok true:=by unfold eqC; rw [Zk 30 t h]
theorem WL {f:T->Option Bool}:∀ (ts:List T),(∀ t∈ts,∃ b,f t=some b)->∃ b,W5 f ts=some b/\(b=false->∀ t∈ts,f t=some false)
 | [],_=>⟨false,rfl,fun _ _ h=>nomatch h⟩
 | t :: ts,h=>by
  obtain ⟨b,hb⟩:=h t List.mem_cons_self
  obtain ⟨c,hc,h'⟩:=WL ts fun u hu=>h u (List.mem_cons_of_mem _ hu)
  refine ⟨b || c,by unfold W5; rw [hb,hc],fun e u hu=> ?_⟩
  rw [Bool.or_eq_false_iff] at e
  rcases List.mem_cons.mp hu with rfl | hu
  ·rw [hb,e.1]
  ·exact h' e.2 u hu
theorem VG {k:Kd} (hk:k.Ok 3):x8 [k.t]= .ok .non:=by
 have hi:=Yl 3 k hk
 rw [WJ _ (wT 3 _ hi).so,if_pos hi]
theorem wZ {f:En->R T} {ρ:En} {t:T} (h:f ρ= .ok t):u2 f ρ= .nx ρ:=by unfold u2; rw [h,ZL]
theorem all_map (k:Kd):((rng 0 k.all.length).map fun t=>match t with | .int i=>(k.all[i.toNat]?).getD .non | y=>y)=k.all:=by
 unfold rng
 rw [List.map_map]
 refine List.ext_getElem? fun i=> ?_
 rw [List.getElem?_map]
 by_cases hi:i < k.all.length
 ·rw [List.getElem?_range hi]
  show some ((k.all[((0:Int)+(i:Int)).toNat]?).getD .non)=_
  rw [show ((0:Int)+(i:Int)).toNat=i by omega]
  obtain ⟨x,hx⟩:=U1 hi
  rw [hx]; rfl
 ·rw [List.getElem?_eq_none (by simpa using hi),List.getElem?_eq_none (by omega)]; rfl
theorem VH {f:En->R T} {ρ:En} {j:Int} (hf:f ρ= .ok (.int j)) (h: -1000000 < j/\j < 1000000):ZY f ρ= .ok (rng 0 j.toNat):=by
 unfold ZY
 rw [hf,bOk]
 exact if_pos h
theorem VI {i j:Int}:gtC (.int i) (.int j)= .ok (decide (j < i)):=rfl
theorem W0 {k:Kd} (hk:k.Ok 3) (h5:k.all.length<=500):kS [k.t]= .ok (.lst k.all):=by
 show zn (kR x8 (f_1 20) (f_e 20) [.vl k.t, .un])=_
 have e1:zT 1 (zc 1 (f_1 20) (z9 (vE 0) (zj))) [.vl k.t, .un]= .nx (en2 k.t (.int (k.all.length:Int))):=by
  rw [Z3 (t:= .int (k.all.length:Int))]
  ·rfl
  ·rw [zL,v0,bOk,wY (by omega) hk]
 have e2:zB gtC (vB 1) (cE (.int 500)) (en2 k.t (.int (k.all.length:Int)))= .ok false:=by
  rw [Z6,w1,bOk,Z7,bOk,VI,decide_eq_false (by omega)]
 have er:ZY (vE 1) (en2 k.t (.int (k.all.length:Int)))= .ok (rng 0 k.all.length):=by
  rw [VH (j:=(k.all.length:Int)) rfl ⟨by omega,by omega⟩,Int.toNat_natCast]
 have ec:zS (zG 0) Z2 (zc 2 (f_e 20) (z9 (vE 1) (z9 (vE 0) (zj)))) 1 [0] (en2 k.t (.int (k.all.length:Int))) (rng 0 k.all.length)= .ok ((rng 0 k.all.length).map fun t=>match t with | .int i=>(k.all[i.toNat]?).getD .non | y=>y):=
  Zp _ (by unfold rng; rw [List.length_map,List.length_range]; have:bnd=16777216:=rfl; omega) fun t ht=>by
   unfold rng at ht
   obtain ⟨i,hi,rfl⟩:=List.mem_map.mp ht
   obtain ⟨x,hx⟩:=U1 (List.mem_range.mp hi)
   show zc 2 _ _ (en2 (.int ((0:Int)+(i:Int))) k.t)=R.ok ((k.all[((0:Int)+(i:Int)).toNat]?).getD .non)
   rw [show ((0:Int)+(i:Int))=(i:Int) by omega,Zq,v1,bOk,v0,bOk,XT hk hx,Int.toNat_natCast,hx]
   rfl
 have e3:kB (ZY (vE 1)) (zG 0) (Z2) (zc 2 (f_e 20) (z9 (vE 1) (z9 (vE 0) (zj)))) 1 [0] (en2 k.t (.int (k.all.length:Int)))= .rf k.all:=by
  show ((ZY (vE 1) (en2 k.t (.int (k.all.length:Int)))).s fun ts=>(zS _ _ _ _ _ (en2 k.t (.int (k.all.length:Int))) ts).s fun vs=>RS.rf vs)=_
  rw [er,ZL,ec,ZL,all_map]
 rw [kR,zg (wZ (t:= .non) (by rw [zL,v0,bOk,VG hk])),zg e1,zg (zv e2),e3]
 rfl
abbrev en6 (w t x:T) (a:T):En:=[.vl w, .vl t, .vl x, .vl .non, .vl a, .un]
theorem GM {i j:Int} {t x a:T} (b:Bool) (h:(i == j)=b):zB eqC (vB 0) (cE (.int j)) (en6 (.int i) t x a)= .ok b:=by
 rw [Z6,w0,bOk,Z7,bOk]
 show R.ok (i == j)=_
 rw [h]
theorem GN {i:Nat} {f:En->R T} {ρ:En} {c:Nat} (h:f ρ= .ex c):zT i f ρ= .ex c:=by rw [Jg,h]; rfl
theorem set4 {w t x v:T} {f:En->R T} (h:f (en6 w t x .non)= .ok v):zT 4 f (en6 w t x .non)= .nx (en6 w t x v):=by rw [Z3 h]; rfl
theorem ifE_t {g:En->R Bool} {f f' :En->R T} {ρ:En} (h:g ρ= .ok true):ifE g f f' ρ=f ρ:=by unfold ifE; rw [h]; rfl
theorem ifE_f {g:En->R Bool} {f f' :En->R T} {ρ:En} (h:g ρ= .ok false):ifE g f f' ρ=f' ρ:=by unfold ifE; rw [h]; rfl
abbrev enL (ns:List Int) (k:Kd) (c d e f g h i:Sl):En:=[.vl (scr ns), .vl k.t, .vl (.lst k.all),c,d,e,f,g,h,i]
theorem len2 {ns:List Int} {k:Kd} {c d e f g h i:Sl}:ap1 ZO (vB 2) (enL ns k c d e f g h i)= .ok (.int (k.all.length:Int)):=rfl
theorem nn_ii {i:Int}:neC (.int i) (.int i)= .ok false:=by show R.ok (!(i == i))=_; simp
theorem ns_ii {i:Str}:neC (.str i) (.str i)= .ok false:=by show R.ok (!(i == i))=_; simp
abbrev nmE:En->R T:=zf ixT (J0 (z9 (cE (.int 0)) (z9 (zf jG (ap1 ZO (vB 2)) (cE (.int 1))) (z9 (zc 3 f_2 (z9 (vE 0) (z9 (zf zw (cE (.int 4000)) (vE 4)) (z9 (ap1 ZO (vB 2)) (zj))))) (zj))))) (zf Wp (vE 4) (cE (.int 2)))
theorem lst3 {f g h:En->R T} {ρ:En} {x y z:T} (hf:f ρ= .ok x) (hg:g ρ= .ok y) (hh:h ρ= .ok z):J0 (z9 f (z9 g (z9 h zj))) ρ= .ok (.lst [x,y,z]):=by
 unfold J0 z9 zj
 rw [hf,hg,hh]; rfl
theorem nm_ok (ns:List Int) {k:Kd} (hk:k.Ok 3) (j:Nat) (c e f g h i:Sl):∃ n:Nat,n < k.all.length/\nmE (enL ns k c (.vl (.int (0+(j:Int)))) e f g h i)= .ok (.int (n:Int)):=by
 have hpos:=ZX 3 k hk
 obtain ⟨q,hq,q0,q1⟩:=zU ns (4000+(0+(j:Int))) (k.all.length:Int) (by omega) (by omega)
 have e1:zf jG (ap1 ZO (vB 2)) (cE (.int 1)) (enL ns k c (.vl (.int (0+(j:Int)))) e f g h i)= .ok (.int ((k.all.length:Int) - 1)):=rfl
 have e2:zc 3 f_2 (z9 (vE 0) (z9 (zf zw (cE (.int 4000)) (vE 4)) (z9 (ap1 ZO (vB 2)) (zj)))) (enL ns k c (.vl (.int (0+(j:Int)))) e f g h i)= .ok (.int q):=by
  rw [Zz,v0,bOk,zp,Z7,bOk,v4,bOk,Zj,bOk,len2,bOk,hq]
 have e0:cE (.int 0) (enL ns k c (.vl (.int (0+(j:Int)))) e f g h i)= .ok (.int 0):=rfl
 have e3:zf Wp (vE 4) (cE (.int 2)) (enL ns k c (.vl (.int (0+(j:Int)))) e f g h i)= .ok (.int ((min j 2:Nat):Int)):=by
  rw [zp,v4,bOk,Z7,bOk]
  unfold Wp
  dsimp only
  congr 2
  by_cases hj:j<=2
  ·rw [if_neg (by omega)]; omega
  ·rw [if_pos (by omega)]; omega
 rw [nmE,zp,lst3 e0 e1 e2,bOk,e3,bOk]
 have hm:min j 2=0\/min j 2=1\/min j 2=2:=by omega
 rcases hm with hm | hm | hm
 ·exact ⟨0,by omega,by rw [hm]; rfl⟩
 ·refine ⟨k.all.length - 1,by omega, ?_⟩
  rw [hm]
  show R.ok (T.int ((k.all.length:Int) - 1))=_
  congr 2; omega
 ·refine ⟨q.toNat,by omega, ?_⟩
  rw [hm]
  show R.ok (T.int q)=_
  congr 2; omega
theorem v2L {ns:List Int} {k:Kd} {c d e f g h i:Sl}:vE 2 (enL ns k c d e f g h i)= .ok (.lst k.all):=rfl
theorem v1L {ns:List Int} {k:Kd} {c d e f g h i:Sl}:vE 1 (enL ns k c d e f g h i)= .ok k.t:=rfl
theorem v5L {ns:List Int} {k:Kd} {c d f g h i:Sl} {t:T}:vE 5 (enL ns k c d (.vl t) f g h i)= .ok t:=rfl
theorem w5L {ns:List Int} {k:Kd} {c d f g h i:Sl} {t:T}:vB 5 (enL ns k c d (.vl t) f g h i)= .ok t:=rfl
inductive W:Nat->T->Prop where
 | int (d:Nat) (i:Int):W d (.int i)
 | str (d:Nat) (s:Str):W d (.str s)
 | tup {d:Nat} {xs:List T} (h:xs.length<=3) (r:∀ x∈xs,W d x):W (d+1) (.tup xs)
theorem gu:∀ (d:Nat) (k:Kd) (x:T),k.Ok (d+1)->k.has x=true->W d x
 | d, .whole lo hi,x,_,h=>by
  cases x <;> first | exact .int _ _ | (simp [Kd.has,inR] at h)
 | d, .pick cs,x,_,h=>by
  cases x <;> first | exact .str _ _ | (simp [Kd.has] at h)
 | 0, .row ks,x,hk,h=>by
  obtain ⟨h1,h3,hk⟩:=hk
  match ks,h1,hk with
  | k :: _,_,hk=>exact (hk k List.mem_cons_self).elim
 | 0, .many k lo hi,x,hk,h=>hk.2.2.elim
 | d+1, .row ks,x,hk,h=>by
  obtain ⟨h1,h3,hk⟩:=hk
  cases x with
  | tup xs=>
   rw [Kd.has] at h
   simp only [Bool.and_eq_true,beq_iff_eq] at h
   obtain ⟨hl,hh⟩:=h
   refine .tup (by omega) fun x hx=> ?_
   obtain ⟨k,hm,hx'⟩:=uY ks xs hl hh x hx
   exact gu d k x (hk k hm) hx'
  | _=>simp [Kd.has] at h
 | d+1, .many k lo hi,x,hk,h=>by
  obtain ⟨h1,h3,hk⟩:=hk
  cases x with
  | tup xs=>
   rw [Kd.has] at h
   simp only [Bool.and_eq_true,decide_eq_true_eq,List.all_eq_true] at h
   obtain ⟨⟨hl,hl'⟩,hh⟩:=h
   refine .tup (by omega) fun x hx=> ?_
   exact gu d k x hk (hh x hx)
  | _=>simp [Kd.has] at h
mutual
def lv:T->List T
 | .tup xs=>lvs xs
 | .non=>[.non]
 | .bl b=>[.bl b]
 | .int b=>[.int b]
 | .str b=>[.str b]
 | .lst b=>[.lst b]
 | .fz b=>[.fz b]
def lvs:List T->List T
 | []=>[]
 | x :: xs=>lv x++lvs xs
end
theorem QP (xs:List T):lv (.tup xs)=lvs xs:=by rw [lv]
theorem QQ (i:Int):lv (.int i)=[.int i]:=by rw [lv]
theorem QR (i:Str):lv (.str i)=[.str i]:=by rw [lv]
theorem U5 (x:T) (xs:List T):lvs (x :: xs)=lv x++lvs xs:=by rw [lvs]
theorem Yt:lvs []=[]:=by rw [lvs]
theorem Yu {n:Nat}:∀ xs:List T,(∀ x∈xs,(lv x).length<=n)->(lvs xs).length<=xs.length*n
 | [],_=>by rw [Yt]; exact Nat.zero_le _
 | x :: xs,h=>by
  rw [U5,List.length_append,List.length_cons,Nat.succ_mul]
  have h1:=h x List.mem_cons_self
  have h2:=Yu xs fun y hy=>h y (List.mem_cons_of_mem _ hy)
  omega
theorem GO (d:Nat):1<=3 ^ d:=Nat.one_le_pow _ _ (by omega)
theorem QS {d:Nat} {x:T} (h:W d x):(lv x).length<=3 ^ d:=by
 induction h with
 | int d i=>rw [QQ]; exact GO d
 | str d i=>rw [QR]; exact GO d
 | @tup d xs h r ih=>
  rw [QP]
  have:=Yu (n:=3 ^ d) xs ih
  have h3:=Nat.mul_le_mul_right (3 ^ d) h
  rw [Nat.pow_succ]
  omega
theorem XU {i:Nat} {f:En->R T} {ρ:En} {ts us:List T} (hi:ρ[i]? =some (.ow ts)) (h:f ρ= .ok (.lst us)) (hl:ts.length+us.length<=bnd):YW i f ρ= .nx (ρ.set i (.ow (ts++us))):=by
 unfold YW
 rw [hi]
 dsimp only
 rw [h,ZL]
 dsimp only
 rw [if_pos hl]
abbrev loB (c:List T->R T):En->RS:=YW 1 (zc 1 c (z9 (vE 2) (zj)))
theorem Yv {c:List T->R T} {n:Nat} (hn:n<=1000) {a:Sl}:∀ (xs:List T) (acc:List T) (x:Sl),(∀ x∈xs,c [x]= .ok (.lst (lv x))/\(lv x).length<=n)->acc.length+xs.length*n<=1000000->
  ∃ x',ZC (zG 2) (loB c) xs [a, .ow acc,x]= .nx [a, .ow (acc++lvs xs),x']
 | [],acc,x,_,_=>⟨x,by rw [Yt,List.append_nil]; rfl⟩
 | y :: xs,acc,x,H,hb=>by
  obtain ⟨e,hl⟩:=H y List.mem_cons_self
  rw [List.length_cons,Nat.succ_mul] at hb
  have hB:bnd=16777216:=rfl
  obtain ⟨x',h⟩:=Yv hn (a:=a) xs (acc++lv y) (.vl y) (fun z hz=>H z (List.mem_cons_of_mem _ hz)) (by rw [List.length_append]; omega)
  refine ⟨x', ?_⟩
  have s2:zG 2 y [a, .ow acc,x]= .ok [a, .ow acc, .vl y]:=rfl
  have b2:loB c [a, .ow acc, .vl y]= .nx [a, .ow (acc++lv y), .vl y]:=by
   have z:zc 1 c (z9 (vE 2) (zj)) [a, .ow acc, .vl y]= .ok (.lst (lv y)):=by rw [zL,v2,bOk,e]
   exact XU (i:=1) (ts:=acc) (us:=lv y) rfl z (by omega)
  rw [Jj s2 b2,h,U5,List.append_assoc]
theorem Yw {x:T} {r:En}:wl (jC (ap1 (uE "tuple") (vB 0))) (.vl x :: r)= .ok (!(match x with | .tup _=>true | _=>false)):=by
 rw [jZ,ZW,j7,w0,bOk,Y4,bOk,jf,bOk]
 all_goals (cases x <;> rfl)
theorem JU:∀ (n d:Nat),d < n->d<=3->∀ x:T,W d x->S_g n 0 [x]= .ok (.lst (lv x))
 | 0,d,h,_,_,_=>absurd h (Nat.not_lt_zero _)
 | n+1,d,h,h3,x,hx=>by
  show zn (b_g (S_g n 0) [.vl x, .un, .un])=_
  rw [b_g]
  cases hx with
  | int d i=>
   rw [zJ (by rw [jg Yw]; exact zr (XI v0)),QQ]
   rfl
  | str d i=>
   rw [zJ (by rw [jg Yw]; exact zr (XI v0)),QR]
   rfl
  | @tup d xs hl r=>
   have hp:3 ^ d<=27:=Nat.pow_le_pow_right (n:=3) (by omega) (show d<=3 by omega)
   obtain ⟨x',el⟩:=Yv (c:=S_g n 0) (n:=3 ^ d) (by omega) (a:= .vl (.tup xs)) xs [] .un (fun y hy=>⟨JU n d (by omega) (by omega) y (r y hy),QS (r y hy)⟩) (by have:=Nat.mul_le_mul hl hp; simp; omega)
   have e1:uF 1 zj [.vl (.tup xs), .un, .un]= .nx [.vl (.tup xs), .ow [], .un]:=rfl
   have e2:jV (j6 (vE 0)) (zG 2) (loB (S_g n 0)) [.vl (.tup xs), .ow [], .un]= .nx [.vl (.tup xs), .ow ([]++lvs xs),x']:=by
    unfold jV
    rw [jx,v0,bOk]
    exact el
   rw [zg (zv Yw),zg e1,zg e2,List.nil_append,QP]
   rfl
theorem wz {ft:En->R Bool} {p:T->Bool} {k:Nat} {js:List Nat} {ρ:En} {fe:En->R T} (ts:List T) (hl:ts.length<=bnd) (H:∀ t∈ts,ft ((Wq k js ρ).set 0 (.vl t))= .ok (p t)/\fe ((Wq k js ρ).set 0 (.vl t))= .ok t):zS (zG 0) ft fe k js ρ ts= .ok (ts.filter p):=by
 unfold zS
 rw [if_pos hl,jv (p:=p) (h:=id) ts _ fun t ht=>⟨(H t ht).1,fun _=>(H t ht).2⟩,List.map_id]
 rfl
def WV:List T->List Int
 | []=>[]
 | .int i :: r=>i :: WV r
 | .non :: r=>WV r
 | .bl _ :: r=>WV r
 | .str _ :: r=>WV r
 | .tup _ :: r=>WV r
 | .lst _ :: r=>WV r
 | .fz _ :: r=>WV r
theorem WM:∀ ts:List T,ts.filter isW=(WV ts).map T.int
 | []=>rfl
 | t :: ts=>by
  have ih:=WM ts
  rw [List.filter_cons,ih]
  cases t <;> rfl
theorem Yx:∀ is:List Int,jt (is.map T.int)=some is
 | []=>rfl
 | i :: is=>by
  have e:jt ((i :: is).map T.int)=match jt (is.map T.int) with | some l=>some (i :: l) | none=>none:=rfl
  rw [e,Yx is]
theorem U6:∀ ts:List T,(WV ts).length<=ts.length
 | []=>Nat.le_refl _
 | t :: ts=>by
  have ih:=U6 ts
  cases t <;> simp only [WV,List.length_cons] <;> omega
theorem w9 {d:Nat} {x:T} (hd:d<=2) (h:W d x):(lv x).length<=9:=Nat.le_trans (QS h) (Nat.pow_le_pow_right (n:=3) (by omega) hd)
theorem UM {d:Nat} (hd:d<=2) {x:T} (h:W d x):f_z [x]= .ok (.lst ((WV (lv x)).map T.int)):=by
 show zn (b_z f_d (f_g 8) [.vl x])=_
 have hl:=w9 hd h
 have ec:zS (zG 0) (jC (zc 1 f_d (z9 (vE 0) (zj)))) (vE 0) 1 [] [.vl x] (lv x)= .ok ((lv x).filter isW):=
  wz _ (by have hB:bnd=16777216:=rfl; omega) fun t _=>⟨by
   show jC _ [.vl t]=_
   rw [ZW,zL,v0,bOk,wO,bOk,jf],rfl⟩
 rw [b_z,zr (t:= .lst ((WV (lv x)).map T.int))]
 ·rfl
 ·show zY _ _ _ _ _ _ [.vl x]=_
  have hv:f_g 8 [x]= .ok (.lst (lv x)):=JU 8 d (by omega) (by omega) x h
  rw [Zi,jx,zL,v0,bOk,hv,bOk]
  show ((zS _ _ _ _ _ _ (lv x)).bind _)=_
  rw [ec,bOk,WM]
def asc (is:List Int):Bool:=(is.zip (is.drop 1)).all fun q=>decide (q.1<=q.2)
theorem Yy:∀ (qs:List (Int×Int)) (x y:Sl),zM (Za 0 1) Z2 (jh leC (vB 0) (vB 1)) (qs.map fun q=>T.tup [.int q.1, .int q.2]) [x,y]= .ok (qs.map fun q=>T.bl (decide (q.1<=q.2)))
 | [],_,_=>rfl
 | q :: qs,x,y=>by
  have ih:=Yy qs (.vl (.int q.1)) (.vl (.int q.2))
  have e0:zM (Za 0 1) Z2 (jh leC (vB 0) (vB 1)) ((q :: qs).map fun q=>T.tup [.int q.1, .int q.2]) [x,y]=
   (R.ok (T.bl (decide (q.1<=q.2)))).bind fun v=>(zM (Za 0 1) Z2 (jh leC (vB 0) (vB 1)) (qs.map fun q=>T.tup [.int q.1, .int q.2]) [.vl (.int q.1), .vl (.int q.2)]).bind fun vs=> .ok (v :: vs):=rfl
  rw [e0,bOk,ih,bOk,List.map_cons]
theorem ui (xs:List T):cut xs (some ((1:Nat):Int)) none=xs.drop 1:=by
 unfold cut
 rw [HT.sIx_nat,HT.sIx_none]
 by_cases h:1<=xs.length
 ·rw [Nat.min_eq_left h,List.take_of_length_le (by rw [List.length_drop]; omega)]
 ·have:xs=[]:=List.length_eq_zero_iff.mp (by omega)
  subst this; rfl
theorem Yz (is:List Int) (hl:is.length<=100):kX [.lst (is.map T.int)]= .ok (.bl (asc is)):=by
 show zn (kW [.vl (.lst (is.map T.int))])=_
 have hz:KM (vE 0) (slE (vE 0) (Zr (cE (.int 1))) (noO)) [.vl (.lst (is.map T.int))]= .ok ((is.zip (is.drop 1)).map fun q=>T.tup [.int q.1, .int q.2]):=by
  show R.ok (qI (is.map T.int) (cut (is.map T.int) (some ((1:Nat):Int)) none))=_
  rw [ui,← List.map_drop]
  unfold qI
  rw [List.zip_map,List.map_map]
  rfl
 have ec:zS (Za 0 1) Z2 (jh leC (vB 0) (vB 1)) 2 [] [.vl (.lst (is.map T.int))] ((is.zip (is.drop 1)).map fun q=>T.tup [.int q.1, .int q.2])= .ok ((is.zip (is.drop 1)).map fun q=>T.bl (decide (q.1<=q.2))):=by
  unfold zS
  rw [if_pos (by rw [List.length_map,List.length_zip]; have hB:bnd=16777216:=rfl; omega)]
  show quiet (zM _ _ _ _ [.un, .un])=_
  rw [Yy]
  rfl
 rw [kW,zr (t:= .bl (asc is))]
 ·rfl
 ·show ap1 qy _ [.vl (.lst (is.map T.int))]=_
  rw [j7,Zi,hz,bOk,ec,bOk,bOk]
  show (match WT _ with | some k=>R.ok (T.bl k) | none=> .bad)=_
  rw [uX (fun q:Int×Int=>decide (q.1<=q.2))]
  rfl
theorem XV (is:List Int):Vg (.lst (is.map T.int))= .ok (.int is.sum):=by
 unfold Vg
 dsimp only
 rw [Yx]
def inB (xs:List T) (x:T):Bool:=(W5 (fun y=>eqF 30 y x) xs).getD false
theorem XW {xs:List T} (x:T) (h:∀ y∈xs,Pl 30 y):W5 (fun y=>eqF 30 y x) xs=some (inB xs x):=by
 obtain ⟨b,e,_⟩:=WL (f:=fun y=>eqF 30 y x) xs fun t ht=>Jy 30 t x (h t ht)
 unfold inB
 rw [e]
 rfl
theorem W.pl {d:Nat} {x:T} (h:W d x):Pl (d+1) x:=by
 induction h with
 | int d i=>exact trivial
 | str d i=>exact trivial
 | @tup d xs h r ih=>exact ih
theorem W.pl30 {d:Nat} {x:T} (h:W d x) (hd:d<=2):Pl 30 x:=h.pl.le (by omega)
def UN:T->List T
 | .tup xs=>xs
 | .non=>[.non]
 | .bl b=>[.bl b]
 | .int b=>[.int b]
 | .str b=>[.str b]
 | .lst b=>[.lst b]
 | .fz b=>[.fz b]
theorem Q9 {d:Nat} {x:T} (h:W d x):kY [x]= .ok (.tup (UN x)):=by cases h <;> rfl
theorem YA {d:Nat} {x:T} (h:W d x):(UN x).length<=3:=by
 cases h with
 | int=>exact (by decide:1<=3)
 | str=>exact (by decide:1<=3)
 | tup h _=>exact h
theorem Qa {d:Nat} {x:T} (h:W d x) (hd:d<=2):∀ y∈UN x,Pl 30 y:=by
 cases h with
 | int=>intro y hy; rw [List.mem_singleton.mp hy]; exact trivial
 | str=>intro y hy; rw [List.mem_singleton.mp hy]; exact trivial
 | @tup d xs h r=>intro y hy; exact (r y hy).pl30 (by omega)
def un (ps:List T):Bool:= !(ps.zipIdx.any fun p=>inB (ps.take p.2) p.1)
theorem YB {xs:List T} {k:Nat}:slT (.tup xs) none (some (k:Int))= .ok (.tup (xs.take k)):=by
 show R.ok (T.tup (cut xs none (some (k:Int))))=_
 have:cut xs none (some (k:Int))=xs.take k:=by
  unfold cut
  rw [HT.sIx_none,HT.sIx_nat]
  simp only [List.drop_zero,Nat.sub_zero]
  rw [List.take_eq_take_iff]
  omega
 rw [this]
theorem VJ {ps:List T} (h:∀ y∈ps,Pl 30 y) (k:Nat) (x:T):inC x (.tup (ps.take k))= .ok (inB (ps.take k) x):=by
 show (match W5 (fun y=>eqF 30 y x) (ps.take k) with | some b=>R.ok b | none=> .bad)=_
 rw [XW x fun y hy=>h y (List.mem_of_mem_take hy)]
abbrev ulE:En->R T:=jh inC (vB 1) (slE (vE 2) (noO) (Zr (vE 0)))
theorem YC {ps:List T} (h:∀ y∈ps,Pl 30 y):∀ (qs:List (T×Nat)) (x y:Sl),zM (Za 0 1) Z2 ulE (qs.map fun p=>T.tup [.int (p.2:Nat),p.1]) [x,y, .vl (.tup ps)]= .ok (qs.map fun p=>T.bl (inB (ps.take p.2) p.1))
 | [],_,_=>rfl
 | q :: qs,x,y=>by
  have ih:=YC h qs (.vl (.int (q.2:Nat))) (.vl q.1)
  have e:ulE [.vl (.int (q.2:Nat)), .vl q.1, .vl (.tup ps)]= .ok (.bl (inB (ps.take q.2) q.1)):=by
   have e2:slE (vE 2) noO (Zr (vE 0)) [.vl (.int (q.2:Nat)), .vl q.1, .vl (.tup ps)]=slT (.tup ps) none (some (q.2:Int)):=rfl
   unfold ulE
   rw [jP,w1,bOk,e2,YB,bOk,VJ h,bOk]
  have e0:zM (Za 0 1) Z2 ulE ((q :: qs).map fun p=>T.tup [.int (p.2:Nat),p.1]) [x,y, .vl (.tup ps)]=
   (ulE [.vl (.int (q.2:Nat)), .vl q.1, .vl (.tup ps)]).bind fun v=>(zM (Za 0 1) Z2 ulE (qs.map fun p=>T.tup [.int (p.2:Nat),p.1]) [.vl (.int (q.2:Nat)), .vl q.1, .vl (.tup ps)]).bind fun vs=> .ok (v :: vs):=rfl
  rw [e0,e,bOk,ih,bOk,List.map_cons]
theorem WN {α:Type} (p:α->Bool):∀ qs:List α,w8 (qs.map fun q=>T.bl (p q))=some (qs.any p)
 | []=>rfl
 | q :: qs=>by
  have e:w8 ((q :: qs).map fun q=>T.bl (p q))=match w8 (qs.map fun q=>T.bl (p q)) with | some j=>some (p q || j) | none=>none:=rfl
  rw [e,WN p qs]
  rfl
theorem YD {ps:List T} (h:∀ y∈ps,Pl 30 y) (hl:ps.length<=100):kU [.tup ps]= .ok (.bl (un ps)):=by
 show zn (kT [.vl (.tup ps)])=_
 have ec:zS (Za 0 1) Z2 ulE 2 [0] [.vl (.tup ps)] (ZQ ps)= .ok (ps.zipIdx.map fun p=>T.bl (inB (ps.take p.2) p.1)):=by
  unfold zS
  rw [if_pos (by unfold ZQ; rw [List.length_map,List.length_zipIdx]; have hB:bnd=16777216:=rfl; omega)]
  show quiet (zM _ _ _ _ [.un, .un, .vl (.tup ps)])=_
  unfold ZQ
  rw [YC h]
  rfl
 rw [kT,zr (t:= .bl (un ps))]
 ·rfl
 ·have e1:zY (uP (vE 0)) (Za 0 1) Z2 ulE 2 [0] [.vl (.tup ps)]= .ok (.lst (ps.zipIdx.map fun p=>T.bl (inB (ps.take p.2) p.1))):=by
   rw [Zi]
   show ((R.ok (ZQ ps)).bind _)=_
   rw [bOk,ec,bOk]
  have e2:ap1 KT (zY (uP (vE 0)) (Za 0 1) Z2 ulE 2 [0]) [.vl (.tup ps)]= .ok (.bl (ps.zipIdx.any fun p=>inB (ps.take p.2) p.1)):=by
   rw [j7,e1,bOk]
   show (match w8 _ with | some k=>R.ok (T.bl k) | none=> .bad)=_
   rw [WN (fun p:T×Nat=>inB (ps.take p.2) p.1)]
  show qv _ [.vl (.tup ps)]=_
  unfold qv
  rw [e2,bOk]
  rfl
def gv (w:Str):T->Bool
 | .str x=>x == w
 | _=>false
theorem gw (w:Str) (n:Nat):∀ t:T,eqF n t (.str w)=some (gv w t)
 | .str x=>by cases n <;> rfl
 | .non=>by cases n <;> rfl
 | .bl _=>by cases n <;> rfl
 | .int _=>by cases n <;> rfl
 | .tup _=>by cases n <;> rfl
 | .lst _=>by cases n <;> rfl
 | .fz _=>by cases n <;> rfl
theorem YE (w:Str):∀ ts:List T,W5 (fun y=>eqF 30 y (.str w)) ts=some (ts.any (gv w))
 | []=>rfl
 | t :: ts=>by
  have e:W5 (fun y=>eqF 30 y (.str w)) (t :: ts)=match eqF 30 t (.str w) with
   | none=>none
   | some b=>match W5 (fun y=>eqF 30 y (.str w)) ts with
    | none=>none
    | some d=>some (b || d):=rfl
  rw [e,gw,YE w ts]
  rfl
inductive Ru where
 | sum (a b:Int) | size (a b:Int) | word (w:Str) | rising | unlike | no (r:Ru) | all (r s:Ru) | some (r s:Ru)
def Ru.t:Ru->T
 | .sum a b=> .tup [.str "sum", .int a, .int b]
 | .size a b=> .tup [.str "size", .int a, .int b]
 | .word w=> .tup [.str "word", .str w]
 | .rising=> .tup [.str "rising"]
 | .unlike=> .tup [.str "unlike"]
 | .no r=> .tup [.str "no",r.t]
 | .all r s=> .tup [.str "all",r.t,s.t]
 | .some r s=> .tup [.str "some",r.t,s.t]
inductive jF:Nat->Ru->Prop where
 | sum {d:Nat} {a b:Int} (ha: -50<=a/\a<=50) (hb: -50<=b/\b<=50):jF (d+1) (.sum a b)
 | size {d:Nat} {a b:Int} (ha: -50<=a/\a<=50) (hb: -50<=b/\b<=50):jF (d+1) (.size a b)
 | word {d:Nat} {w:Str} (h:Zm (.str w)=true):jF (d+1) (.word w)
 | rising {d:Nat}:jF (d+1) .rising
 | unlike {d:Nat}:jF (d+1) .unlike
 | no {d:Nat} {r:Ru} (h:jF d r):jF (d+1) (.no r)
 | all {d:Nat} {r s:Ru} (h:jF d r) (h' :jF d s):jF (d+1) (.all r s)
 | some {d:Nat} {r s:Ru} (h:jF d r) (h' :jF d s):jF (d+1) (.some r s)
theorem jF.up {d:Nat} {r:Ru} (h:jF d r):jF (d+1) r:=by
 induction h with
 | sum ha hb=>exact .sum ha hb
 | size ha hb=>exact .size ha hb
 | word h=>exact .word h
 | rising=>exact .rising
 | unlike=>exact .unlike
 | no h ih=>exact .no ih
 | all h h' ih ih' =>exact .all ih ih'
 | some h h' ih ih' =>exact .some ih ih'
def kp:Ru->T->Bool
 | .sum a b,x=>decide (a<=(WV (lv x)).sum) && decide ((WV (lv x)).sum<=b)
 | .size a b,x=>decide (a<=((UN x).length:Int)) && decide (((UN x).length:Int)<=b)
 | .word w,x=>(lv x).any (gv w)
 | .rising,x=>asc (WV (lv x))
 | .unlike,x=>un (UN x)
 | .no r,x=> !kp r x
 | .all r s,x=>kp r x && kp s x
 | .some r s,x=>kp r x || kp s x
theorem Jz {i:Int} (h: -50<=i/\i<=50):kJ [.int i]= .ok (.bl true):=by
 show zn (kI f_d [.vl (.int i)])=_
 rw [kI,zr (t:= .bl true)]
 ·rfl
 ·show J7 _ _ [.vl (.int i)]=_
  rw [wt,zL,v0,bOk,wO,ZJ,if_pos (show isW (.int i)=true from rfl),qW,QF,Z7,bOk]
  show ((R.ok (T.int (-50))).bind _)=_
  rw [bOk,w0,bOk,ua,decide_eq_true h.1,bOk,if_pos rfl,bOk,ua,decide_eq_true h.2]
  rfl
theorem Zu {x w:Str} {r:List T} {ρ:En} (b:Bool) (h:(x == w)=b):zB eqC (zf ixT (vE 0) (cE (.int 0))) (cE (.str w)) (.vl (.tup (.str x :: r)) :: ρ)= .ok b:=by rw [cs0,h]
theorem U7 {f g:En->R Bool} {ρ:En} {b:Bool} (h:f ρ= .ok false) (h' :g ρ= .ok b):orT f g ρ= .ok b:=by rw [wQ,h,bOk,if_neg Bool.false_ne_true,h']
theorem gx {f g:En->R Bool} {ρ:En} (h:f ρ= .ok true):orT f g ρ= .ok true:=by rw [wQ,h,bOk,if_pos rfl]
theorem wc {f g:En->R T} {ρ:En} {r:R T} (h:f ρ= .ok (.bl true)) (h' :g ρ=r):J7 f g ρ=r:=by rw [wt,h,ZJ,if_pos rfl,h']
theorem QT {xs:List T} {ρ:En} {n:Int} (h:((xs.length:Int) == n)=true):jh eqC (ap1 ZO (vB 0)) (cE (.int n)) (.vl (.tup xs) :: ρ)= .ok (.bl true):=by
 rw [jP,j7,w0,bOk,ub,bOk,Z7,bOk,eqI,h,bOk]
theorem jA {xs:List T} {d:Nat} {x:T}:orT (zB eqC (vB 1) (cE (.int 0))) (orT (wl (jC (ap1 (uE "tuple") (vB 0)))) (zB eqC (ap1 ZO (vB 0)) (cE (.int 0)))) (en2 (.tup (x :: xs)) (.int ((d+1:Nat):Int)))= .ok false:=by
 refine U7 ?_ (U7 ?_ ?_)
 ·rw [Z6,w1,bOk,Z7,bOk,eqI,beq_eq_false_iff_ne.mpr (by omega)]
 ·rw [jZ,ZW,j7,w0,bOk,Y4,bOk,jf,bOk]; rfl
 ·rw [Z6,j7,w0,bOk,ub,bOk,Z7,bOk,eqI,beq_eq_false_iff_ne.mpr (by rw [List.length_cons]; omega)]
theorem Qb {w:Str} (h:Zm (.str w)=true):Vt (.str w):=by
 have h:(decide (1<=w.length) && decide (w.length<=3) && w.cps.toList.all Zh)=true:=h
 simp only [Bool.and_eq_true,decide_eq_true_eq] at h
 show w.length<=bnd
 exact Nat.le_trans h.1.2 (by decide)
theorem jR:∀ (n d:Nat),d<=n->∀ r:Ru,jF d r->S_k n 0 [r.t, .int (d:Int)]= .ok (.bl true)
 | 0,d,h,r,hr=>by
  have:d=0:=by omega
  subst this; cases hr
 | n+1,d,h,r,hr=>by
  show zn (b_k f_o (S_k n 0) kJ (en2 r.t (.int (d:Int))))=_
  rw [b_k]
  cases hr with
  | @sum d a b ha hb=>
   rw [Ru.t,zg (zv jA),zJ (t:= .bl true)]
   ·rfl
   ·rw [jg (gx (Zu true (by decide)))]
    exact zr (wc (QT rfl) (wc (by show zc 1 _ _ (en2 _ _)=_; rw [zL,JX,bOk,Jz ha]) (by show zc 1 _ _ (en2 _ _)=_; rw [zL,UJ,bOk,Jz hb])))
  | @size d a b ha hb=>
   rw [Ru.t,zg (zv jA),zJ (t:= .bl true)]
   ·rfl
   ·rw [jg (U7 (Zu false (by decide)) (Zu true (by decide)))]
    exact zr (wc (QT rfl) (wc (by show zc 1 _ _ (en2 _ _)=_; rw [zL,JX,bOk,Jz ha]) (by show zc 1 _ _ (en2 _ _)=_; rw [zL,UJ,bOk,Jz hb])))
  | @word d w hw=>
   rw [Ru.t,zg (zv jA),zg (zv (U7 (Zu false (by decide)) (Zu false (by decide)))),zJ (t:= .bl true)]
   ·rfl
   ·rw [jg (Zu true (by decide))]
    exact zr (wc (QT rfl) (by show zc 1 _ _ (en2 _ _)=_; rw [zL,JX,bOk,yZ _ (Qb hw),hw]))
  | rising=>
   rw [Ru.t,zg (zv jA),zg (zv (U7 (Zu false (by decide)) (Zu false (by decide)))),zg (zv (Zu false (by decide))),zJ (t:= .bl true)]
   ·rfl
   ·rw [jg (gx (Zu true (by decide)))]
    exact zr (QT rfl)
  | unlike=>
   rw [Ru.t,zg (zv jA),zg (zv (U7 (Zu false (by decide)) (Zu false (by decide)))),zg (zv (Zu false (by decide))),zJ (t:= .bl true)]
   ·rfl
   ·rw [jg (U7 (Zu false (by decide)) (Zu true (by decide)))]
    exact zr (QT rfl)
  | @no d r hr=>
   have ih:=jR n d (by omega) r hr
   rw [Ru.t,zg (zv jA),zg (zv (U7 (Zu false (by decide)) (Zu false (by decide)))),zg (zv (Zu false (by decide))),zg (zv (U7 (Zu false (by decide)) (Zu false (by decide)))),zJ (t:= .bl true)]
   ·rfl
   ·rw [jg (Zu true (by decide))]
    exact zr (wc (QT rfl) (by show zc 2 _ _ (en2 _ _)=_; rw [Zq,JX,bOk,zp,v1,bOk,Z7,bOk,ZD,bOk,show ((d+1:Nat):Int) - 1=(d:Int) by omega,ih]))
  | @all d r s hr hs=>
   have ih:=jR n d (by omega) r hr
   have ih' :=jR n d (by omega) s hs
   rw [Ru.t,zg (zv jA),zg (zv (U7 (Zu false (by decide)) (Zu false (by decide)))),zg (zv (Zu false (by decide))),zg (zv (U7 (Zu false (by decide)) (Zu false (by decide)))),zg (zv (Zu false (by decide))),zJ (t:= .bl true)]
   ·rfl
   ·rw [jg (gx (Zu true (by decide)))]
    exact zr (wc (QT rfl) (wc (by show zc 2 _ _ (en2 _ _)=_; rw [Zq,JX,bOk,zp,v1,bOk,Z7,bOk,ZD,bOk,show ((d+1:Nat):Int) - 1=(d:Int) by omega,ih]) (by show zc 2 _ _ (en2 _ _)=_; rw [Zq,UJ,bOk,zp,v1,bOk,Z7,bOk,ZD,bOk,show ((d+1:Nat):Int) - 1=(d:Int) by omega,ih'])))
  | @some d r s hr hs=>
   have ih:=jR n d (by omega) r hr
   have ih' :=jR n d (by omega) s hs
   rw [Ru.t,zg (zv jA),zg (zv (U7 (Zu false (by decide)) (Zu false (by decide)))),zg (zv (Zu false (by decide))),zg (zv (U7 (Zu false (by decide)) (Zu false (by decide)))),zg (zv (Zu false (by decide))),zJ (t:= .bl true)]
   ·rfl
   ·rw [jg (U7 (Zu false (by decide)) (Zu true (by decide)))]
    exact zr (wc (QT rfl) (wc (by show zc 2 _ _ (en2 _ _)=_; rw [Zq,JX,bOk,zp,v1,bOk,Z7,bOk,ZD,bOk,show ((d+1:Nat):Int) - 1=(d:Int) by omega,ih]) (by show zc 2 _ _ (en2 _ _)=_; rw [Zq,UJ,bOk,zp,v1,bOk,Z7,bOk,ZD,bOk,show ((d+1:Nat):Int) - 1=(d:Int) by omega,ih'])))
theorem Jk {r:Ru} (h:jF 3 r):f_s [r.t]= .ok .non:=by
 have e:f_7 [r.t]= .ok (.bl true):=by
  show zn (b_7 (f_k 8) [.vl r.t])=_
  rw [b_7,zr (t:= .bl true)]
  ·rfl
  ·show zc 2 _ _ [.vl r.t]=_
   rw [Zq,v0,bOk,Z7,bOk]
   exact jR 8 3 (by omega) r h
 show zn (b_s f_7 [.vl r.t])=_
 rw [b_s,GK (by rw [jZ,ZW,zL,v0,bOk,e,bOk,jf,bOk]; rfl)]
 rfl
theorem XX {f g h:En->R T} {ρ:En} {i j k:Int} (hf:f ρ= .ok (.int i)) (hg:g ρ= .ok (.int j)) (hh:h ρ= .ok (.int k)):chE leC leC f g h ρ= .ok (.bl (decide (i<=j) && decide (j<=k))):=by
 rw [qW,hf,bOk,hg,bOk,ua,bOk]
 cases decide (i<=j) with
 | true=>rw [if_pos rfl,hh,bOk,ua,bOk,Bool.true_and]
 | false=>rw [if_neg Bool.false_ne_true,Bool.false_and]
theorem YF {r:Ru} {x:T} {d:Nat} (hd:d<=2) (h:W d x) (b:Bool) (hr:(match r with | .no _=>False | .all _ _=>False | .some _ _=>False | _=>True)):Xu [r.t,x]= .ok (.bl (kp r x)):=by
 have hn:=UM hd h
 have hp:=Q9 h
 have hv:f_g 8 [x]= .ok (.lst (lv x)):=JU 8 d (by omega) (by omega) x h
 have hi:(WV (lv x)).length<=9:=Nat.le_trans (U6 _) (w9 hd h)
 show zn (kZ kY (f_g 8) f_z kX kU (en2 r.t x))=_
 rw [kZ]
 cases r with
 | sum a b=>
  rw [Ru.t,zJ (t:= .bl (kp (.sum a b) x))]
  ·rfl
  ·rw [jg (Zu true (by decide))]
   refine zr ?_
   show chE _ _ _ _ _ (en2 _ x)=_
   exact XX JX (by rw [j7,zL,v1,bOk,hn,bOk,XV]) UJ
 | size a b=>
  rw [Ru.t,zg (zv (Zu false (by decide))),zJ (t:= .bl (kp (.size a b) x))]
  ·rfl
  ·rw [jg (Zu true (by decide))]
   refine zr ?_
   show chE _ _ _ _ _ (en2 _ x)=_
   exact XX JX (by rw [j7,zL,v1,bOk,hp,bOk,ub]) UJ
 | word w=>
  rw [Ru.t,zg (zv (Zu false (by decide))),zg (zv (Zu false (by decide))),zJ (t:= .bl (kp (.word w) x))]
  ·rfl
  ·rw [jg (Zu true (by decide))]
   refine zr ?_
   show jh _ _ _ (en2 _ x)=_
   rw [jP,JX,bOk,zL,v1,bOk,hv,bOk]
   show ((match W5 (fun y=>eqF 30 y (.str w)) (lv x) with | some b=>R.ok b | none=> .bad).bind _)=_
   rw [YE]
   rfl
 | rising=>
  rw [Ru.t,zg (zv (Zu false (by decide))),zg (zv (Zu false (by decide))),zg (zv (Zu false (by decide))),zJ (t:= .bl (kp .rising x))]
  ·rfl
  ·rw [jg (Zu true (by decide))]
   refine zr ?_
   show zc 1 _ _ (en2 _ x)=_
   rw [zL,zL,v1,bOk,hn,bOk,Yz _ (by omega)]
   rfl
 | unlike=>
  rw [Ru.t,zg (zv (Zu false (by decide))),zg (zv (Zu false (by decide))),zg (zv (Zu false (by decide))),zg (zv (Zu false (by decide))),zr (t:= .bl (kp .unlike x))]
  ·rfl
  ·show zc 1 _ _ (en2 _ x)=_
   rw [zL,zL,v1,bOk,hp,bOk,YD (Qa h hd) (Nat.le_trans (YA h) (by omega))]
   rfl
 | no=>exact hr.elim
 | all=>exact hr.elim
 | some=>exact hr.elim
theorem VL {f:En->R T} {ρ:En} {b:Bool} (h:f ρ= .ok (.bl b)):qv f ρ= .ok (.bl (!b)):=by unfold qv; rw [h]; rfl
theorem VM {f g:En->R T} {ρ:En} {a b:Bool} (h:f ρ= .ok (.bl a)) (h' :g ρ= .ok (.bl b)):J7 f g ρ= .ok (.bl (a && b)):=by
 rw [wt,h,h',ZJ]; cases a <;> rfl
theorem YG {f g:En->R T} {ρ:En} {a b:Bool} (h:f ρ= .ok (.bl a)) (h' :g ρ= .ok (.bl b)):orE f g ρ= .ok (.bl (a || b)):=by
 unfold orE; rw [h,bOk]; cases a with
 | true=>rfl
 | false=>exact h'
theorem Jc {x:T} {e:Nat} (he:e<=2) (hx:W e x):∀ (n d:Nat),d<=n->∀ r:Ru,jF d r->S_f n 0 [r.t,x]= .ok (.bl (kp r x))
 | 0,d,h,r,hr=>by
  have:d=0:=by omega
  subst this; cases hr
 | n+1,d,h,r,hr=>by
  show zn (b_f (S_f n 0) Xu (en2 r.t x))=_
  rw [b_f]
  have fin:∀ (r:Ru) (s:Str) (q:List T),r.t= .tup (.str s :: q)->(s == "no")=false->(s == "all")=false->(s == "some")=false->(match r with | .no _=>False | .all _ _=>False | .some _ _=>False | _=>True)->
    zn (zx (ifS (zB eqC (zf ixT (vE 0) (cE (.int 0))) (cE (.str "no"))) (zI (qv (zc 2 (S_f n 0) (z9 (zf ixT (vE 0) (cE (.int 1))) (z9 (vE 1) (zj)))))) (nxS))
  (zx (ifS (zB eqC (zf ixT (vE 0) (cE (.int 0))) (cE (.str "all"))) (zI (J7 (zc 2 (S_f n 0) (z9 (zf ixT (vE 0) (cE (.int 1))) (z9 (vE 1) (zj)))) (zc 2 (S_f n 0) (z9 (zf ixT (vE 0) (cE (.int 2))) (z9 (vE 1) (zj)))))) (nxS))
  (zx (ifS (zB eqC (zf ixT (vE 0) (cE (.int 0))) (cE (.str "some"))) (zI (orE (zc 2 (S_f n 0) (z9 (zf ixT (vE 0) (cE (.int 1))) (z9 (vE 1) (zj)))) (zc 2 (S_f n 0) (z9 (zf ixT (vE 0) (cE (.int 2))) (z9 (vE 1) (zj)))))) (nxS))
  (zI (zc 2 Xu (z9 (vE 0) (z9 (vE 1) (zj))))))) (en2 r.t x))= .ok (.bl (kp r x)):=by
   intro r s q e h1 h2 h3 hm
   have hs:=YF he hx true hm
   rw [e] at hs ⊢
   rw [zg (zv (Zu false h1)),zg (zv (Zu false h2)),zg (zv (Zu false h3)),zr (t:= .bl (kp r x))]
   ·rfl
   ·show zc 2 _ _ (en2 _ x)=_
    rw [Zq,v0,bOk,v1,bOk,hs]
  cases hr with
  | @sum d a b ha hb=>exact fin (.sum a b) "sum" _ rfl (by decide) (by decide) (by decide) trivial
  | @size d a b ha hb=>exact fin (.size a b) "size" _ rfl (by decide) (by decide) (by decide) trivial
  | @word d w hw=>exact fin (.word w) "word" _ rfl (by decide) (by decide) (by decide) trivial
  | rising=>exact fin .rising "rising" _ rfl (by decide) (by decide) (by decide) trivial
  | unlike=>exact fin .unlike "unlike" _ rfl (by decide) (by decide) (by decide) trivial
  | @no d r hr=>
   have ih:=Jc he hx n d (by omega) r hr
   rw [Ru.t,zJ (t:= .bl (kp (.no r) x))]
   ·rfl
   ·rw [jg (Zu true (by decide))]
    exact zr (VL (by show zc 2 _ _ (en2 _ x)=_; rw [Zq,JX,bOk,v1,bOk,ih]))
  | @all d r s hr hs=>
   have ih:=Jc he hx n d (by omega) r hr
   have ih' :=Jc he hx n d (by omega) s hs
   rw [Ru.t,zg (zv (Zu false (by decide))),zJ (t:= .bl (kp (.all r s) x))]
   ·rfl
   ·rw [jg (Zu true (by decide))]
    exact zr (VM (by show zc 2 _ _ (en2 _ x)=_; rw [Zq,JX,bOk,v1,bOk,ih]) (by show zc 2 _ _ (en2 _ x)=_; rw [Zq,UJ,bOk,v1,bOk,ih']))
  | @some d r s hr hs=>
   have ih:=Jc he hx n d (by omega) r hr
   have ih' :=Jc he hx n d (by omega) s hs
   rw [Ru.t,zg (zv (Zu false (by decide))),zg (zv (Zu false (by decide))),zJ (t:= .bl (kp (.some r s) x))]
   ·rfl
   ·rw [jg (Zu true (by decide))]
    exact zr (YG (by show zc 2 _ _ (en2 _ x)=_; rw [Zq,JX,bOk,v1,bOk,ih]) (by show zc 2 _ _ (en2 _ x)=_; rw [Zq,UJ,bOk,v1,bOk,ih']))
abbrev lr (ns:List Int) (k:Int) (d:Nat) (p:Int) (a b:Sl):En:=[.vl (scr ns), .vl (.int k), .vl (.int (d:Int)), .vl (.int p),a,b]
theorem YH {ns:List Int} {k:Int} {d:Nat} {p:Int} {a b:Sl} {j m q:Int} (h:f_2 [scr ns, .int (k+j), .int m]= .ok (.int q)):zc 3 f_2 (z9 (vE 0) (z9 (zf zw (vE 1) (cE (.int j))) (z9 (cE (.int m)) (zj)))) (lr ns k d p a b)= .ok (.int q):=by
 rw [Zz,v0,bOk,zp,v1,bOk,Z7,bOk,Zj,bOk,Z7,bOk,h]
theorem W1 (ns:List Int):∀ (n d:Nat),d<=n->1<=d->∀ k:Int,0<=k->∃ r:Ru,S_3 n 0 [scr ns, .int k, .int (d:Int)]= .ok r.t/\jF d r
 | 0,d,h,h1,k,hk=>by omega
 | n+1,d,h,h1,k,hk=>by
  obtain ⟨p,hp,p0,p9⟩:=zU ns k 9 hk (by omega)
  have e1:zT 3 (zc 3 f_2 (z9 (vE 0) (z9 (vE 1) (z9 (cE (.int 9)) (zj))))) [.vl (scr ns), .vl (.int k), .vl (.int (d:Int)), .un, .un, .un]= .nx (lr ns k d p .un .un):=by
   rw [Z3 (t:= .int p)]
   ·rfl
   ·rw [Zz,v0,bOk,v1,bOk,Z7,bOk,hp]
  have e:S_3 (n+1) 0 [scr ns, .int k, .int (d:Int)]=zn (b_3 f_2 (S_3 n 0) [.vl (scr ns), .vl (.int k), .vl (.int (d:Int)), .un, .un, .un]):=rfl
  rw [e,b_3,zg e1]
  have et:US (zB gtC (vB 2) (cE (.int 1))) (zB gtC (vB 3) (cE (.int 5))) (lr ns k d p .un .un)= .ok (decide (1 < d) && decide (5 < p)):=by
   rw [wS,Z6,w2,bOk,Z7,bOk,VI,bOk,show decide ((1:Int) < (d:Int))=decide (1 < d) by rw [Bool.eq_iff_iff,decide_eq_true_eq,decide_eq_true_eq]; omega]
   cases decide (1 < d) with
   | true=>rw [if_pos rfl,Z6,w3,bOk,Z7,bOk,VI,Bool.true_and]
   | false=>rfl
  by_cases hb:1 < d/\5 < p
  ·rw [decide_eq_true hb.1,decide_eq_true hb.2] at et
   obtain ⟨d,rfl⟩:∃ d',d=d' +1:=⟨d - 1,by omega⟩
   obtain ⟨r1,hr1,o1⟩:=W1 ns n d (by omega) (by omega) (2*k+11) (by omega)
   obtain ⟨r2,hr2,o2⟩:=W1 ns n d (by omega) (by omega) (2*k+24) (by omega)
   have m2:Z1 (.int 2) (.int k)= .ok (.int (2*k)):=UH _ _ (.inl ⟨by decide,by decide⟩)
   have e2:zT 4 (zc 3 (S_3 n 0) (z9 (vE 0) (z9 (zf zw (zf Z1 (cE (.int 2)) (vE 1)) (cE (.int 11))) (z9 (zf jG (vE 2) (cE (.int 1))) (zj))))) (lr ns k (d+1) p .un .un)= .nx (lr ns k (d+1) p (.vl r1.t) .un):=by
    rw [Z3 (t:=r1.t)]
    ·rfl
    ·rw [Zz,v0,bOk,zp,zp,Z7,bOk,v1,bOk,m2,bOk,Z7,bOk,Zj,bOk,zp,v2,bOk,Z7,bOk,ZD,bOk,show ((d+1:Nat):Int) - 1=(d:Int) by omega,hr1]
   have c2:zc 3 (S_3 n 0) (z9 (vE 0) (z9 (zf zw (zf Z1 (cE (.int 2)) (vE 1)) (cE (.int 24))) (z9 (zf jG (vE 2) (cE (.int 1))) (zj)))) (lr ns k (d+1) p (.vl r1.t) .un)= .ok r2.t:=by
    rw [Zz,v0,bOk,zp,zp,Z7,bOk,v1,bOk,m2,bOk,Z7,bOk,Zj,bOk,zp,v2,bOk,Z7,bOk,ZD,bOk,show ((d+1:Nat):Int) - 1=(d:Int) by omega,hr2]
   by_cases h6:p=6
   ·subst h6
    refine ⟨.no r1, ?_, .no o1⟩
    rw [zJ (t:=(Ru.no r1).t)]
    ·rfl
    ·rw [jg et,zg e2,zJ (t:=(Ru.no r1).t)]
     rw [jg rfl,Ru.t]
     exact zr (Y5 rfl rfl)
   ·have h6' :zB eqC (vB 3) (cE (.int 6)) (lr ns k (d+1) p (.vl r1.t) .un)= .ok false:=by
     rw [Z6,w3,bOk,Z7,bOk,eqI,beq_eq_false_iff_ne.mpr h6]
    by_cases h7:p=7
    ·subst h7
     refine ⟨.all r1 r2, ?_, .all o1 o2⟩
     rw [zJ (t:=(Ru.all r1 r2).t)]
     ·rfl
     ·rw [jg et,zg e2,zg (zv h6'),Ru.t]
      exact zr (XA rfl rfl c2)
    ·have h8:p=8:=by omega
     subst h8
     refine ⟨.some r1 r2, ?_, .some o1 o2⟩
     rw [zJ (t:=(Ru.some r1 r2).t)]
     ·rfl
     ·rw [jg et,zg e2,zg (zv h6'),Ru.t]
      exact zr (XA rfl rfl c2)
  ·have et:US (zB gtC (vB 2) (cE (.int 1))) (zB gtC (vB 3) (cE (.int 5))) (lr ns k d p .un .un)= .ok false:=by
    rw [et]
    congr 1
    rw [Bool.and_eq_false_iff,decide_eq_false_iff_not,decide_eq_false_iff_not]
    omega
   obtain ⟨d,rfl⟩:∃ d',d=d' +1:=⟨d - 1,by omega⟩
   obtain ⟨q,hq,q0,q9⟩:=zU ns (k+1) 9 (by omega) (by omega)
   have e2:zT 5 (zf jG (zc 3 f_2 (z9 (vE 0) (z9 (zf zw (vE 1) (cE (.int 1))) (z9 (cE (.int 9)) (zj))))) (cE (.int 4))) (lr ns k (d+1) p .un .un)= .nx (lr ns k (d+1) p .un (.vl (.int (q - 4)))):=by
    rw [Z3 (t:= .int (q - 4))]
    ·rfl
    ·rw [zp,YH hq,bOk,Z7,bOk,ZD]
   rw [zg (zv et),zg e2]
   have hm:∃ m:Nat,m < 6/\zf jI (vE 3) (cE (.int 6)) (lr ns k (d+1) p .un (.vl (.int (q - 4))))= .ok (.int (m:Int)):=by
    obtain ⟨w,rfl⟩:=Int.eq_ofNat_of_zero_le p0
    exact ⟨w % 6,Nat.mod_lt _ (by omega),by rw [zp,v3,bOk,Z7,bOk]; exact QO (c:=6) (by omega)⟩
   obtain ⟨m,m6,hm⟩:=hm
   have t2:zB ltC (zf jI (vE 3) (cE (.int 6))) (cE (.int 2)) (lr ns k (d+1) p .un (.vl (.int (q - 4))))= .ok (decide (m < 2)):=by
    rw [Z6,hm,bOk,Z7,bOk,ltI]; congr 1; rw [Bool.eq_iff_iff,decide_eq_true_eq,decide_eq_true_eq]; omega
   have tk:∀ j:Nat,zB eqC (zf jI (vE 3) (cE (.int 6))) (cE (.int (j:Int))) (lr ns k (d+1) p .un (.vl (.int (q - 4))))= .ok (m == j):=fun j=>by
    rw [Z6,hm,bOk,Z7,bOk,eqI,Ye]
   have tk2:zB eqC (zf jI (vE 3) (cE (.int 6))) (cE (.int 2)) (lr ns k (d+1) p .un (.vl (.int (q - 4))))= .ok (m == 2):=tk 2
   have tk3:zB eqC (zf jI (vE 3) (cE (.int 6))) (cE (.int 3)) (lr ns k (d+1) p .un (.vl (.int (q - 4))))= .ok (m == 3):=tk 3
   have tk4:zB eqC (zf jI (vE 3) (cE (.int 6))) (cE (.int 4)) (lr ns k (d+1) p .un (.vl (.int (q - 4))))= .ok (m == 4):=tk 4
   by_cases h2:m < 2
   ·obtain ⟨u,hu,u0,u5⟩:=zU ns (k+2) 5 (by omega) (by omega)
    refine ⟨.sum (q - 4) (q - 4+u - 1), ?_, .sum ⟨by omega,by omega⟩ ⟨by omega,by omega⟩⟩
    rw [zJ (t:=(Ru.sum (q - 4) (q - 4+u - 1)).t)]
    ·rfl
    ·rw [jg (by rw [t2,decide_eq_true h2]),Ru.t]
     refine zr (XA rfl rfl ?_)
     show zf jG _ _ (lr ns k (d+1) p .un (.vl (.int (q - 4))))=_
     rw [zp,zp,YH hu,show vE 5 (lr ns k (d+1) p .un (.vl (.int (q - 4))))= .ok (.int (q - 4)) from rfl,bOk,bOk,Zj,bOk,Z7,bOk,ZD]
   rw [zg (zv (by rw [t2,decide_eq_false h2]))]
   by_cases h3:m=2
   ·subst h3
    obtain ⟨q',hq',q'0,q'3⟩:=zU ns (k+1) 3 (by omega) (by omega)
    obtain ⟨u,hu,u0,u4⟩:=zU ns (k+2) 4 (by omega) (by omega)
    refine ⟨.size q' u, ?_, .size ⟨by omega,by omega⟩ ⟨by omega,by omega⟩⟩
    rw [zJ (t:=(Ru.size q' u).t)]
    ·rfl
    ·rw [jg tk2,Ru.t]
     exact zr (XA rfl (YH hq') (YH hu))
   rw [zg (zv (by rw [tk2,beq_eq_false_iff_ne.mpr h3]))]
   by_cases h4:m=3
   ·subst h4
    obtain ⟨q',hq',q'0,q'3⟩:=zU ns (k+1) 4 (by omega) (by omega)
    have hw:∃ w:Str,Zm (.str w)=true/\ixT (.lst [.str "a", .str "b", .str "ab", .str "zz"]) (.int q')= .ok (.str w):=by
     have hq4:q' =0\/q' =1\/q' =2\/q' =3:=by omega
     rcases hq4 with rfl | rfl | rfl | rfl
     ·exact ⟨"a",by decide,rfl⟩
     ·exact ⟨"b",by decide,rfl⟩
     ·exact ⟨"ab",by decide,rfl⟩
     ·exact ⟨"zz",by decide,rfl⟩
    obtain ⟨w,hw,hx⟩:=hw
    refine ⟨.word w, ?_, .word hw⟩
    rw [zJ (t:=(Ru.word w).t)]
    ·rfl
    ·rw [jg tk3,Ru.t]
     refine zr (Y5 rfl ?_)
     show zf ixT _ _ (lr ns k (d+1) p .un (.vl (.int (q - 4))))=_
     rw [zp,YH hq']
     exact hx
   rw [zg (zv (by rw [tk3,beq_eq_false_iff_ne.mpr h4]))]
   by_cases h5:m=4
   ·subst h5
    refine ⟨.rising, ?_, .rising⟩
    rw [zr (t:=Ru.rising.t)]
    ·rfl
    ·show ifE _ _ _ (lr ns k (d+1) p .un (.vl (.int (q - 4))))=_
     unfold ifE
     rw [tk4,bOk]
     rfl
   ·refine ⟨.unlike, ?_, .unlike⟩
    rw [zr (t:=Ru.unlike.t)]
    ·rfl
    ·show ifE _ _ _ (lr ns k (d+1) p .un (.vl (.int (q - 4))))=_
     unfold ifE
     rw [tk4,bOk,beq_eq_false_iff_ne.mpr h5]
     rfl
theorem XY {k:Kd} (hk:k.Ok 3) {x:T} (hx:x∈k.all):W 2 x:=gu 2 k x hk ((wX k x).mp hx)
abbrev fl (k:Kd) (r:Ru):List T:=k.all.filter (kp r)
theorem fl_w {k:Kd} (hk:k.Ok 3) (r:Ru):∀ x∈fl k r,W 2 x:=fun x hx=>XY hk (List.mem_filter.mp hx).1
theorem UO {x:T} (hx:W 2 x) {r:Ru} (hr:jF 3 r):f_f 8 [r.t,x]= .ok (.bl (kp r x)):=Jc (by omega) hx 8 3 (by omega) r hr
theorem wA {k:Kd} (hk:k.Ok 3) (h5:k.all.length<=500) {r:Ru} (hr:jF 3 r):f_q [k.t,r.t]= .ok (.lst (fl k r)):=by
 show zn (b_q kS f_s (f_f 8) (en2 k.t r.t))=_
 have ec:zS (zG 0) (jC (zc 2 (f_f 8) (z9 (vE 1) (z9 (vE 0) (zj))))) (vE 0) 1 [1] (en2 k.t r.t) k.all= .ok (fl k r):=
  wz _ (Nat.le_trans h5 (by decide)) fun t ht=>⟨by
   show jC _ (en2 t r.t)=_
   rw [ZW,Zq,v1,bOk,v0,bOk,UO (XY hk ht) hr,bOk,jf],rfl⟩
 rw [b_q,zg (wZ (t:= .non) (by rw [zL,v1,bOk,Jk hr])),zr (t:= .lst (fl k r))]
 ·rfl
 ·show zY _ _ _ _ _ _ (en2 k.t r.t)=_
  rw [Zi,jx,zL,v0,bOk,W0 hk h5,bOk]
  show ((zS _ _ _ _ _ _ k.all).bind _)=_
  rw [ec,bOk]
def S (l:List Nat):Str:=⟨l.toArray⟩
theorem ZM (l:List Nat):(S l).cps.toList=l:=by simp [S]
theorem ZE (l:List Nat):(S l).length=l.length:=by simp [S,Str.length]
theorem YI (a b:List Nat):S a++S b=S (a++b):=Str.ext' (by simp [S,Str.cps_append])
theorem xb (x:Str):S x.cps.toList=x:=Str.ext' (by simp [S])
theorem XZ {a b:List Nat} (h:S a=S b):a=b:=by rw [← ZM a,h,ZM]
def jn:List (List Nat)->List Nat
 | []=>[]
 | [x]=>x
 | x :: y :: r=>x++32 :: jn (y :: r)
theorem YJ:∀ ls:List (List Nat),Str.join (S [32]) (ls.map S)=S (jn ls)
 | []=>rfl
 | [x]=>rfl
 | x :: y :: r=>by
  have h:=YJ (y :: r)
  show S x++S [32]++Str.join (S [32]) ((y :: r).map S)=_
  rw [h,YI,YI]
  simp [jn]
theorem YK {c:Nat}:∀ {a b r s:List Nat},c ∉ a->c ∉ b->a++c :: r=b++c :: s->a=b/\r=s
 | [],[],_,_,_,_,h=>⟨rfl,by simpa using h⟩
 | [],y :: b,_,_,_,hb,h=>by
  injection h with h1 h2
  exact absurd (h1 ▸ List.mem_cons_self) hb
 | x :: a,[],_,_,ha,_,h=>by
  injection h with h1 h2
  exact absurd (h1 ▸ List.mem_cons_self) ha
 | x :: a,y :: b,_,_,ha,hb,h=>by
  injection h with h1 h2
  obtain ⟨e1,e2⟩:=YK (fun z=>ha (List.mem_cons_of_mem _ z)) (fun z=>hb (List.mem_cons_of_mem _ z)) h2
  exact ⟨by rw [h1,e1],e2⟩
theorem QU:∀ (a b:List (List Nat)),a ≠ []->b ≠ []->(∀ x∈a,32 ∉ x)->(∀ x∈b,32 ∉ x)->jn a=jn b->a=b
 | [],_,h,_,_,_,_=>absurd rfl h
 | _ :: _,[],_,h,_,_,_=>absurd rfl h
 | [x],[y],_,_,_,_,h=>by rw [show x=y from h]
 | [x],y :: z :: r,_,_,ha,_,h=>by
  have h:x=y++32 :: jn (z :: r):=h
  exact absurd (by rw [h]; simp) (ha x List.mem_cons_self)
 | x :: w :: q,[y],_,_,_,hb,h=>by
  have h:x++32 :: jn (w :: q)=y:=h
  exact absurd (by rw [← h]; simp) (hb y List.mem_cons_self)
 | x :: w :: q,y :: z :: r,_,_,ha,hb,h=>by
  obtain ⟨e1,e2⟩:=YK (ha x List.mem_cons_self) (hb y List.mem_cons_self) (show x++32 :: jn (w :: q)=y++32 :: jn (z :: r) from h)
  have:=QU (w :: q) (z :: r) (List.cons_ne_nil _ _) (List.cons_ne_nil _ _) (fun x hx=>ha x (List.mem_cons_of_mem _ hx)) (fun x hx=>hb x (List.mem_cons_of_mem _ hx)) e2
  rw [e1,this]
theorem VN {ls:List (List Nat)} (h:ls ≠ []) (hf:∀ x∈ls,32 ∉ x):Txt.split (S (jn ls)) (S [32])=ls.map S:=by
 have e1:=StrLaws.join_split (S (jn ls)) (S [32])
 have e2:∀ p∈Txt.split (S (jn ls)) (S [32]),32 ∉ p.cps.toList:=StrLaws.split_free (S (jn ls)) 32
 have e3:1<=(Txt.split (S (jn ls)) (S [32])).length:=PyProof.Rows.split_pos _ _
 generalize Txt.split (S (jn ls)) (S [32])=P at e1 e2 e3
 have e4:P=(P.map fun p=>p.cps.toList).map S:=by
  rw [List.map_map]
  exact (List.map_id'' (fun p=>xb p) P).symm
 rw [e4,YJ] at e1
 have e5:=QU (P.map fun p=>p.cps.toList) ls (fun z=>by rw [List.map_eq_nil_iff.mp z] at e3; exact absurd e3 (by decide)) h (fun x hx=>by
  obtain ⟨p,hp,rfl⟩:=List.mem_map.mp hx
  exact e2 p hp) hf (XZ e1)
 rw [e4,e5]
theorem QV (l m:List Nat) (i:Nat):StrLaws.At (S l) (S m) (S l).length i↔i+m.length<=l.length/\(l.drop i).take m.length=m:=by
 unfold StrLaws.At
 rw [StrLaws.subAt_eq,ZE,ZE,ZM,ZM,beq_iff_eq]
theorem VO (a m b:List Nat):StrLaws.At (S (a++m++b)) (S m) (S (a++m++b)).length a.length:=by
 rw [QV]
 refine ⟨by simp, ?_⟩
 rw [List.append_assoc,List.drop_left,List.take_left]
theorem YL {l m:List Nat} {c i:Nat} (h:StrLaws.At (S l) (S (c :: m)) (S l).length i):l[i]? =some c:=by
 rw [QV] at h
 have h2:(l.drop i)[0]? =some c:=by
  have:((l.drop i).take (c :: m).length)[0]? =some c:=by rw [h.2]; rfl
  rw [List.getElem?_take] at this
  simpa using this
 simpa using h2
theorem k6 (l:List Nat) (i j:Nat):Builtin.Str.strSub (S l) i j=S ((l.drop i).take (j - i)):=by
 rw [← xb (Builtin.Str.strSub (S l) i j),StrLaws.strSub_toList,ZM]
theorem k7 {c:Nat} {m a b:List Nat} (h:c ∉ a):Txt.partition (S (a++(c :: m)++b)) (S (c :: m))=(S a,S (c :: m),S b):=by
 have hh:=VO a (c :: m) b
 unfold Txt.partition
 rcases StrLaws.occ_head (S (a++(c :: m)++b)) (S (c :: m)) 1 (Nat.le_refl _) with ⟨_,h0⟩ | ⟨i,r,e,hi,hn⟩
 ·exact absurd hh (h0 _)
 ·rw [e]
  have ei:i=a.length:=by
   rcases Nat.lt_trichotomy i a.length with z | z | z
   ·have:=YL hi
    rw [List.append_assoc,List.getElem?_append_left z] at this
    exact absurd (List.mem_of_getElem? this) h
   ·exact z
   ·exact absurd hh (hn _ z)
  subst ei
  show (Builtin.Str.strSub _ 0 a.length,S (c :: m),Builtin.Str.strSub _ (a.length+(S (c :: m)).length) _)=_
  rw [k6,k6,ZE,ZE]
  have e1:(List.drop 0 (a++c :: m++b)).take (a.length - 0)=a:=by
   rw [List.drop_zero,Nat.sub_zero,List.append_assoc,List.take_left]
  have e2:(List.drop (a.length+(c :: m).length) (a++c :: m++b)).take ((a++c :: m++b).length - (a.length+(c :: m).length))=b:=by
   rw [show a.length+(c :: m).length=(a++c :: m).length by simp,List.drop_left]
   exact List.take_of_length_le (by simp; omega)
  rw [e1,e2]
theorem gy (c:Nat) (l:List Nat):Txt.endswith (S (l++[c])) (S [c])=true:=by
 unfold Txt.endswith
 rw [StrLaws.subAt_eq,ZE,ZE,ZM,ZM]
 simp
theorem k8 {l:List Nat} {a b:Nat} (h1:a<=b) (h2:b<=l.length):Txt.slice (S l) (some (a:Int)) (some (b:Int))=S ((l.drop a).take (b - a)):=by
 have:=StrLaws.sliceText_nat (S l) h1 (by rw [ZE]; exact h2)
 rw [ZM] at this
 exact this
theorem VP {l:List Nat} {a:Nat} (h:a<=l.length):Txt.slice (S l) (some (a:Int)) none=S (l.drop a):=by
 have:=StrLaws.sliceText_from (x:=S l) (i:=(a:Int)) ⟨by omega,by rw [ZM]; omega⟩
 rw [ZM] at this
 refine Eq.trans this ?_
 show S _=S _
 congr 1
 rw [show ((a:Int)).toNat=a by omega]
 exact List.take_of_length_le (by simp)
def nl (i:Int):List Nat:=(YY i).cps.toList
theorem GP (i:Int):YY i=S (nl i):=(xb _).symm
def nOk (i:Int):Bool:=decide ((nl i).length<=3) && !(nl i).isEmpty && (nl i).all (fun c=>c == 45 || (decide (48<=c) && decide (c<=57))) && decide (rdI (YY i)=some i)
theorem gz:∀ k < 101,nOk ((k:Nat) - 50:Int)=true:=by decide+kernel
theorem qb {i:Int} (h1: -50<=i) (h2:i<=50):(nl i).length<=3/\nl i ≠ []/\(∀ c∈nl i,c=45\/(48<=c/\c<=57))/\rdI (YY i)=some i:=by
 have:=gz (i+50).toNat (by omega)
 rw [show (((i+50).toNat:Nat) - 50:Int)=i by omega] at this
 unfold nOk at this
 simp at this
 exact ⟨this.1.1.1,this.1.1.2,this.1.2,this.2⟩
def Ru.w:Ru->List (List Nat)
 | .sum a b=>[[115,117,109],nl a,nl b]
 | .size a b=>[[115,105,122,101],nl a,nl b]
 | .word w=>[[119,111,114,100],w.cps.toList]
 | .rising=>[[114,105,115,105,110,103]]
 | .unlike=>[[117,110,108,105,107,101]]
 | _=>[]
def Ru.x:Ru->List Nat
 | .no r=>[110,111,40]++r.x++[41]
 | .all r s=>[97,108,108,40]++(r.x++[44,32]++s.x)++[41]
 | .some r s=>[115,111,109,101,40]++(r.x++[44,32]++s.x)++[41]
 | .sum a b=>jn (Ru.w (.sum a b))
 | .size a b=>jn (Ru.w (.size a b))
 | .word w=>jn (Ru.w (.word w))
 | .rising=>jn (Ru.w .rising)
 | .unlike=>jn (Ru.w .unlike)
theorem U8 {x:Str} (h:Zm (.str x)=true):x.cps.toList.length<=3:=by
 have h:(decide (1<=x.length) && decide (x.length<=3) && x.cps.toList.all Zh)=true:=h
 rw [Bool.and_eq_true,Bool.and_eq_true] at h
 have:=of_decide_eq_true h.1.2
 simpa [Str.length] using this
theorem Qc {x:Str} (h:Zm (.str x)=true):∀ c∈x.cps.toList,97<=c/\c<=122:=by
 have h:(decide (1<=x.length) && decide (x.length<=3) && x.cps.toList.all Zh)=true:=h
 rw [Bool.and_eq_true] at h
 intro c hc
 have:=List.all_eq_true.mp h.2 c hc
 unfold Zh at this
 simp at this
 exact this
def lb:Nat->Nat
 | 0=>0
 | d+1=>2*lb d+20
theorem wd {d:Nat} {r:Ru} (h:jF d r):r.x.length<=lb d:=by
 induction h with
 | @sum d a b ha hb=>
  have:=(qb ha.1 ha.2).1
  have:=(qb hb.1 hb.2).1
  simp only [Ru.x,Ru.w,jn,lb,List.length_append,List.length_cons,List.length_nil]; omega
 | @size d a b ha hb=>
  have:=(qb ha.1 ha.2).1
  have:=(qb hb.1 hb.2).1
  simp only [Ru.x,Ru.w,jn,lb,List.length_append,List.length_cons,List.length_nil]; omega
 | word h=>
  have:=U8 h
  simp only [Ru.x,Ru.w,jn,lb,List.length_append,List.length_cons,List.length_nil]; omega
 | rising=>simp only [Ru.x,Ru.w,jn,lb,List.length_append,List.length_cons,List.length_nil]; omega
 | unlike=>simp only [Ru.x,Ru.w,jn,lb,List.length_append,List.length_cons,List.length_nil]; omega
 | no _ ih=>simp only [Ru.x,lb,List.length_append,List.length_cons,List.length_nil]; omega
 | all _ _ ih ih' =>simp only [Ru.x,lb,List.length_append,List.length_cons,List.length_nil]; omega
 | some _ _ ih ih' =>simp only [Ru.x,lb,List.length_append,List.length_cons,List.length_nil]; omega
theorem we {d:Nat} (h:d<=3):lb d<=140:=by
 have:d=0\/d=1\/d=2\/d=3:=by omega
 rcases this with rfl | rfl | rfl | rfl <;> decide
theorem WO {i:Int} (h:i.natAbs < 1000000):txO (.int i)=some (S (nl i)):=by rw [← GP]; exact if_pos h
theorem Qd {f g:En->R T} {ρ:En} {a b:List Nat} (hf:f ρ= .ok (.str (S a))) (hg:g ρ= .ok (.str (S b))) (hl:a.length+b.length<=10000):zf zw f g ρ= .ok (.str (S (a++b))):=by
 rw [zp,hf,bOk,hg,bOk,← YI]
 exact if_pos (by rw [ZE,ZE]; have:bnd=16777216:=rfl; omega)
theorem QW:∀ ls:List (List Nat),u6 (ls.map fun l=>T.str (S l))=some (ls.map S)
 | []=>rfl
 | l :: r=>by
  rw [List.map_cons]
  unfold u6
  rw [QW r]
  rfl
theorem uj {f:En->R T} {ρ:En} {ls:List (List Nat)} {p:Str} (hf:f ρ= .ok (.lst (ls.map fun l=>T.str (S l)))) (hb:(ls.map (·.length)).sum+ls.length*p.length<=10000):ap1 (wJ p) f ρ= .ok (.str (Str.join p (ls.map S))):=by
 rw [j7,hf,bOk]
 show (match u6 (ls.map fun l=>T.str (S l)) with | some ys=>if (ys.map fun (y:Str)=>y.length).sum+ys.length*p.length<=16777216 then R.ok (T.str (Txt.join p ys)) else .bad | none=> .bad)=_
 rw [QW]
 dsimp only
 have e:((ls.map S).map (·.length))=ls.map (·.length):=by
  rw [List.map_map]
  exact List.map_congr_left fun l _=>ZE l
 rw [e,List.length_map,if_pos (show (ls.map (·.length)).sum+ls.length*p.length<=16777216 by omega)]
 show R.ok (T.str (Builtin.Str.glued p (ls.map S)))=_
 rw [StrLaws.glued_eq_join]
theorem WP {fi:En->R (List T)} {g:T->En->R En} {fe:En->R T} {k:Nat} {js:List Nat} {ρ:En} {ts vs:List T} (hi:fi ρ= .ok ts) (hl:ts.length<=100) (h:zM g Z2 fe ts (Wq k js ρ)= .ok vs):zY fi g Z2 fe k js ρ= .ok (.lst vs):=by
 rw [Zi,hi,bOk]
 unfold zS
 rw [if_pos (show ts.length<=bnd by have:bnd=16777216:=rfl; omega),h]
 rfl
theorem UP {fe:En->R T} {ex:En}:∀ (qs:List (T×T)) (x:Sl),(∀ q∈qs,fe (.vl q.1 :: ex)= .ok q.2)->zM (zG 0) Z2 fe (qs.map (·.1)) (x :: ex)= .ok (qs.map (·.2))
 | [],_,_=>rfl
 | q :: qs,x,h=>by
  have e:zM (zG 0) Z2 fe ((q :: qs).map (·.1)) (x :: ex)=(fe (.vl q.1 :: ex)).bind fun v=>(zM (zG 0) Z2 fe (qs.map (·.1)) (.vl q.1 :: ex)).bind fun vs=> .ok (v :: vs):=rfl
  rw [e,h q List.mem_cons_self,bOk,UP qs _ fun q hq=>h q (List.mem_cons_of_mem _ hq)]; rfl
theorem itA {f:En->R T} {ρ:En} {ts:List T} (h:f ρ= .ok (.tup ts)):j6 f ρ= .ok ts:=by
 show (f ρ).bind jX=_
 rw [h]; rfl
theorem itL {f:En->R T} {ρ:En} {ts:List T} (h:f ρ= .ok (.lst ts)):j6 f ρ= .ok ts:=by
 show (f ρ).bind jX=_
 rw [h]; rfl
theorem GQ {f:En->R T} {ρ:En} {t:T} {x:Str} (h:f ρ= .ok t) (hx:txO t=some x):ap1 UA f ρ= .ok (.str x):=by
 rw [j7,h,bOk]
 unfold UA
 rw [hx]
theorem k9 (x:Str):f_m [.str x]= .ok (.bl ((x == "no") || ((x == "all") || (x == "some")))):=by
 show zn (zI (orE (jh eqC (vB 0) (cE (.str "no"))) (orE (jh eqC (vB 0) (cE (.str "all"))) (jh eqC (vB 0) (cE (.str "some"))))) [.vl (.str x)])=_
 rw [zr (t:= .bl ((x == "no") || ((x == "all") || (x == "some"))))]
 ·rfl
 ·exact YG rfl (YG rfl rfl)
theorem VQ (a b:List Nat):(S a == S b)=decide (a=b):=by
 by_cases h:a=b
 ·simp [h]
 ·rw [decide_eq_false h,beq_eq_false_iff_ne]
  exact fun z=>h (XZ z)
def opn (c:Nat):Bool:=decide (c∈[40,91,123])
def cls (c:Nat):Bool:=decide (c∈[41,93,125])
def sc:Nat->List Nat->Option Nat
 | d,[]=>some d
 | d,c :: r=>if opn c then sc (d+1) r else if cls c then (match d with | 0=>none | e+1=>sc e r) else if d=0/\c=44 then none else sc d r
theorem JV (d c:Nat) (r:List Nat):sc d (c :: r)=if opn c then sc (d+1) r else if cls c then (match d with | 0=>none | e+1=>sc e r) else if d=0/\c=44 then none else sc d r:=by
 conv=>lhs; unfold sc
 all_goals (cases d <;> rfl)
abbrev pE (L:List Nat) (acc:List T) (b d:Int) (x y:Sl):En:=[.vl (.str (S L)), .vl (.str ", "), .ow acc, .vl (.int b), .vl (.int d),x,y]
abbrev Jd:En->RS:=(zx (ifS (zB uQ (vB 6) (cE (.str "([{"))) (zT 4 (zf zw (vE 4) (cE (.int 1)))) (nxS))
  (zx (ifS (zB uQ (vB 6) (cE (.str ")]}"))) (zT 4 (zf jG (vE 4) (cE (.int 1)))) (nxS))
  (ifS (US (zB eqC (vB 4) (cE (.int 0))) (jC (yR (vE 0) (vE 1) (vE 5)))) (zx (uH 2 (Uz (vE 0) (Zr (vE 3)) (Zr (vE 5))))
  (zT 3 (zf zw (vE 5) (ap1 ZO (vB 1))))) (nxS))))
def itm (L:List Nat):List T:=ZQ (ZP (S L))
theorem U9 {L:List Nat} {i c:Nat} {r:List Nat} (h:L.drop i=c :: r):(itm L).drop i=T.tup [.int (i:Nat), .str (S [c])] :: (itm L).drop (i+1):=by
 have hg:L[i]? =some c:=by
  have:(L.drop i)[0]? =some c:=by rw [h]; rfl
  simpa using this
 have e:(itm L)[i]? =some (T.tup [.int (i:Nat), .str (S [c])]):=by
  unfold itm ZQ ZP
  rw [ZM,List.getElem?_map,List.getElem?_zipIdx,List.getElem?_map,hg]
  simp [S]
 obtain ⟨hi,e⟩:=List.getElem?_eq_some_iff.mp e
 rw [List.drop_eq_getElem_cons hi,e]
theorem ka {ρ:En} {c:Nat} (h:vB 6 ρ= .ok (.str (S [c]))):zB uQ (vB 6) (cE (.str "([{")) ρ= .ok (opn c):=by
 show (R.bind (vB 6 ρ) fun x=>R.bind (.ok (.str "([{")) fun y=>uQ x y)=_
 rw [h,bOk,bOk]
 show R.ok (!(Builtin.Str.occurrences "([{" ⟨#[c]⟩ 0 ((("([{":Str))).length 1).isEmpty)=_
 rw [StrLaws.found_one]; rfl
theorem VR {ρ:En} {c:Nat} (h:vB 6 ρ= .ok (.str (S [c]))):zB uQ (vB 6) (cE (.str ")]}")) ρ= .ok (cls c):=by
 show (R.bind (vB 6 ρ) fun x=>R.bind (.ok (.str ")]}")) fun y=>uQ x y)=_
 rw [h,bOk,bOk]
 show R.ok (!(Builtin.Str.occurrences ")]}" ⟨#[c]⟩ 0 (((")]}":Str))).length 1).isEmpty)=_
 rw [StrLaws.found_one]; rfl
theorem kb {c:Nat} (h:opn c=true):cls c=false:=by
 unfold opn at h
 unfold cls
 simp at h ⊢
 omega
theorem kd {f:En->RS} {acc:List T} {L:List Nat} {b d:Int} {i c:Nat}:zx (ifS (zB uQ (vB 6) (cE (.str "([{"))) (zT 4 (zf zw (vE 4) (cE (.int 1)))) nxS) (zx (ifS (zB uQ (vB 6) (cE (.str ")]}"))) (zT 4 (zf jG (vE 4) (cE (.int 1)))) nxS) f) (pE L acc b d (.vl (.int (i:Nat))) (.vl (.str (S [c]))))=f (pE L acc b (d+(if opn c then 1 else 0) - (if cls c then 1 else 0)) (.vl (.int (i:Nat))) (.vl (.str (S [c])))):=by
 cases ho:opn c with
 | true=>
  have hc:=kb ho
  have e1:zT 4 (zf zw (vE 4) (cE (.int 1))) (pE L acc b d (.vl (.int (i:Nat))) (.vl (.str (S [c]))))= .nx (pE L acc b (d+1) (.vl (.int (i:Nat))) (.vl (.str (S [c])))):=rfl
  rw [zg ((jg (by rw [ka rfl,ho])).trans e1),zg (zv (by rw [VR rfl,hc])),hc]
  simp
 | false=>
  rw [zg (zv (by rw [ka rfl,ho]))]
  cases hc:cls c with
  | true=>
   have e1:zT 4 (zf jG (vE 4) (cE (.int 1))) (pE L acc b d (.vl (.int (i:Nat))) (.vl (.str (S [c]))))= .nx (pE L acc b (d - 1) (.vl (.int (i:Nat))) (.vl (.str (S [c])))):=rfl
   rw [zg ((jg (by rw [VR rfl,hc])).trans e1)]
   simp
  | false=>
   rw [zg (zv (by rw [VR rfl,hc]))]
   simp
theorem ke {l m:List Nat} {i:Nat}:Txt.startswith3 (S l) (S m) (i:Int)=(decide (i+m.length<=l.length) && ((l.drop i).take m.length == m)):=by
 unfold Txt.startswith3
 have e:fromIndex (S l).length (i:Int)=i:=by
  unfold fromIndex
  rw [if_neg (by omega)]
  omega
 rw [e,StrLaws.subAt_eq,ZE,ZE,ZM,ZM]
theorem gA {L:List Nat} {acc:List T} {b d:Int} {i c:Nat} {r:List Nat} (h:L.drop i=c :: r) (hn:(d == 0)=false\/c ≠ 44):US (zB eqC (vB 4) (cE (.int 0))) (jC (yR (vE 0) (vE 1) (vE 5))) (pE L acc b d (.vl (.int (i:Nat))) (.vl (.str (S [c]))))= .ok false:=by
 rw [wS]
 show (R.bind (.ok (d == 0)) _)=_
 rw [bOk]
 cases hd:(d == 0) with
 | false=>rfl
 | true=>
  rw [if_pos rfl,ZW]
  show R.ok (Txt.startswith3 (S L) (S [44,32]) (i:Int))=_
  have hc:c ≠ 44:=by
   rcases hn with z | z
   ·rw [hd] at z; cases z
   ·exact z
  rw [ke,h]
  congr 1
  rw [Bool.and_eq_false_iff]
  right
  rw [beq_eq_false_iff_ne]
  intro z
  injection z with z1 z2
  exact hc z1
theorem Ua {L:List Nat} {acc:List T} {b d:Int} {i c:Nat} {r:List Nat} {x y:Sl} (h:L.drop i=c :: r) (hn:(d+(if opn c then 1 else 0) - (if cls c then 1 else 0) == 0)=false\/c ≠ 44):
  ZC (Za 5 6) Jd ((itm L).drop i) (pE L acc b d x y)=ZC (Za 5 6) Jd ((itm L).drop (i+1)) (pE L acc b (d+(if opn c then 1 else 0) - (if cls c then 1 else 0)) (.vl (.int (i:Nat))) (.vl (.str (S [c])))):=by
 rw [U9 h]
 refine Jj (ρ1:=pE L acc b d (.vl (.int (i:Nat))) (.vl (.str (S [c])))) rfl ?_
 unfold Jd
 rw [kd]
 exact zv (gA h hn)
theorem UQ {L:List Nat} {acc:List T} {b:Int}:∀ (w:List Nat) (d e i:Nat) (rest:List Nat) (x y:Sl),L.drop i=w++rest->sc d w=some e->∃ x' y',ZC (Za 5 6) Jd ((itm L).drop i) (pE L acc b (d:Nat) x y)=ZC (Za 5 6) Jd ((itm L).drop (i+w.length)) (pE L acc b (e:Nat) x' y')
 | [],d,e,i,rest,x,y,_,h=>by
  cases h
  exact ⟨x,y,rfl⟩
 | c :: w,d,e,i,rest,x,y,hL,h=>by
  have hL' :L.drop (i+1)=w++rest:=by
   have:(L.drop i).drop 1=w++rest:=by rw [hL]; rfl
   rw [List.drop_drop] at this; exact this
  rw [JV] at h
  cases ho:opn c with
  | true=>
   rw [ho,if_pos rfl] at h
   have hc:=kb ho
   have h32:c ≠ 44:=fun z=>by subst z; cases ho
   obtain ⟨x',y',q⟩:=UQ w (d+1) e (i+1) rest (.vl (.int (i:Nat))) (.vl (.str (S [c]))) hL' h
   refine ⟨x',y', ?_⟩
   rw [Ua hL (.inr h32),ho,hc]
   rw [List.length_cons,show i+(w.length+1)=i+1+w.length by omega,← q]
   simp
  | false=>
   rw [ho,if_neg Bool.false_ne_true] at h
   cases hc:cls c with
   | true=>
    rw [hc,if_pos rfl] at h
    cases d with
    | zero=>cases h
    | succ d=>
     have h32:c ≠ 44:=fun z=>by subst z; cases hc
     have h:sc d w=some e:=h
     obtain ⟨x',y',q⟩:=UQ w d e (i+1) rest (.vl (.int (i:Nat))) (.vl (.str (S [c]))) hL' h
     refine ⟨x',y', ?_⟩
     rw [Ua hL (.inr h32),ho,hc]
     rw [List.length_cons,show i+(w.length+1)=i+1+w.length by omega,← q]
     simp
   | false=>
    rw [hc,if_neg Bool.false_ne_true] at h
    split at h
    ·cases h
    ·rename_i hz
     obtain ⟨x',y',q⟩:=UQ w d e (i+1) rest (.vl (.int (i:Nat))) (.vl (.str (S [c]))) hL' h
     refine ⟨x',y', ?_⟩
     rw [Ua hL (by
      rw [ho,hc]
      by_cases h32:c=44
      ·have:d ≠ 0:=fun z=>hz ⟨z,h32⟩
       left; simp; omega
      ·exact .inr h32),ho,hc]
     rw [List.length_cons,show i+(w.length+1)=i+1+w.length by omega,← q]
     simp
theorem gB {L:List Nat} {acc:List T} {b i:Nat} {r:List Nat} {x y:Sl} (h:L.drop i=44 :: 32 :: r) (hb:b<=i) (hl:L.length<=9000) (ha:acc.length < 1000):
  ∃ x' y',ZC (Za 5 6) Jd ((itm L).drop i) (pE L acc (b:Nat) 0 x y)=ZC (Za 5 6) Jd ((itm L).drop (i+2)) (pE L (acc++[.str (S ((L.drop b).take (i - b)))]) ((i+2:Nat):Int) 0 x' y'):=by
 have hi:i+2<=L.length:=by
  have:=congrArg List.length h
  simp at this; omega
 have h2:L.drop (i+1)=32 :: r:=by rw [← List.drop_drop,h]; rfl
 have e1:Uz (vE 0) (Zr (vE 3)) (Zr (vE 5)) (pE L acc (b:Nat) 0 (.vl (.int (i:Nat))) (.vl (.str (S [44]))))= .ok (.str (S ((L.drop b).take (i - b)))):=by
  show (if (S L).length<=bnd then R.ok (T.str (Txt.slice (S L) (some (b:Int)) (some (i:Int)))) else .bad)=_
  rw [k8 hb (by omega),if_pos]
  rw [ZE]
  have:bnd=16777216:=rfl
  omega
 have e2:uH 2 (Uz (vE 0) (Zr (vE 3)) (Zr (vE 5))) (pE L acc (b:Nat) 0 (.vl (.int (i:Nat))) (.vl (.str (S [44]))))= .nx (pE L (acc++[.str (S ((L.drop b).take (i - b)))]) (b:Nat) 0 (.vl (.int (i:Nat))) (.vl (.str (S [44])))):=by
  show (R.s (Uz (vE 0) (Zr (vE 3)) (Zr (vE 5)) _) fun t=>if acc.length < bnd then RS.nx _ else .bad)=_
  rw [e1,ZL,if_pos (by have:bnd=16777216:=rfl; omega)]; rfl
 have e3:US (zB eqC (vB 4) (cE (.int 0))) (jC (yR (vE 0) (vE 1) (vE 5))) (pE L acc (b:Nat) 0 (.vl (.int (i:Nat))) (.vl (.str (S [44]))))= .ok true:=by
  rw [wS]
  show (R.bind (.ok true) _)=_
  rw [bOk,if_pos rfl,ZW]
  show R.ok (Txt.startswith3 (S L) (S [44,32]) (i:Int))=_
  rw [ke,h,decide_eq_true (show i+[44,32].length<=L.length from hi)]
  rfl
 have q1:ZC (Za 5 6) Jd ((itm L).drop i) (pE L acc (b:Nat) 0 x y)=ZC (Za 5 6) Jd ((itm L).drop (i+1)) (pE L (acc++[.str (S ((L.drop b).take (i - b)))]) ((i+2:Nat):Int) 0 (.vl (.int (i:Nat))) (.vl (.str (S [44])))):=by
  rw [U9 h]
  refine Jj (ρ1:=pE L acc (b:Nat) 0 (.vl (.int (i:Nat))) (.vl (.str (S [44])))) rfl ?_
  unfold Jd
  rw [kd]
  have e0:(0:Int)+(if opn 44 then 1 else 0) - (if cls 44 then 1 else 0)=0:=by decide
  rw [e0,jg e3,zg e2]
  rfl
 have q2:=Ua (acc:=acc++[.str (S ((L.drop b).take (i - b)))]) (b:=((i+2:Nat):Int)) (d:=0) (x:= .vl (.int (i:Nat))) (y:= .vl (.str (S [44]))) h2 (.inr (by decide))
 have e0:(0:Int)+(if opn 32 then 1 else 0) - (if cls 32 then 1 else 0)=0:=by decide
 rw [e0] at q2
 exact ⟨_,_,q1.trans q2⟩
theorem kf {L:List Nat} {acc:List T} {j:Nat} {x' y' :Sl} (hL:L.length<=9000) (q:ZC (Za 5 6) Jd ((itm L).drop 0) (pE L [] 0 0 .un .un)= .nx (pE L acc (j:Nat) 0 x' y')) (hj:j<=L.length) (ha:acc.length<=900):f_r [.str (S L), .str ", "]= .ok (.lst (acc++[.str (S (L.drop j))])):=by
 have e1:jV (yV (vE 0)) (Za 5 6) Jd (pE L [] 0 0 .un .un)= .nx (pE L acc (j:Nat) 0 x' y'):=q
 have e2:Uz (vE 0) (Zr (vE 3)) noO (pE L acc (j:Nat) 0 x' y')= .ok (.str (S (L.drop j))):=by
  show (if (S L).length<=bnd then R.ok (T.str (Txt.slice (S L) (some (j:Int)) none)) else .bad)=_
  rw [VP hj,if_pos]
  rw [ZE]
  have:bnd=16777216:=rfl
  omega
 have e3:uH 2 (Uz (vE 0) (Zr (vE 3)) noO) (pE L acc (j:Nat) 0 x' y')= .nx (pE L (acc++[.str (S (L.drop j))]) (j:Nat) 0 x' y'):=by
  show (R.s (Uz (vE 0) (Zr (vE 3)) noO _) fun t=>if acc.length < bnd then RS.nx _ else .bad)=_
  rw [e2,ZL,if_pos (by have:bnd=16777216:=rfl; omega)]; rfl
 show zn (b_r [.vl (.str (S L)), .vl (.str ", "), .un, .un, .un, .un, .un])=_
 unfold b_r
 have z1:uF 2 zj [.vl (.str (S L)), .vl (.str ", "), .un, .un, .un, .un, .un]= .nx [.vl (.str (S L)), .vl (.str ", "), .ow [], .un, .un, .un, .un]:=rfl
 have z2:zT 3 (cE (.int 0)) [.vl (.str (S L)), .vl (.str ", "), .ow [], .un, .un, .un, .un]= .nx [.vl (.str (S L)), .vl (.str ", "), .ow [], .vl (.int 0), .un, .un, .un]:=rfl
 have z3:zT 4 (cE (.int 0)) [.vl (.str (S L)), .vl (.str ", "), .ow [], .vl (.int 0), .un, .un, .un]= .nx (pE L [] 0 0 .un .un):=rfl
 unfold Jd at e1
 rw [zg z1,zg z2,zg z3,zg e1,zg e3]
 rfl
theorem YM {L:List Nat} {i:Nat} (h:L.length<=i):(itm L).drop i=[]:=by
 refine List.drop_eq_nil_of_le ?_
 unfold itm ZQ ZP
 rw [ZM]
 simp; omega
theorem VS {x:List Nat} (hs:sc 0 x=some 0) (hL:x.length<=9000):f_r [.str (S x), .str ", "]= .ok (.lst [.str (S x)]):=by
 obtain ⟨x',y',q⟩:=UQ (L:=x) (acc:=[]) (b:=0) x 0 0 0 [] .un .un (by simp) hs
 rw [YM (i:=0+x.length) (by omega)] at q
 exact kf (j:=0) (acc:=[]) hL q (Nat.zero_le _) (by simp)
theorem YN {x y:List Nat} (hs:sc 0 x=some 0) (hy:sc 0 y=some 0) (hL:(x++[44,32]++y).length<=9000):f_r [.str (S (x++[44,32]++y)), .str ", "]= .ok (.lst [.str (S x), .str (S y)]):=by
 have d1:(x++[44,32]++y).drop (0+x.length)=44 :: 32 :: y:=by
  rw [Nat.zero_add,List.append_assoc,List.drop_left]; rfl
 have d2:(x++[44,32]++y).drop (0+x.length+2)=y:=by
  rw [← List.drop_drop,d1]; rfl
 obtain ⟨x1,y1,q1⟩:=UQ (L:=x++[44,32]++y) (acc:=[]) (b:=0) x 0 0 0 ([44,32]++y) .un .un (by rw [List.drop_zero,List.append_assoc]) hs
 obtain ⟨x2,y2,q2⟩:=gB (acc:=[]) (b:=0) (x:=x1) (y:=y1) d1 (Nat.zero_le _) hL (by simp)
 have ht:((x++[44,32]++y).drop 0).take (0+x.length - 0)=x:=by
  rw [List.drop_zero,Nat.zero_add,Nat.sub_zero,List.append_assoc,List.take_left]
 rw [ht] at q2
 obtain ⟨x3,y3,q3⟩:=UQ (L:=x++[44,32]++y) (acc:=[.str (S x)]) (b:=((0+x.length+2:Nat):Int)) y 0 0 (0+x.length+2) [] x2 y2 (by rw [d2,List.append_nil]) hy
 rw [YM (i:=0+x.length+2+y.length) (by simp; omega)] at q3
 have:=kf (j:=0+x.length+2) (acc:=[.str (S x)]) hL (q1.trans (q2.trans q3)) (by simp) (by simp)
 rw [d2] at this
 exact this
def pln (c:Nat):Prop:=c ≠ 44/\c ≠ 40/\c ≠ 91/\c ≠ 123/\c ≠ 41/\c ≠ 93/\c ≠ 125
theorem kg {c:Nat} (h:pln c):opn c=false/\cls c=false:=by
 unfold pln at h
 unfold opn cls
 simp; omega
theorem QX:∀ (l:List Nat) (d:Nat),(∀ c∈l,pln c)->sc d l=some d
 | [],_,_=>rfl
 | c :: r,d,h=>by
  have hc:=h c List.mem_cons_self
  obtain ⟨h1,h2⟩:=kg hc
  rw [JV,h1,h2,if_neg Bool.false_ne_true,if_neg Bool.false_ne_true,if_neg (fun z=>hc.1 z.2)]
  exact QX r d fun x hx=>h x (List.mem_cons_of_mem _ hx)
theorem j8:∀ (a b:List Nat) (d e:Nat),sc d a=some e->sc d (a++b)=sc e b
 | [],b,d,e,h=>by cases h; rfl
 | c :: r,b,d,e,h=>by
  rw [List.cons_append,JV]
  rw [JV] at h
  split at h
  ·rename_i ho
   rw [if_pos ho]; exact j8 r b _ _ h
  ·rename_i ho
   rw [if_neg ho]
   split at h
   ·rename_i hc
    rw [if_pos hc]
    cases d with
    | zero=>cases h
    | succ d=>exact j8 r b _ _ h
   ·rename_i hc
    rw [if_neg hc]
    split at h
    ·cases h
    ·rename_i hz
     rw [if_neg hz]; exact j8 r b _ _ h
theorem WQ:∀ (a:List Nat) (d e:Nat),sc d a=some e->sc (d+1) a=some (e+1)
 | [],d,e,h=>by cases h; rfl
 | c :: r,d,e,h=>by
  rw [JV] at h ⊢
  split at h
  ·rename_i ho
   rw [if_pos ho]; exact WQ r _ _ h
  ·rename_i ho
   rw [if_neg ho]
   split at h
   ·rename_i hc
    rw [if_pos hc]
    cases d with
    | zero=>cases h
    | succ d=>exact WQ r _ _ h
   ·rename_i hc
    rw [if_neg hc]
    split at h
    ·cases h
    ·rw [if_neg (by omega)]; exact WQ r _ _ h
theorem Qe {i:Int} (h1: -50<=i) (h2:i<=50):∀ c∈nl i,pln c/\c ≠ 32:=fun c hc=>by
 have:=(qb h1 h2).2.2.1 c hc
 unfold pln; omega
theorem kh {d:Nat} {r:Ru} (h:jF d r):∀ w∈r.w,∀ c∈w,pln c/\c ≠ 32:=by
 have lit:∀ (l:List Nat),l.all (fun c=>decide (97<=c) && decide (c<=122))=true->∀ c∈l,pln c/\c ≠ 32:=fun l hl c hc=>by
  have:=List.all_eq_true.mp hl c hc
  simp at this
  unfold pln; omega
 cases h with
 | sum ha hb=>
  intro w hw
  rcases List.mem_cons.mp hw with rfl | hw
  ·exact lit _ rfl
  ·rcases List.mem_cons.mp hw with rfl | hw
   ·exact Qe ha.1 ha.2
   ·rw [List.mem_singleton.mp hw]; exact Qe hb.1 hb.2
 | size ha hb=>
  intro w hw
  rcases List.mem_cons.mp hw with rfl | hw
  ·exact lit _ rfl
  ·rcases List.mem_cons.mp hw with rfl | hw
   ·exact Qe ha.1 ha.2
   ·rw [List.mem_singleton.mp hw]; exact Qe hb.1 hb.2
 | word hh=>
  intro w hw
  rcases List.mem_cons.mp hw with rfl | hw
  ·exact lit _ rfl
  ·rw [List.mem_singleton.mp hw]
   intro c hc
   have:=Qc hh c hc
   unfold pln; omega
 | rising=>intro w hw; rw [List.mem_singleton.mp hw]; exact lit _ rfl
 | unlike=>intro w hw; rw [List.mem_singleton.mp hw]; exact lit _ rfl
 | no _=>intro w hw; cases hw
 | all _ _=>intro w hw; cases hw
 | some _ _=>intro w hw; cases hw
theorem YO:∀ ls:List (List Nat),(∀ w∈ls,∀ c∈w,pln c)->∀ c∈jn ls,pln c
 | [],_=>fun c hc=>nomatch hc
 | [w],h=>h w List.mem_cons_self
 | w :: v :: r,h=>by
  intro c hc
  have hc:c∈w++32 :: jn (v :: r):=hc
  rcases List.mem_append.mp hc with hc | hc
  ·exact h w List.mem_cons_self c hc
  ·rcases List.mem_cons.mp hc with rfl | hc
   ·unfold pln; decide
   ·exact YO (v :: r) (fun z hz=>h z (List.mem_cons_of_mem _ hz)) c hc
theorem ki {d:Nat} {r:Ru} (h:jF d r):sc 0 r.x=some 0:=by
 have leaf:∀ (r:Ru),jF d r->sc 0 (jn r.w)=some 0:=fun r hr=>QX _ 0 (YO _ fun w hw c hc=>(kh hr w hw c hc).1)
 induction h with
 | sum ha hb=>rw [Ru.x]; exact leaf _ (.sum ha hb)
 | size ha hb=>rw [Ru.x]; exact leaf _ (.size ha hb)
 | word h=>rw [Ru.x]; exact leaf _ (.word h)
 | rising=>rw [Ru.x]; exact leaf _ .rising
 | unlike=>rw [Ru.x]; exact leaf _ .unlike
 | @no d r h ih=>
  have ih:=ih fun r hr=>leaf r hr.up
  rw [Ru.x,j8 _ _ 0 1 (by rw [j8 _ _ 0 1 (by decide)]; exact WQ _ 0 0 ih)]; rfl
 | @all d r s h h' ih ih' =>
  have ih:=ih fun r hr=>leaf r hr.up
  have ih' :=ih' fun r hr=>leaf r hr.up
  have e:sc 1 (r.x++[44,32]++s.x)=some 1:=by
   rw [j8 _ _ 1 1 (by rw [j8 _ _ 1 1 (WQ _ 0 0 ih)]; rfl)]; exact WQ _ 0 0 ih'
  rw [Ru.x,j8 _ _ 0 1 (by rw [j8 _ _ 0 1 (by decide)]; exact e)]; rfl
 | @some d r s h h' ih ih' =>
  have ih:=ih fun r hr=>leaf r hr.up
  have ih' :=ih' fun r hr=>leaf r hr.up
  have e:sc 1 (r.x++[44,32]++s.x)=some 1:=by
   rw [j8 _ _ 1 1 (by rw [j8 _ _ 1 1 (WQ _ 0 0 ih)]; rfl)]; exact WQ _ 0 0 ih'
  rw [Ru.x,j8 _ _ 0 1 (by rw [j8 _ _ 0 1 (by decide)]; exact e)]; rfl
theorem GR:∀ ls:List (List Nat),(ls.map (·.length)).sum<=(jn ls).length
 | []=>by simp
 | [w]=>by simp [jn]
 | w :: v :: r=>by
  have:=GR (v :: r)
  simp only [jn,List.map_cons,List.sum_cons,List.length_append,List.length_cons] at this ⊢
  omega
inductive Lfs:Ru->List (T×List Nat)->Prop where
 | sum {a b:Int} (ha: -50<=a/\a<=50) (hb: -50<=b/\b<=50):Lfs (.sum a b) [(.str "sum",[115,117,109]),(.int a,nl a),(.int b,nl b)]
 | size {a b:Int} (ha: -50<=a/\a<=50) (hb: -50<=b/\b<=50):Lfs (.size a b) [(.str "size",[115,105,122,101]),(.int a,nl a),(.int b,nl b)]
 | word {w:Str} (h:Zm (.str w)=true):Lfs (.word w) [(.str "word",[119,111,114,100]),(.str w,w.cps.toList)]
 | rising:Lfs .rising [(.str "rising",[114,105,115,105,110,103])]
 | unlike:Lfs .unlike [(.str "unlike",[117,110,108,105,107,101])]
theorem QY {r:Ru} {ps:List (T×List Nat)} (h:Lfs r ps):r.t= .tup (ps.map (·.1))/\r.x=jn (ps.map (·.2))/\r.w=ps.map (·.2)/\ps.length<=3/\(r.x).length<=20/\∀ p∈ps,txO p.1=some (S p.2):=by
 have lit:∀ (x:Str) (l:List Nat),x=S l->l.length<=6->txO (.str x)=some (S l):=fun x l e h=>by
  subst e
  exact if_pos (by rw [ZE]; omega)
 cases h with
 | sum ha hb=>
  have l1:=(qb ha.1 ha.2).1
  have l2:=(qb hb.1 hb.2).1
  refine ⟨by rw [Ru.t]; rfl,by rw [Ru.x]; rfl,rfl,by simp,by simp only [Ru.x,Ru.w,jn,List.length_append,List.length_cons,List.length_nil]; omega,fun p hp=> ?_⟩
  rcases List.mem_cons.mp hp with rfl | hp
  ·exact lit _ _ rfl (by decide)
  ·rcases List.mem_cons.mp hp with rfl | hp
   ·exact WO (by omega)
   ·rw [List.mem_singleton.mp hp]; exact WO (by omega)
 | size ha hb=>
  have l1:=(qb ha.1 ha.2).1
  have l2:=(qb hb.1 hb.2).1
  refine ⟨by rw [Ru.t]; rfl,by rw [Ru.x]; rfl,rfl,by simp,by simp only [Ru.x,Ru.w,jn,List.length_append,List.length_cons,List.length_nil]; omega,fun p hp=> ?_⟩
  rcases List.mem_cons.mp hp with rfl | hp
  ·exact lit _ _ rfl (by decide)
  ·rcases List.mem_cons.mp hp with rfl | hp
   ·exact WO (by omega)
   ·rw [List.mem_singleton.mp hp]; exact WO (by omega)
 | @word w hh=>
  have l1:=U8 hh
  refine ⟨by rw [Ru.t]; rfl,by rw [Ru.x]; rfl,rfl,by simp,by simp only [Ru.x,Ru.w,jn,List.length_append,List.length_cons,List.length_nil]; omega,fun p hp=> ?_⟩
  rcases List.mem_cons.mp hp with rfl | hp
  ·exact lit _ _ rfl (by decide)
  ·rw [List.mem_singleton.mp hp]
   exact lit _ _ (xb w).symm (show w.cps.toList.length<=6 by omega)
 | rising=>exact ⟨by rw [Ru.t]; rfl,by rw [Ru.x]; rfl,rfl,by simp,by simp [Ru.x,Ru.w,jn],fun p hp=>by rw [List.mem_singleton.mp hp]; exact lit _ _ rfl (by decide)⟩
 | unlike=>exact ⟨by rw [Ru.t]; rfl,by rw [Ru.x]; rfl,rfl,by simp,by simp [Ru.x,Ru.w,jn],fun p hp=>by rw [List.mem_singleton.mp hp]; exact lit _ _ rfl (by decide)⟩
theorem VT {r:Ru} {ps:List (T×List Nat)} (h:Lfs r ps):ap1 (wJ " ") (zY (j6 (vE 0)) (zG 0) Z2 (ap1 UA (vE 0)) 1 []) [.vl r.t]= .ok (.str (S r.x)):=by
 obtain ⟨e1,e2,_,e3,e4,e5⟩:=QY h
 have c:zY (j6 (vE 0)) (zG 0) Z2 (ap1 UA (vE 0)) 1 [] [.vl r.t]= .ok (.lst ((ps.map (·.2)).map fun l=>T.str (S l))):=by
  have l:=UP (fe:=ap1 UA (vE 0)) (ex:=[]) (ps.map fun p=>(p.1,T.str (S p.2))) .un fun q hq=>by
   obtain ⟨p,hp,rfl⟩:=List.mem_map.mp hq
   exact GQ rfl (e5 p hp)
  rw [List.map_map,List.map_map] at l
  rw [WP (ts:=ps.map (·.1)) (itA (by rw [e1]; rfl)) (by rw [List.length_map]; omega) l,List.map_map]; rfl
 have s:=GR (ps.map (·.2))
 rw [← e2] at s
 have:=uj (p:=" ") c (by
  rw [show ((" ":Str)).length=1 from rfl,List.length_map]
  omega)
 rw [this,e2]
 show R.ok (T.str (Str.join (S [32]) _))=_
 rw [YJ]
abbrev UR (c:List T->R T):En->R T:=ap1 (wJ ", ") (zY (j6 (slE (vE 0) (Zr (cE (.int 1))) noO)) (zG 0) Z2 (zc 1 c (z9 (vE 0) zj)) 1 [])
theorem sl1 {a:T} {ts:List T}:slE (vE 0) (Zr (cE (.int 1))) noO [.vl (.tup (a :: ts))]= .ok (.tup ts):=by
 show R.ok (T.tup (cut (a :: ts) (some ((1:Nat):Int)) none))=_
 rw [ui]; rfl
theorem j1 {c:List T->R T} {a t:T} {x:List Nat} (h:c [t]= .ok (.str (S x))) (hx:x.length<=200):UR c [.vl (.tup [a,t])]= .ok (.str (S x)):=by
 have l:=UP (fe:=zc 1 c (z9 (vE 0) zj)) (ex:=[]) [(t,T.str (S x))] .un fun q hq=>by
  rw [List.mem_singleton.mp hq,zL]; exact h
 have c:=WP (k:=1) (js:=[]) (itA (sl1 (a:=a) (ts:=[t]))) (by simp) l
 exact uj (ls:=[x]) (p:=", ") c (by rw [show ((", ":Str)).length=2 from rfl]; simp; omega)
theorem j2 {c:List T->R T} {a t u:T} {x y:List Nat} (h:c [t]= .ok (.str (S x))) (h' :c [u]= .ok (.str (S y))) (hx:x.length<=200) (hy:y.length<=200):UR c [.vl (.tup [a,t,u])]= .ok (.str (S (x++[44,32]++y))):=by
 have l:=UP (fe:=zc 1 c (z9 (vE 0) zj)) (ex:=[]) [(t,T.str (S x)),(u,T.str (S y))] .un fun q hq=>by
  rcases List.mem_cons.mp hq with rfl | hq
  ·rw [zL]; exact h
  ·rw [List.mem_singleton.mp hq,zL]; exact h'
 have c:=WP (k:=1) (js:=[]) (itA (sl1 (a:=a) (ts:=[t,u]))) (by simp) l
 have:=uj (ls:=[x,y]) (p:=", ") c (by rw [show ((", ":Str)).length=2 from rfl]; simp; omega)
 refine Eq.trans this ?_
 show R.ok (T.str (S x++S [44,32]++S y))=_
 rw [YI,YI]
theorem kj {h:List Nat} {x:List Nat} {t:T} {ts:List T} {s:Str} {c:List T->R T} (hs:s=S h) (ht:t= .tup (.str s :: ts)) (hj:UR c [.vl t]= .ok (.str (S x))) (hl:h.length+x.length<=1000):zI (zf zw (zf zw (zf zw (zf ixT (vE 0) (cE (.int 0))) (cE (.str "("))) (UR c)) (cE (.str ")"))) [.vl t]= .rt (.str (S (h++[40]++x++[41]))):=by
 subst hs ht
 have e0:zf ixT (vE 0) (cE (.int 0)) [.vl (.tup (.str (S h) :: ts))]= .ok (.str (S h)):=by
  rw [zp]; exact at0
 have e1:=Qd (g:=cE (.str "(")) (b:=[40]) e0 rfl (by simp only [List.length_cons,List.length_nil]; omega)
 have e2:=Qd e1 hj (by simp only [List.length_append,List.length_cons,List.length_nil]; omega)
 have e3:=Qd (g:=cE (.str ")")) (b:=[41]) e2 rfl (by simp only [List.length_append,List.length_cons,List.length_nil]; omega)
 exact zr e3
theorem ofE {s:Str} {ts:List T}:jC (zc 1 f_m (z9 (zf ixT (vE 0) (cE (.int 0))) zj)) [.vl (.tup (.str s :: ts))]= .ok ((s == "no") || ((s == "all") || (s == "some"))):=by
 rw [ZW,zL,zp]
 show (R.bind (R.bind (ixT (.tup (.str s :: ts)) (.int 0)) fun x=>f_m [x]) tru)=_
 rw [at0,bOk,k9]; rfl
theorem WR {r:Ru} {ps:List (T×List Nat)} (h:Lfs r ps) (n:Nat) (m:Nat):S_i (n+1) 0 [r.t]= .ok (.str (S r.x))/\S_h (m+1) 0 [r.t]= .ok (.str (S r.x)):=by
 have j:=VT h
 have hd:∃ s ts,r.t= .tup (.str s :: ts)/\((s == "no") || ((s == "all") || (s == "some")))=false/\inC (.str s) (.tup [.str "no", .str "all", .str "some"])= .ok false:=by
  cases h <;> (rw [Ru.t]; exact ⟨_,_,rfl,by decide+kernel,rfl⟩)
 obtain ⟨s,ts,e,h1,h2⟩:=hd
 constructor
 ·show zn (b_i (S_i n 0) f_m [.vl r.t])=_
  unfold b_i
  rw [zg (zv (by rw [e,ofE,h1])),zr j]; rfl
 ·show zn (b_h (S_h m 0) [.vl r.t])=_
  unfold b_h
  rw [zg (zv (by
   rw [e]
   show (R.bind (zf ixT (vE 0) (cE (.int 0)) _) fun x=>R.bind (.ok (.tup [.str "no", .str "all", .str "some"])) fun y=>inC x y)=_
   rw [zp]
   show (R.bind (ixT (.tup (.str s :: ts)) (.int 0)) _)=_
   rw [at0,bOk,bOk,h2])),zr j]; rfl
theorem VU {h x:List Nat} {t:T} {ts:List T} {s:Str} {n m:Nat} (hs:s=S h) (ht:t= .tup (.str s :: ts)) (ho:((s == "no") || ((s == "all") || (s == "some")))=true) (hi:inC (.str s) (.tup [.str "no", .str "all", .str "some"])= .ok true) (hl:h.length+x.length<=1000)
  (j1:UR (S_i n 0) [.vl t]= .ok (.str (S x))) (j2:UR (S_h m 0) [.vl t]= .ok (.str (S x))):S_i (n+1) 0 [t]= .ok (.str (S (h++[40]++x++[41])))/\S_h (m+1) 0 [t]= .ok (.str (S (h++[40]++x++[41]))):=by
 constructor
 ·show zn (b_i (S_i n 0) f_m [.vl t])=_
  unfold b_i
  rw [zJ ((jg (by rw [ht,ofE,ho])).trans (kj hs ht j1 hl))]; rfl
 ·show zn (b_h (S_h m 0) [.vl t])=_
  unfold b_h
  rw [zJ ((jg (by
   rw [ht]
   show (R.bind (zf ixT (vE 0) (cE (.int 0)) _) fun x=>R.bind (.ok (.tup [.str "no", .str "all", .str "some"])) fun y=>inC x y)=_
   rw [zp]
   show (R.bind (ixT (.tup (.str s :: ts)) (.int 0)) _)=_
   rw [at0,bOk,bOk,hi])).trans (kj hs ht j2 hl))]; rfl
theorem kl {d:Nat} {r:Ru} (h:jF d r):∀ n m,d<=n->d<=m->d<=3->S_i (n+1) 0 [r.t]= .ok (.str (S r.x))/\S_h (m+1) 0 [r.t]= .ok (.str (S r.x)):=by
 induction h with
 | sum ha hb=>exact fun n m _ _ _=>WR (.sum ha hb) n m
 | size ha hb=>exact fun n m _ _ _=>WR (.size ha hb) n m
 | word h=>exact fun n m _ _ _=>WR (.word h) n m
 | rising=>exact fun n m _ _ _=>WR .rising n m
 | unlike=>exact fun n m _ _ _=>WR .unlike n m
 | @no d r h ih=>
  intro n m hn hm hd
  have hl:=Nat.le_trans (wd h) (we (by omega))
  match n,m,hn,hm with
  | n+1,m+1,hn,hm=>
   obtain ⟨i1,i2⟩:=ih n m (by omega) (by omega) (by omega)
   have:=VU (h:=[110,111]) (x:=r.x) (t:=(Ru.no r).t) (ts:=[r.t]) (s:="no") (n:=n+1) (m:=m+1) rfl (by rw [Ru.t]) (by decide+kernel) rfl (by simp only [List.length_cons,List.length_nil]; omega) (by rw [Ru.t]; exact j1 i1 (by omega)) (by rw [Ru.t]; exact j1 i2 (by omega))
   rw [Ru.x]; exact this
 | @all d r s h h' ih ih' =>
  intro n m hn hm hd
  have hl:=Nat.le_trans (wd h) (we (by omega))
  have hl' :=Nat.le_trans (wd h') (we (by omega))
  match n,m,hn,hm with
  | n+1,m+1,hn,hm=>
   obtain ⟨i1,i2⟩:=ih n m (by omega) (by omega) (by omega)
   obtain ⟨k1,k2⟩:=ih' n m (by omega) (by omega) (by omega)
   have:=VU (h:=[97,108,108]) (x:=r.x++[44,32]++s.x) (t:=(Ru.all r s).t) (ts:=[r.t,s.t]) (s:="all") (n:=n+1) (m:=m+1) rfl (by rw [Ru.t]) (by decide+kernel) rfl (by simp only [List.length_append,List.length_cons,List.length_nil]; omega) (by rw [Ru.t]; exact j2 i1 k1 (by omega) (by omega)) (by rw [Ru.t]; exact j2 i2 k2 (by omega) (by omega))
   rw [Ru.x]; exact this
 | @some d r s h h' ih ih' =>
  intro n m hn hm hd
  have hl:=Nat.le_trans (wd h) (we (by omega))
  have hl' :=Nat.le_trans (wd h') (we (by omega))
  match n,m,hn,hm with
  | n+1,m+1,hn,hm=>
   obtain ⟨i1,i2⟩:=ih n m (by omega) (by omega) (by omega)
   obtain ⟨k1,k2⟩:=ih' n m (by omega) (by omega) (by omega)
   have:=VU (h:=[115,111,109,101]) (x:=r.x++[44,32]++s.x) (t:=(Ru.some r s).t) (ts:=[r.t,s.t]) (s:="some") (n:=n+1) (m:=m+1) rfl (by rw [Ru.t]) (by decide+kernel) rfl (by simp only [List.length_append,List.length_cons,List.length_nil]; omega) (by rw [Ru.t]; exact j2 i1 k1 (by omega) (by omega)) (by rw [Ru.t]; exact j2 i2 k2 (by omega) (by omega))
   rw [Ru.x]; exact this
theorem QZ {i:Int} (h1: -50<=i) (h2:i<=50):QD [.str (S (nl i))]= .ok (.int i):=by
 obtain ⟨a1,a2,a3,a4⟩:=qb h1 h2
 have e1:zB gtC (ap1 ZO (vB 0)) (cE (.int 3)) [.vl (.str (S (nl i))), .un]= .ok false:=by
  have e:ZO (.str (S (nl i)))= .ok (.int ((nl i).length:Nat)):=by
   show (if (S (nl i)).length<=bnd then R.ok (T.int (S (nl i)).length) else .bad)=_
   rw [ZE,if_pos (show (nl i).length<=bnd by have:bnd=16777216:=rfl; omega)]
  show (R.bind (ZO (.str (S (nl i)))) fun x=>R.bind (.ok (.int 3)) fun y=>gtC x y)=_
  rw [e,bOk,bOk]
  show R.ok (decide ((3:Int) < ((nl i).length:Nat)))=_
  rw [decide_eq_false (by omega)]
 have e2:Xq (zT 1 (ap1 kH (vE 0))) [.vl (.str (S (nl i))), .un]= .nx [.vl (.str (S (nl i))), .vl (.int i)]:=by
  have:ap1 kH (vE 0) [.vl (.str (S (nl i))), .un]= .ok (.int i):=by
   show (match rdI (S (nl i)) with | some n=>R.ok (T.int n) | none=> .bad)=_
   rw [← GP,a4]
  unfold Xq
  rw [Z3 this]; rfl
 have e3:zB neC (ap1 UA (vE 1)) (vB 0) [.vl (.str (S (nl i))), .vl (.int i)]= .ok false:=by
  have:ap1 UA (vE 1) [.vl (.str (S (nl i))), .vl (.int i)]= .ok (.str (S (nl i))):=GQ rfl (WO (by omega))
  show (R.bind (ap1 UA (vE 1) _) fun x=>R.bind (.ok (.str (S (nl i)))) fun y=>neC x y)=_
  rw [this,bOk,bOk]
  show R.ok (!(S (nl i) == S (nl i)))=_
  simp
 show zn (kK [.vl (.str (S (nl i))), .un])=_
 unfold kK
 rw [zg (zv e1),zg e2,zg (zv e3),zr (t:= .int i) rfl]; rfl
theorem VV {c:Nat} {m a:List Nat} (h:c ∉ a):Txt.partition (S a) (S (c :: m))=(S a,Str.empty,Str.empty):=by
 unfold Txt.partition
 rcases StrLaws.occ_head (S a) (S (c :: m)) 1 (Nat.le_refl _) with ⟨e,_⟩ | ⟨i,r,e,hi,_⟩
 ·rw [e]
 ·exact absurd (List.mem_of_getElem? (YL hi)) h
theorem YQ {d:Nat} {p l:List Nat} {o q:Str} (ho:o=S p) (hq:q=S [d]) (hp:p.length<=100) (hl:l.length<=9000):Vp [.str (S (p++l++[d])), .str o, .str q]= .ok (.str (S l)):=by
 subst ho hq
 have hb:bnd=16777216:=rfl
 have e1:smE kC (vE 0) (vE 1) [.vl (.str (S (p++l++[d]))), .vl (.str (S p)), .vl (.str (S [d]))]= .ok (.bl true):=by
  show R.ok (T.bl (Txt.startswith (S (p++l++[d])) (S p)))=_
  unfold Txt.startswith
  rw [StrLaws.subAt_eq,ZE,ZE,ZM,ZM,List.drop_zero,List.append_assoc,List.take_left]
  simp
 have e2:smE kD (vE 0) (vE 2) [.vl (.str (S (p++l++[d]))), .vl (.str (S p)), .vl (.str (S [d]))]= .ok (.bl true):=by
  show R.ok (T.bl (Txt.endswith (S (p++l++[d])) (S [d])))=_
  rw [gy]
 have e3:orT (wl (jC (smE kC (vE 0) (vE 1)))) (wl (jC (smE kD (vE 0) (vE 2)))) [.vl (.str (S (p++l++[d]))), .vl (.str (S p)), .vl (.str (S [d]))]= .ok false:=by
  rw [wQ,jZ,ZW,e1,bOk,jf,bOk,bOk,jZ,ZW,e2,bOk,jf]; rfl
 have sl:Txt.slice (S (p++l++[d])) (some (p.length:Int)) (some (-1))=S l:=by
  have e:Txt.slice (S (p++l++[d])) (some (p.length:Int)) (some (-1))=Txt.slice (S (p++l++[d])) (some (p.length:Int)) (some (-1+(S (p++l++[d])).length)):=StrLaws.sliceText_neg_hi _ _ (by decide) (by rw [ZE]; simp; omega)
  rw [e,ZE,show (-1+((p++l++[d]).length:Nat):Int)=((p.length+l.length:Nat):Int) by simp; omega,k8 (by omega) (by simp),List.append_assoc,List.drop_left,show p.length+l.length - p.length=l.length by omega,List.take_left]
 have e4:Uz (vE 0) (Zr (ap1 ZO (vB 1))) (Zr (uy (ap1 ZO (vB 2)))) [.vl (.str (S (p++l++[d]))), .vl (.str (S p)), .vl (.str (S [d]))]= .ok (.str (S l)):=by
  have l1:ZO (.str (S p))= .ok (.int (p.length:Nat)):=by
   show (if (S p).length<=bnd then R.ok (T.int (S p).length) else .bad)=_
   rw [ZE,if_pos (by omega)]
  have a1:Zr (ap1 ZO (vB 1)) [.vl (.str (S (p++l++[d]))), .vl (.str (S p)), .vl (.str (S [d]))]= .ok (some (p.length:Int)):=by
   show (R.bind (ZO (.str (S p))) _)=_
   rw [l1]; rfl
  unfold Uz
  rw [v0,bOk,a1,bOk]
  show (if (S (p++l++[d])).length<=bnd then R.ok (T.str (Txt.slice (S (p++l++[d])) (some (p.length:Int)) (some (-1)))) else .bad)=_
  rw [sl,if_pos]
  rw [ZE]
  simp only [List.length_cons,List.length_append,List.length_nil]; omega
 show zn (kL [.vl (.str (S (p++l++[d]))), .vl (.str (S p)), .vl (.str (S [d]))])=_
 unfold kL
 rw [zg (zv e3),zr e4]; rfl
theorem slL {a:T} {ts:List T}:slE (vE 0) (Zr (cE (.int 1))) noO [.vl (.lst (a :: ts))]= .ok (.lst ts):=by
 show R.ok (T.lst (cut (a :: ts) (some ((1:Nat):Int)) none))=_
 rw [ui]; rfl
theorem uk {f:En->R T} {ρ:En} {ts:List T} (h:f ρ= .ok (.lst ts)):ap1 Qn f ρ= .ok (.tup ts):=by
 rw [j7,h,bOk]; rfl
theorem YR {f g:En->R T} {ρ:En} {xs ys:List T} (hf:f ρ= .ok (.tup xs)) (hg:g ρ= .ok (.tup ys)) (h:xs.length+ys.length<=100):zf zw f g ρ= .ok (.tup (xs++ys)):=by
 rw [zp,hf,bOk,hg,bOk]
 exact if_pos (by have:bnd=16777216:=rfl; omega)
theorem atL {h:T} {r:List T}:ixT (.lst (h :: r)) (.int 0)= .ok h:=by
 show atT (h :: r) 0=_
 exact QL (j:=0) rfl
theorem ixL {h:T} {r:List T} {ρ:En}:zf ixT (vE 0) (cE (.int 0)) (.vl (.lst (h :: r)) :: ρ)= .ok h:=by rw [zp]; exact atL
theorem hdE {s w:Str} {ts:List T}:zB eqC (zf ixT (vE 0) (cE (.int 0))) (cE (.str w)) [.vl (.lst (.str s :: ts))]= .ok (s == w):=by
 show (R.bind (zf ixT (vE 0) (cE (.int 0)) _) fun x=>R.bind (.ok (.str w)) fun y=>eqC x y)=_
 rw [ixL,bOk,bOk]; rfl
theorem YS {s:Str} {a b:Int} (ha: -50<=a/\a<=50) (hb: -50<=b/\b<=50) (hs:((s == "sum") || (s == "size"))=true):f_u [.lst [.str s, .str (S (nl a)), .str (S (nl b))]]= .ok (.tup [.str s, .int a, .int b]):=by
 have l:=UP (fe:=zc 1 (nex QD) (z9 (vE 0) zj)) (ex:=[]) [(T.str (S (nl a)),T.int a),(T.str (S (nl b)),T.int b)] .un fun q hq=>by
  rcases List.mem_cons.mp hq with rfl | hq
  ·rw [zL]
   show nex QD [.str (S (nl a))]=_
   unfold nex
   rw [QZ ha.1 ha.2]; rfl
  ·rw [List.mem_singleton.mp hq,zL]
   show nex QD [.str (S (nl b))]=_
   unfold nex
   rw [QZ hb.1 hb.2]; rfl
 have c:=WP (k:=1) (js:=[]) (itL (slL (a:= .str s) (ts:=[.str (S (nl a)), .str (S (nl b))]))) (by simp) l
 have e:=YR (gp (ixL (h:=T.str s) (r:=[.str (S (nl a)), .str (S (nl b))]) (ρ:=[]))) (uk c) (by simp)
 show zn (b_u QD [.vl (.lst [.str s, .str (S (nl a)), .str (S (nl b))])])=_
 unfold b_u
 rw [zJ ((jg (by
  rw [wQ,hdE,bOk,hdE]
  cases h1:(s == "sum") with
  | true=>rfl
  | false=>rw [h1,Bool.false_or] at hs; rw [hs]; rfl)).trans (zr e))]; rfl
theorem ul {s:Str} {ts:List T} (hs:((s == "sum") || (s == "size"))=false):f_u [.lst (.str s :: ts)]= .ok (.tup (.str s :: ts)):=by
 rw [Bool.or_eq_false_iff] at hs
 show zn (b_u QD [.vl (.lst (.str s :: ts))])=_
 unfold b_u
 rw [zg (zv (by rw [wQ,hdE,bOk,hs.1,if_neg Bool.false_ne_true,hdE,hs.2])),zr (uk rfl)]; rfl
theorem YT {r:Ru} {ps:List (T×List Nat)} (h:Lfs r ps):f_u [.lst (r.w.map fun l=>T.str (S l))]= .ok r.t:=by
 cases h with
 | sum ha hb=>rw [Ru.t]; exact YS (s:="sum") ha hb (by decide+kernel)
 | size ha hb=>rw [Ru.t]; exact YS (s:="size") ha hb (by decide+kernel)
 | @word w hh=>
  rw [Ru.t]
  have:=ul (s:="word") (ts:=[.str (S w.cps.toList)]) (by decide+kernel)
  rw [xb] at this
  show f_u [.lst [.str (S [119,111,114,100]), .str (S w.cps.toList)]]=_
  rw [xb]; exact this
 | rising=>rw [Ru.t]; exact ul (s:="rising") (ts:=[]) (by decide+kernel)
 | unlike=>rw [Ru.t]; exact ul (s:="unlike") (ts:=[]) (by decide+kernel)
abbrev kE (t:T) (d:Int) (x y:Sl):En:=[.vl t, .vl (.int d),x,y]
theorem lv0 {t:T} {d:Nat} {x y:Sl}:ifS (zB eqC (vB 1) (cE (.int 0))) (jr 5) nxS (kE t ((d+1:Nat):Int) x y)= .nx (kE t ((d+1:Nat):Int) x y):=by
 refine zv ?_
 show R.ok (((d+1:Nat):Int) == 0)=_
 rw [beq_eq_false_iff_ne.mpr (by omega)]
theorem km {x:List Nat} {a b c:Str} {d:Int} (hl:x.length<=9000) (h:Txt.partition (S x) (S [40])=(a,b,c)):zT 2 (smE KY (vE 0) (cE (.str "("))) (kE (.str (S x)) d .un .un)= .nx (kE (.str (S x)) d (.vl (.tup [.str a, .str b, .str c])) .un):=by
 refine Z3 ?_
 show (if (S x).length<=bnd/\((S [40]).length == 0)=false then R.ok (T.tup [.str (Txt.partition (S x) (S [40])).1, .str (Txt.partition (S x) (S [40])).2.1, .str (Txt.partition (S x) (S [40])).2.2]) else .bad)=_
 rw [h,if_pos ⟨by rw [ZE]; have:bnd=16777216:=rfl; omega,by rw [ZE]; rfl⟩]
theorem of2 {t a b c:T} {s:Str} {d:Int} (ha:a= .str s):jC (zc 1 f_m (z9 (zf ixT (vE 2) (cE (.int 0))) zj)) (kE t d (.vl (.tup [a,b,c])) .un)= .ok ((s == "no") || ((s == "all") || (s == "some"))):=by
 subst ha
 rw [ZW,zL]
 show (R.bind (R.bind (ixT (.tup [.str s,b,c]) (.int 0)) fun x=>f_m [x]) tru)=_
 rw [at0,bOk,k9]; rfl
theorem JW {r:Ru} {ps:List (T×List Nat)} {e:Nat} (hr:jF e r) (h:Lfs r ps) (n d:Nat):S_6 (n+1) 0 [.str (S r.x), .int ((d+1:Nat):Int)]= .ok r.t:=by
 obtain ⟨e1,e2,e3,e4,e5,e6⟩:=QY h
 have hw:=kh hr
 have hx:r.x=jn r.w:=by rw [e2,e3]
 have hno:40 ∉ r.x:=fun z=>by
  rw [hx] at z
  exact (YO _ (fun w hw' c hc=>(hw w hw' c hc).1) 40 z).2.1 rfl
 have hne:r.w ≠ []:=by cases h <;> exact List.cons_ne_nil _ _
 have ho:((S r.x == "no") || ((S r.x == "all") || (S r.x == "some")))=false:=by
  rw [show (("no":Str))=S [110,111] from rfl,show (("all":Str))=S [97,108,108] from rfl,show (("some":Str))=S [115,111,109,101] from rfl,VQ,VQ,VQ]
  cases h <;> simp [Ru.x,Ru.w,jn]
 have es:smE kF (vE 0) (cE (.str " ")) (kE (.str (S r.x)) ((d+1:Nat):Int) (.vl (.tup [.str (S r.x), .str Str.empty, .str Str.empty])) .un)= .ok (.lst (r.w.map fun l=>T.str (S l))):=by
  show (if (S r.x).length<=1000/\((S [32]).length == 0)=false then R.ok (T.lst ((Txt.split (S r.x) (S [32])).map T.str)) else .bad)=_
  rw [if_pos ⟨by rw [ZE]; omega,by rw [ZE]; rfl⟩,hx,VN hne (fun w hw' =>fun z=>(hw w hw' 32 z).2 rfl),List.map_map]; rfl
 have ex:zc 1 f_u (z9 (smE kF (vE 0) (cE (.str " "))) zj) (kE (.str (S r.x)) ((d+1:Nat):Int) (.vl (.tup [.str (S r.x), .str Str.empty, .str Str.empty])) .un)= .ok r.t:=by rw [zL,es,bOk,YT h]
 show zn (b_6 Vp f_r f_m (S_6 n 0) f_u (kE (.str (S r.x)) ((d+1:Nat):Int) .un .un))=_
 unfold b_6
 rw [zg lv0,zg (km (by omega) (VV hno)),zg (zv (by rw [of2 rfl,ho])),zr (t:=r.t)]
 ·rfl
 ·exact ex
theorem VW {h x:List Nat} {s:Str} {ls:List (T×T)} {n d:Nat} (hs:s=S h) (ho:((s == "no") || ((s == "all") || (s == "some")))=true) (h40:40 ∉ h) (hh:h.length<=10) (hx:x.length<=1000) (hl:ls.length<=10)
  (hp:f_r [.str (S x), .str ", "]= .ok (.lst (ls.map (·.1)))) (hr:∀ q∈ls,S_6 n 0 [q.1, .int (d:Nat)]= .ok q.2):
  S_6 (n+1) 0 [.str (S (h++[40]++x++[41])), .int ((d+1:Nat):Int)]= .ok (.tup (.str s :: ls.map (·.2))):=by
 subst hs
 have hlen:(h++[40]++x++[41]).length<=9000:=by simp only [List.length_append,List.length_cons,List.length_nil]; omega
 have ep:Txt.partition (S (h++[40]++x++[41])) (S [40])=(S h,S [40],S (x++[41])):=by
  have:=k7 (c:=40) (m:=[]) (a:=h) (b:=x++[41]) h40
  rw [show h++[40]++x++[41]=h++[40]++(x++[41]) by simp]
  exact this
 generalize hρ:kE (.str (S (h++[40]++x++[41]))) ((d+1:Nat):Int) (.vl (.tup [.str (S h), .str (S [40]), .str (S (x++[41]))])) .un=ρ
 have i0:zf ixT (vE 2) (cE (.int 0)) ρ= .ok (.str (S h)):=by
  rw [← hρ,zp]
  show (R.bind (.ok (.tup [.str (S h), .str (S [40]), .str (S (x++[41]))])) fun x=>R.bind (.ok (.int 0)) fun y=>ixT x y)=_
  rw [bOk,bOk]; exact at0
 have i1:=Qd (g:=cE (.str "(")) (b:=[40]) i0 rfl (by simp only [List.length_cons,List.length_nil]; omega)
 have t1:zc 3 Vp (z9 (vE 0) (z9 (zf zw (zf ixT (vE 2) (cE (.int 0))) (cE (.str "("))) (z9 (cE (.str ")")) zj))) ρ= .ok (.str (S x)):=by
  rw [Zz,show vE 0 ρ= .ok (.str (S (h++[40]++x++[41]))) by rw [← hρ]; rfl,bOk,i1,bOk,Z7,bOk]
  exact YQ rfl rfl (by simp only [List.length_append,List.length_cons,List.length_nil]; omega) (by omega)
 have t2:zT 3 (zc 2 f_r (z9 (zc 3 Vp (z9 (vE 0) (z9 (zf zw (zf ixT (vE 2) (cE (.int 0))) (cE (.str "("))) (z9 (cE (.str ")")) zj)))) (z9 (cE (.str ", ")) zj))) ρ= .nx (ρ.set 3 (.vl (.lst (ls.map (·.1))))):=by
  refine Z3 ?_
  rw [Zq,t1,bOk,Z7,bOk,hp]
 have l:=UP (fe:=zc 2 (nex (S_6 n 0)) (z9 (vE 0) (z9 (zf jG (vE 1) (cE (.int 1))) zj))) (ex:=[.vl (.int ((d+1:Nat):Int))]) ls .un fun q hq=>by
  rw [Zq,v0,bOk,show zf jG (vE 1) (cE (.int 1)) [.vl q.1, .vl (.int ((d+1:Nat):Int))]= .ok (.int (d:Nat)) by
   show R.ok (T.int (((d+1:Nat):Int) - 1))=_
   rw [show ((d+1:Nat):Int) - 1=(d:Nat) by omega],bOk]
  unfold nex
  rw [hr q hq]; rfl
 have i3:zf ixT (vE 2) (cE (.int 0)) (ρ.set 3 (.vl (.lst (ls.map (·.1)))))= .ok (.str (S h)):=by
  rw [← hρ,zp]
  show (R.bind (.ok (.tup [.str (S h), .str (S [40]), .str (S (x++[41]))])) fun x=>R.bind (.ok (.int 0)) fun y=>ixT x y)=_
  rw [bOk,bOk]; exact at0
 have c:=WP (k:=1) (js:=[1]) (fi:=j6 (vE 3)) (ρ:=ρ.set 3 (.vl (.lst (ls.map (·.1))))) (ts:=ls.map (·.1)) (by rw [← hρ]; rfl) (by rw [List.length_map]; omega) (by rw [← hρ]; exact l)
 have r:=YR (gp i3) (uk c) (by simp; omega)
 show zn (b_6 Vp f_r f_m (S_6 n 0) f_u (kE (.str (S (h++[40]++x++[41]))) ((d+1:Nat):Int) .un .un))=_
 unfold b_6
 rw [zg lv0,zg (km hlen ep),hρ,zJ (t:= .tup (.str (S h) :: ls.map (·.2)))]
 ·rfl
 ·rw [jg (by rw [← hρ,of2 rfl,ho]),zg t2]
  refine zr ?_
  have hf:frz (ρ.set 3 (.vl (.lst (ls.map (·.1)))))=ρ.set 3 (.vl (.lst (ls.map (·.1)))):=by rw [← hρ]; rfl
  rw [hf]
  exact r
theorem gC {d:Nat} {r:Ru} (h:jF d r):∀ n,d<=n->d<=3->S_6 (n+1) 0 [.str (S r.x), .int (d:Nat)]= .ok r.t:=by
 induction h with
 | @sum d a b ha hb=>exact fun n _ _=>JW (e:=1) (.sum ha hb) (.sum ha hb) n d
 | @size d a b ha hb=>exact fun n _ _=>JW (e:=1) (.size ha hb) (.size ha hb) n d
 | @word d w h=>exact fun n _ _=>JW (e:=1) (.word h) (.word h) n d
 | @rising d=>exact fun n _ _=>JW (e:=1) .rising .rising n d
 | @unlike d=>exact fun n _ _=>JW (e:=1) .unlike .unlike n d
 | @no d r h ih=>
  intro n hn hd
  have hl:=Nat.le_trans (wd h) (we (by omega))
  match n,hn with
  | n+1,hn=>
   have:=VW (h:=[110,111]) (x:=r.x) (s:="no") (ls:=[(.str (S r.x),r.t)]) (n:=n+1) (d:=d) rfl (by decide+kernel) (by decide) (by decide) (by omega) (by simp) (VS (ki h) (by omega)) (fun q hq=>by rw [List.mem_singleton.mp hq]; exact ih n (by omega) (by omega))
   rw [Ru.x,Ru.t]; exact this
 | @all d r s h h' ih ih' =>
  intro n hn hd
  have hl:=Nat.le_trans (wd h) (we (by omega))
  have hl' :=Nat.le_trans (wd h') (we (by omega))
  have hc:(r.x++[44,32]++s.x).length<=1000:=by simp only [List.length_append,List.length_cons,List.length_nil]; omega
  match n,hn with
  | n+1,hn=>
   have:=VW (h:=[97,108,108]) (x:=r.x++[44,32]++s.x) (s:="all") (ls:=[(.str (S r.x),r.t),(.str (S s.x),s.t)]) (n:=n+1) (d:=d) rfl (by decide+kernel) (by decide) (by decide) hc (by simp) (YN (ki h) (ki h') (by omega)) (fun q hq=>by
    rcases List.mem_cons.mp hq with rfl | hq
    ·exact ih n (by omega) (by omega)
    ·rw [List.mem_singleton.mp hq]; exact ih' n (by omega) (by omega))
   rw [Ru.x,Ru.t]; exact this
 | @some d r s h h' ih ih' =>
  intro n hn hd
  have hl:=Nat.le_trans (wd h) (we (by omega))
  have hl' :=Nat.le_trans (wd h') (we (by omega))
  have hc:(r.x++[44,32]++s.x).length<=1000:=by simp only [List.length_append,List.length_cons,List.length_nil]; omega
  match n,hn with
  | n+1,hn=>
   have:=VW (h:=[115,111,109,101]) (x:=r.x++[44,32]++s.x) (s:="some") (ls:=[(.str (S r.x),r.t),(.str (S s.x),s.t)]) (n:=n+1) (d:=d) rfl (by decide+kernel) (by decide) (by decide) hc (by simp) (YN (ki h) (ki h') (by omega)) (fun q hq=>by
    rcases List.mem_cons.mp hq with rfl | hq
    ·exact ih n (by omega) (by omega)
    ·rw [List.mem_singleton.mp hq]; exact ih' n (by omega) (by omega))
   rw [Ru.x,Ru.t]; exact this
theorem gD {d:Nat} {r:Ru} (h:jF d r):Pl (d+1) r.t:=by
 have t2:∀ {n:Nat} {a b:T},Pl n a->Pl n b->Pl (n+1) (.tup [a,b]):=fun ha hb x hx=>by
  rcases List.mem_cons.mp hx with rfl | hx
  ·exact ha
  ·rw [List.mem_singleton.mp hx]; exact hb
 have t3:∀ {n:Nat} {a b c:T},Pl n a->Pl n b->Pl n c->Pl (n+1) (.tup [a,b,c]):=fun ha hb hc x hx=>by
  rcases List.mem_cons.mp hx with rfl | hx
  ·exact ha
  ·rcases List.mem_cons.mp hx with rfl | hx
   ·exact hb
   ·rw [List.mem_singleton.mp hx]; exact hc
 induction h with
 | sum=>rw [Ru.t]; exact t3 trivial trivial trivial
 | size=>rw [Ru.t]; exact t3 trivial trivial trivial
 | word=>rw [Ru.t]; exact t2 trivial trivial
 | rising=>rw [Ru.t]; exact fun x hx=>by rw [List.mem_singleton.mp hx]; trivial
 | unlike=>rw [Ru.t]; exact fun x hx=>by rw [List.mem_singleton.mp hx]; trivial
 | no _ ih=>rw [Ru.t]; exact t2 trivial ih
 | all _ _ ih ih' =>rw [Ru.t]; exact t3 trivial ih ih'
 | some _ _ ih ih' =>rw [Ru.t]; exact t3 trivial ih ih'
theorem kn {r:Ru} (h:jF 3 r):f_7 [r.t]= .ok (.bl true):=by
 show zn (b_7 (f_k 8) [.vl r.t])=_
 rw [b_7,zr (t:= .bl true)]
 ·rfl
 ·show zc 2 _ _ [.vl r.t]=_
  rw [Zq,v0,bOk,Z7,bOk]
  exact jR 8 3 (by omega) r h
theorem YU {r:Ru} (h:jF 3 r):f_5 [r.t]= .ok (.str (S r.x)):=by
 show zn (b_5 f_s (f_i 8) [.vl r.t])=_
 rw [b_5,zg (wZ (t:= .non) (by rw [zL,v0,bOk,Jk h])),zr (t:= .str (S r.x))]
 ·rfl
 ·show zc 1 _ _ [.vl r.t]=_
  rw [zL,v0,bOk]; exact (kl h 7 7 (by decide) (by decide) (by decide)).1
theorem VX {r:Ru} (h:jF 3 r):f_t [.str (S r.x)]= .ok r.t:=by
 have e1:zT 1 (zc 2 (f_6 8) (z9 (vE 0) (z9 (cE (.int 3)) zj))) [.vl (.str (S r.x)), .un]= .nx [.vl (.str (S r.x)), .vl r.t]:=by
  refine Z3 ?_
  rw [Zq]
  exact gC h 7 (by decide) (by decide)
 show zn (b_t f_7 gh (f_6 8) [.vl (.str (S r.x)), .un])=_
 unfold b_t
 rw [zg (wZ (t:= .non) (by rw [zL]; rfl)),zg e1,zg (zv (by rw [jZ,ZW,zL,v1,bOk,kn h,bOk,jf,bOk]; rfl)),zr (t:=r.t) rfl]; rfl
abbrev YV:En->RS:=(zx (zT 3 (zc 3 (f_3 8) (z9 (vE 0) (z9 (zf zw (cE (.int 4000)) (zf Z1 (cE (.int 300)) (vE 2))) (z9 (cE (.int 3)) (zj))))))
  (zx (zT 4 (zc 1 (f_h 8) (z9 (vE 3) (zj))))
  (zx (ifS (orT (zB neC (zc 1 f_5 (z9 (vE 3) (zj))) (vB 4)) (zB neC (zc 1 f_t (z9 (vE 4) (zj))) (vB 3))) (zI (cE (.bl false))) (nxS))
  (ifS (US (zB eqC (vB 2) (cE (.int 0))) (zB neC (zc 2 f_q (z9 (vE 1) (z9 (zc 1 f_t (z9 (vE 4) (zj))) (zj)))) (zc 2 f_q (z9 (vE 1) (z9 (vE 3) (zj)))))) (zI (cE (.bl false))) (nxS)))))
theorem ko (ns:List Int) {k:Kd} (hk:k.Ok 3) (h5:k.all.length<=500) (j:Nat) (x y:Sl):∃ x' y',YV [.vl (scr ns), .vl k.t, .vl (.int (j:Int)),x,y]= .nx [.vl (scr ns), .vl k.t, .vl (.int (j:Int)),x',y']:=by
 obtain ⟨r,er,hr⟩:=W1 ns 8 3 (by decide) (by decide) (4000+300*(j:Int)) (by omega)
 refine ⟨.vl r.t, .vl (.str (S r.x)), ?_⟩
 have hm:Z1 (.int 300) (.int (j:Int))= .ok (.int (300*(j:Int))):=UH _ _ (.inl ⟨by decide,by decide⟩)
 have ea:zf zw (cE (.int 4000)) (zf Z1 (cE (.int 300)) (vE 2)) [.vl (scr ns), .vl k.t, .vl (.int (j:Int)),x,y]= .ok (.int (4000+300*(j:Int))):=by
  show (R.bind (.ok (.int 4000)) fun a=>R.bind (Z1 (.int 300) (.int (j:Int))) fun b=>zw a b)=_
  rw [bOk,hm,bOk]; rfl
 have e1:zT 3 (zc 3 (f_3 8) (z9 (vE 0) (z9 (zf zw (cE (.int 4000)) (zf Z1 (cE (.int 300)) (vE 2))) (z9 (cE (.int 3)) zj)))) [.vl (scr ns), .vl k.t, .vl (.int (j:Int)),x,y]= .nx [.vl (scr ns), .vl k.t, .vl (.int (j:Int)), .vl r.t,y]:=
  Z3 (by rw [Zz,v0,bOk,ea,bOk,Z7,bOk]; exact er)
 have e2:zT 4 (zc 1 (f_h 8) (z9 (vE 3) zj)) [.vl (scr ns), .vl k.t, .vl (.int (j:Int)), .vl r.t,y]= .nx [.vl (scr ns), .vl k.t, .vl (.int (j:Int)), .vl r.t, .vl (.str (S r.x))]:=
  Z3 (by rw [zL]; exact (kl hr 7 7 (by decide) (by decide) (by decide)).2)
 generalize hρ:([.vl (scr ns), .vl k.t, .vl (.int (j:Int)), .vl r.t, .vl (.str (S r.x))]:En)=ρ at e2 ⊢
 have g1:vE 1 ρ= .ok k.t:=by rw [← hρ]; rfl
 have g3:vE 3 ρ= .ok r.t:=by rw [← hρ]; rfl
 have g4:vE 4 ρ= .ok (.str (S r.x)):=by rw [← hρ]; rfl
 have b2:vB 2 ρ= .ok (.int (j:Int)):=by rw [← hρ]; rfl
 have b3:vB 3 ρ= .ok r.t:=by rw [← hρ]; rfl
 have b4:vB 4 ρ= .ok (.str (S r.x)):=by rw [← hρ]; rfl
 have r1:zc 1 f_5 (z9 (vE 3) zj) ρ= .ok (.str (S r.x)):=by rw [zL,g3,bOk,YU hr]
 have r2:zc 1 f_t (z9 (vE 4) zj) ρ= .ok r.t:=by rw [zL,g4,bOk,VX hr]
 have r3:zc 2 f_q (z9 (vE 1) (z9 (zc 1 f_t (z9 (vE 4) zj)) zj)) ρ= .ok (.lst (fl k r)):=by rw [Zq,g1,bOk,r2,bOk,wA hk h5 hr]
 have r4:zc 2 f_q (z9 (vE 1) (z9 (vE 3) zj)) ρ= .ok (.lst (fl k r)):=by rw [Zq,g1,bOk,g3,bOk,wA hk h5 hr]
 have c1:zB neC (zc 1 f_5 (z9 (vE 3) zj)) (vB 4) ρ= .ok false:=by
  show (R.bind _ fun x=>R.bind _ fun y=>neC x y)=_
  rw [r1,bOk,b4,bOk]; exact uh trivial
 have c2:zB neC (zc 1 f_t (z9 (vE 4) zj)) (vB 3) ρ= .ok false:=by
  show (R.bind _ fun x=>R.bind _ fun y=>neC x y)=_
  rw [r2,bOk,b3,bOk]; exact uh ((gD hr).le (by decide))
 have c3:zB neC (zc 2 f_q (z9 (vE 1) (z9 (zc 1 f_t (z9 (vE 4) zj)) zj))) (zc 2 f_q (z9 (vE 1) (z9 (vE 3) zj))) ρ= .ok false:=by
  show (R.bind _ fun x=>R.bind _ fun y=>neC x y)=_
  rw [r3,bOk,r4,bOk]; exact uh (show ∀ x∈fl k r,Pl 29 x from fun x hx=>(fl_w hk r x hx).pl.le (by decide))
 have c4:US (zB eqC (vB 2) (cE (.int 0))) (zB neC (zc 2 f_q (z9 (vE 1) (z9 (zc 1 f_t (z9 (vE 4) zj)) zj))) (zc 2 f_q (z9 (vE 1) (z9 (vE 3) zj)))) ρ= .ok false:=by
  rw [wS]
  have:zB eqC (vB 2) (cE (.int 0)) ρ= .ok ((j:Int) == 0):=by
   show (R.bind _ fun x=>R.bind _ fun y=>eqC x y)=_
   rw [b2,bOk,Z7,bOk]; rfl
  rw [this,bOk]
  split
  ·exact c3
  ·rfl
 unfold YV
 rw [zg e1,zg e2,zg (zv (by rw [wQ,c1,bOk,if_neg Bool.false_ne_true,c2])),zv c4]
theorem v6 (ns:List Int) {k:Kd} (hk:k.Ok 3) (h5:k.all.length<=500):∀ (js:List Nat) (a x y:Sl),∃ a' x' y',ZC (zG 2) YV (js.map fun (j:Nat)=>T.int (j:Int)) [.vl (scr ns), .vl k.t,a,x,y]= .nx [.vl (scr ns), .vl k.t,a',x',y']
 | [],a,x,y=>⟨a,x,y,rfl⟩
 | j :: js,a,x,y=>by
  obtain ⟨x1,y1,h1⟩:=ko ns hk h5 j x y
  obtain ⟨a2,x2,y2,h2⟩:=v6 ns hk h5 js (.vl (.int (j:Int))) x1 y1
  refine ⟨a2,x2,y2, ?_⟩
  rw [List.map_cons,Jj (ρ1:=[.vl (scr ns), .vl k.t, .vl (.int (j:Int)),x,y]) rfl h1,h2]
def r0:Ru:= .all (.no .rising) (.sum (-3) 5)
theorem gE:jF 3 r0:= .all (.no .rising) (.sum ⟨by decide,by decide⟩ ⟨by decide,by decide⟩)
theorem r0_x:S r0.x="all(no(rising), sum -3 5)":=by
 unfold r0
 rw [Ru.x,Ru.x,Ru.x,Ru.x]
 decide+kernel
theorem GS (ns:List Int) (_:ns.length<=63):f_0 [.fz (ns.map T.int)]= .ok (.bl true):=by
 obtain ⟨k,hk,h30,hs⟩:=Q4 ns 10 (by decide) 30 (by decide)
 obtain ⟨a',x',y',h⟩:=v6 ns hk (by omega) (List.range 4) .un .un .un
 have e0:zT 1 (zc 3 f_y (z9 (vE 0) (z9 (cE (.int 10)) (z9 (cE (.int 30)) zj)))) [.vl (scr ns), .un, .un, .un, .un]= .nx [.vl (scr ns), .vl k.t, .un, .un, .un]:=
  Z3 (by rw [Zz]; exact hs)
 have e1:jV (ZY (cE (.int 4))) (zG 2) YV [.vl (scr ns), .vl k.t, .un, .un, .un]= .nx [.vl (scr ns), .vl k.t,a',x',y']:=h
 have e2:jh eqC (zc 1 f_5 (z9 (Zy (z9 (cE (.str "all")) (z9 (Zy (z9 (cE (.str "no")) (z9 (Zy (z9 (cE (.str "rising")) zj)) zj))) (z9 (Zy (z9 (cE (.str "sum")) (z9 (uy (cE (.int 3))) (z9 (cE (.int 5)) zj)))) zj)))) zj)) (cE (.str "all(no(rising), sum -3 5)")) (frz [.vl (scr ns), .vl k.t,a',x',y'])= .ok (.bl true):=by
  have s0:Zy (z9 (cE (.str "all")) (z9 (Zy (z9 (cE (.str "no")) (z9 (Zy (z9 (cE (.str "rising")) zj)) zj))) (z9 (Zy (z9 (cE (.str "sum")) (z9 (uy (cE (.int 3))) (z9 (cE (.int 5)) zj)))) zj))) (frz [.vl (scr ns), .vl k.t,a',x',y'])= .ok r0.t:=by
   unfold r0
   rw [Ru.t,Ru.t,Ru.t,Ru.t]; rfl
  rw [jP,zL,s0,bOk,YU gE,bOk,Z7,bOk,r0_x]
  show (R.bind (eqC (.str "all(no(rising), sum -3 5)") (.str "all(no(rising), sum -3 5)")) fun b=>R.ok (T.bl b))=_
  rw [Q8 (t:= .str "all(no(rising), sum -3 5)") trivial]; rfl
 show zn (b_0 f_y (f_3 8) f_q (f_h 8) f_5 f_t [.vl (scr ns), .un, .un, .un, .un])=_
 unfold b_0
 unfold YV at e1
 rw [zg e0,zg e1,zr e2]; rfl
end G
namespace G
open PySem PySem.Spec PyProof.Rows L2 PV
def top (i:Nat):Stmt:=PySem.Challenge.pw_worthkinds_k73_whole_rule_texts.main.body.getD i (.Pass ⟨0,0,0,0⟩)
abbrev GT:Stmt:=top 57
abbrev N_1e:List Str:=["_law_script","_law_k"]
theorem gF:zm N_1e ["_law_script","_law_k"] (ze GT):=by refine ⟨rfl,rfl,rfl, ?_,rfl, ?_, ?_⟩ <;> decide+kernel
abbrev s_2:Stmt:=top 58
abbrev N_2:List Str:=["_law_script","_law_k","_law_many","_law_drawn"]
theorem GU:zm N_2 ["_law_script","_law_k","_law_many"] (ze s_2):=by refine ⟨rfl,rfl,rfl, ?_,rfl, ?_, ?_⟩ <;> decide+kernel
abbrev s_x:Stmt:=top 59
abbrev N_x:List Str:=["_law_script","_law_at","_law_letters"]
theorem GV:zm N_x ["_law_script","_law_at"] (ze s_x):=by refine ⟨rfl,rfl,rfl, ?_,rfl, ?_, ?_⟩ <;> decide+kernel
abbrev s_v:Stmt:=top 60
abbrev N_v:List Str:=["_law_script","_law_at","_law_low","_law_words","_law_k","_law_word"]
theorem xf:zm N_v ["_law_script","_law_at"] (ze s_v):=by refine ⟨rfl,rfl,rfl, ?_,rfl, ?_, ?_⟩ <;> decide+kernel
abbrev s_c:Stmt:=top 61
abbrev N_c:List Str:=["_law_script","_law_at","_law_deep","_law_way","_law_some","_law_low"]
theorem K4:zm N_c ["_law_script","_law_at","_law_deep"] (ze s_c):=by refine ⟨rfl,rfl,rfl, ?_,rfl, ?_, ?_⟩ <;> decide+kernel
abbrev s_b:Stmt:=top 65
abbrev N_b:List Str:=["_law_lists","_law_made","_law_some","_law_longer","_law_ahead"]
theorem xg:zm N_b ["_law_lists"] (ze s_b):=by refine ⟨rfl,rfl,rfl, ?_,rfl, ?_, ?_⟩ <;> decide+kernel
abbrev s_8:Stmt:=top 64
abbrev N_8:List Str:=["_law_kind_here","_law_made","_law_size_here"]
theorem gG:zm N_8 ["_law_kind_here"] (ze s_8):=by refine ⟨rfl,rfl,rfl, ?_,rfl, ?_, ?_⟩ <;> decide+kernel
abbrev s_9:Stmt:=top 62
abbrev N_9:List Str:=["_law_kind_here","_law_sizes","_law_made","_law_size_here","_law_inner"]
theorem Qf:zm N_9 ["_law_kind_here"] (ze s_9):=by refine ⟨rfl,rfl,rfl, ?_,rfl, ?_, ?_⟩ <;> decide+kernel
abbrev s_y:Stmt:=top 63
abbrev N_y:List Str:=["_law_script","_law_at","_law_most","_law_kind_here","_law_k"]
theorem K5:zm N_y ["_law_script","_law_at","_law_most"] (ze s_y):=by refine ⟨rfl,rfl,rfl, ?_,rfl, ?_, ?_⟩ <;> decide+kernel
abbrev s_3:Stmt:=top 66
abbrev N_3:List Str:=["_law_script","_law_at","_law_deep","_law_way","_law_one","_law_low"]
theorem K6:zm N_3 ["_law_script","_law_at","_law_deep"] (ze s_3):=by refine ⟨rfl,rfl,rfl, ?_,rfl, ?_, ?_⟩ <;> decide+kernel
abbrev s_h:Stmt:=top 68
abbrev N_h:List Str:=["_law_rule_here"]
theorem sc_h:zm N_h ["_law_rule_here"] (ze s_h):=by refine ⟨rfl,rfl,rfl, ?_,rfl, ?_, ?_⟩ <;> decide+kernel
abbrev s_d:Stmt:=top 10
abbrev N_d:List Str:=["thing"]
theorem sc_d:zm N_d ["thing"] (ze s_d):=by refine ⟨rfl,rfl,rfl, ?_,rfl, ?_, ?_⟩ <;> decide+kernel
abbrev GW:Stmt:=top 35
abbrev N_15:List Str:=["thing"]
theorem gH:zm N_15 ["thing"] (ze GW):=by refine ⟨rfl,rfl,rfl, ?_,rfl, ?_, ?_⟩ <;> decide+kernel
abbrev s_o:Stmt:=top 12
abbrev N_o:List Str:=["thing"]
theorem sc_o:zm N_o ["thing"] (ze s_o):=by refine ⟨rfl,rfl,rfl, ?_,rfl, ?_, ?_⟩ <;> decide+kernel
abbrev s_k:Stmt:=top 34
abbrev N_k:List Str:=["thing","levels"]
theorem sc_k:zm N_k ["thing","levels"] (ze s_k):=by refine ⟨rfl,rfl,rfl, ?_,rfl, ?_, ?_⟩ <;> decide+kernel
abbrev s_7:Stmt:=top 31
abbrev N_7:List Str:=["thing"]
theorem sc_7:zm N_7 ["thing"] (ze s_7):=by refine ⟨rfl,rfl,rfl, ?_,rfl, ?_, ?_⟩ <;> decide+kernel
abbrev s_s:Stmt:=top 33
abbrev N_s:List Str:=["rule"]
theorem sc_s:zm N_s ["rule"] (ze s_s):=by refine ⟨rfl,rfl,rfl, ?_,rfl, ?_, ?_⟩ <;> decide+kernel
abbrev s_m:Stmt:=top 52
abbrev N_m:List Str:=["word"]
theorem sc_m:zm N_m ["word"] (ze s_m):=by refine ⟨rfl,rfl,rfl, ?_,rfl, ?_, ?_⟩ <;> decide+kernel
abbrev s_i:Stmt:=top 51
abbrev N_i:List Str:=["rule"]
theorem sc_i:zm N_i ["rule"] (ze s_i):=by refine ⟨rfl,rfl,rfl, ?_,rfl, ?_, ?_⟩ <;> decide+kernel
abbrev s_5:Stmt:=top 49
abbrev N_5:List Str:=["rule"]
theorem sc_5:zm N_5 ["rule"] (ze s_5):=by refine ⟨rfl,rfl,rfl, ?_,rfl, ?_, ?_⟩ <;> decide+kernel
abbrev GX:Stmt:=top 44
abbrev N_1f:List Str:=["thing"]
theorem gI:zm N_1f ["thing"] (ze GX):=by refine ⟨rfl,rfl,rfl, ?_,rfl, ?_, ?_⟩ <;> decide+kernel
abbrev GY:Stmt:=top 53
abbrev N_10:List Str:=["text","number"]
theorem kq:zm N_10 ["text"] (ze GY):=by refine ⟨rfl,rfl,rfl, ?_,rfl, ?_, ?_⟩ <;> decide+kernel
abbrev s_u:Stmt:=top 55
abbrev N_u:List Str:=["pieces"]
theorem sc_u:zm N_u ["pieces"] (ze s_u):=by refine ⟨rfl,rfl,rfl, ?_,rfl, ?_, ?_⟩ <;> decide+kernel
abbrev s_r:Stmt:=top 46
abbrev N_r:List Str:=["text","mark","pieces","begin","depth","place","sign"]
theorem v7:zm N_r ["text","mark"] (ze s_r):=by refine ⟨rfl,rfl,rfl, ?_,rfl, ?_, ?_⟩ <;> decide+kernel
abbrev GZ:Stmt:=top 45
abbrev N_12:List Str:=["text","opening","closing"]
theorem gJ:zm N_12 ["text","opening","closing"] (ze GZ):=by refine ⟨rfl,rfl,rfl, ?_,rfl, ?_, ?_⟩ <;> decide+kernel
abbrev s_6:Stmt:=top 54
abbrev N_6:List Str:=["text","levels","halves","pieces"]
theorem gK:zm N_6 ["text","levels"] (ze s_6):=by refine ⟨rfl,rfl,rfl, ?_,rfl, ?_, ?_⟩ <;> decide+kernel
abbrev s_t:Stmt:=top 50
abbrev N_t:List Str:=["text","rule"]
theorem sc_t:zm N_t ["text"] (ze s_t):=by refine ⟨rfl,rfl,rfl, ?_,rfl, ?_, ?_⟩ <;> decide+kernel
abbrev s_1b:Stmt:=top 13
abbrev N_1b:List Str:=["low","high","least","most"]
theorem gL:zm N_1b ["low","high","least","most"] (ze s_1b):=by refine ⟨rfl,rfl,rfl, ?_,rfl, ?_, ?_⟩ <;> decide+kernel
abbrev s_j:Stmt:=top 11
abbrev N_j:List Str:=["thing","least","most"]
theorem sc_j:zm N_j ["thing","least","most"] (ze s_j):=by refine ⟨rfl,rfl,rfl, ?_,rfl, ?_, ?_⟩ <;> decide+kernel
abbrev s_14:Stmt:=top 16
abbrev N_14:List Str:=["thing"]
theorem gM:zm N_14 ["thing"] (ze s_14):=by refine ⟨rfl,rfl,rfl, ?_,rfl, ?_, ?_⟩ <;> decide+kernel
abbrev s_w:Stmt:=top 15
abbrev N_w:List Str:=["thing","words"]
theorem sc_w:zm N_w ["thing"] (ze s_w):=by refine ⟨rfl,rfl,rfl, ?_,rfl, ?_, ?_⟩ <;> decide+kernel
abbrev s_a:Stmt:=top 14
abbrev N_a:List Str:=["thing","levels"]
theorem sc_a:zm N_a ["thing","levels"] (ze s_a):=by refine ⟨rfl,rfl,rfl, ?_,rfl, ?_, ?_⟩ <;> decide+kernel
abbrev gN:Stmt:=top 17
abbrev N_1d:List Str:=["thing","levels"]
theorem gO:zm N_1d ["thing","levels"] (ze gN):=by refine ⟨rfl,rfl,rfl, ?_,rfl, ?_, ?_⟩ <;> decide+kernel
abbrev s_4:Stmt:=top 8
abbrev N_4:List Str:=["thing"]
theorem sc_4:zm N_4 ["thing"] (ze s_4):=by refine ⟨rfl,rfl,rfl, ?_,rfl, ?_, ?_⟩ <;> decide+kernel
abbrev s_18:Stmt:=top 9
abbrev N_18:List Str:=["kind"]
theorem gP:zm N_18 ["kind"] (ze s_18):=by refine ⟨rfl,rfl,rfl, ?_,rfl, ?_, ?_⟩ <;> decide+kernel
abbrev s_1:Stmt:=top 22
abbrev N_1:List Str:=["kind"]
theorem sc_1:zm N_1 ["kind"] (ze s_1):=by refine ⟨rfl,rfl,rfl, ?_,rfl, ?_, ?_⟩ <;> decide+kernel
abbrev s_p:Stmt:=top 23
abbrev N_p:List Str:=["kinds","count","kind"]
theorem K7:zm N_p ["kinds"] (ze s_p):=by refine ⟨rfl,rfl,rfl, ?_,rfl, ?_, ?_⟩ <;> decide+kernel
abbrev s_l:Stmt:=top 24
abbrev N_l:List Str:=["kind","length"]
theorem sc_l:zm N_l ["kind","length"] (ze s_l):=by refine ⟨rfl,rfl,rfl, ?_,rfl, ?_, ?_⟩ <;> decide+kernel
abbrev gQ:Stmt:=top 18
abbrev N_11:List Str:=["kind"]
theorem gR:zm N_11 ["kind"] (ze gQ):=by refine ⟨rfl,rfl,rfl, ?_,rfl, ?_, ?_⟩ <;> decide+kernel
abbrev s_e:Stmt:=top 25
abbrev N_e:List Str:=["kind","number"]
theorem sc_e:zm N_e ["kind","number"] (ze s_e):=by refine ⟨rfl,rfl,rfl, ?_,rfl, ?_, ?_⟩ <;> decide+kernel
abbrev s_1c:Stmt:=top 26
abbrev N_1c:List Str:=["kind","number","length"]
theorem VY:zm N_1c ["kind","number"] (ze s_1c):=by refine ⟨rfl,rfl,rfl, ?_,rfl, ?_, ?_⟩ <;> decide+kernel
abbrev s_n:Stmt:=top 27
abbrev N_n:List Str:=["kinds","number","parts","rest","kind","count"]
theorem xh:zm N_n ["kinds","number"] (ze s_n):=by refine ⟨rfl,rfl,rfl, ?_,rfl, ?_, ?_⟩ <;> decide+kernel
abbrev gS:Stmt:=top 21
abbrev N_13:List Str:=["kind","count"]
theorem kr:zm N_13 ["kind"] (ze gS):=by refine ⟨rfl,rfl,rfl, ?_,rfl, ?_, ?_⟩ <;> decide+kernel
abbrev gT:Stmt:=top 42
abbrev N_17:List Str:=["parts"]
theorem gU:zm N_17 ["parts"] (ze gT):=by refine ⟨rfl,rfl,rfl, ?_,rfl, ?_, ?_⟩ <;> decide+kernel
abbrev gW:Stmt:=top 41
abbrev N_16:List Str:=["numbers"]
theorem gX:zm N_16 ["numbers"] (ze gW):=by refine ⟨rfl,rfl,rfl, ?_,rfl, ?_, ?_⟩ <;> decide+kernel
abbrev s_1a:Stmt:=top 38
abbrev N_1a:List Str:=["worth"]
theorem gY:zm N_1a ["worth"] (ze s_1a):=by refine ⟨rfl,rfl,rfl, ?_,rfl, ?_, ?_⟩ <;> decide+kernel
abbrev s_g:Stmt:=top 39
abbrev N_g:List Str:=["worth","leaves","part"]
theorem gZ:zm N_g ["worth"] (ze s_g):=by refine ⟨rfl,rfl,rfl, ?_,rfl, ?_, ?_⟩ <;> decide+kernel
abbrev s_z:Stmt:=top 40
abbrev N_z:List Str:=["worth"]
theorem sc_z:zm N_z ["worth"] (ze s_z):=by refine ⟨rfl,rfl,rfl, ?_,rfl, ?_, ?_⟩ <;> decide+kernel
abbrev s_19:Stmt:=top 37
abbrev N_19:List Str:=["rule","worth"]
theorem G1:zm N_19 ["rule","worth"] (ze s_19):=by refine ⟨rfl,rfl,rfl, ?_,rfl, ?_, ?_⟩ <;> decide+kernel
abbrev s_f:Stmt:=top 36
abbrev N_f:List Str:=["rule","worth"]
theorem sc_f:zm N_f ["rule","worth"] (ze s_f):=by refine ⟨rfl,rfl,rfl, ?_,rfl, ?_, ?_⟩ <;> decide+kernel
abbrev s_q:Stmt:=top 32
abbrev N_q:List Str:=["kind","rule"]
theorem sc_q:zm N_q ["kind","rule"] (ze s_q):=by refine ⟨rfl,rfl,rfl, ?_,rfl, ?_, ?_⟩ <;> decide+kernel
abbrev s_0:Stmt:=top 69
abbrev N_0:List Str:=["_law_script","_law_kind_here","_law_k","_law_rule_here","_law_text"]
theorem kt:zm N_0 ["_law_script"] (ze s_0):=by refine ⟨rfl,rfl,rfl, ?_,rfl, ?_, ?_⟩ <;> decide+kernel
structure Fn (K:PySem.W.Frag) (mg:Str->Option Value) (x:Str) (st:Stmt) (ps:List Str) (f:Addr) (fd:FuncData):Prop where
 F:Fun K x x st f fd
 b:L2.Binds K fd ps []
 m:mg x=some (.ref f)
abbrev v8:List Value:=[.type "ValueError", .type "Exception", .type "BaseException", .type "object"]
set_option genInjectivity false in
set_option genSizeOf false in
structure Tx (K:PySem.W.Frag) (mg:Str->Option Value) where
 a_1e:Addr
 d_1e:FuncData
 C_1e:Fn K mg "_law_cell" GT ["_law_script","_law_k"] a_1e d_1e
 a_2:Addr
 d_2:FuncData
 C_2:Fn K mg "_law_pick" s_2 ["_law_script","_law_k","_law_many"] a_2 d_2
 a_x:Addr
 d_x:FuncData
 C_x:Fn K mg "_law_word_of" s_x ["_law_script","_law_at"] a_x d_x
 a_v:Addr
 d_v:FuncData
 C_v:Fn K mg "_law_leaf_kind" s_v ["_law_script","_law_at"] a_v d_v
 a_c:Addr
 d_c:FuncData
 C_c:Fn K mg "_law_kind" s_c ["_law_script","_law_at","_law_deep"] a_c d_c
 a_b:Addr
 d_b:FuncData
 C_b:Fn K mg "_law_rows_of" s_b ["_law_lists"] a_b d_b
 a_8:Addr
 d_8:FuncData
 C_8:Fn K mg "_law_all" s_8 ["_law_kind_here"] a_8 d_8
 a_9:Addr
 d_9:FuncData
 C_9:Fn K mg "_law_size" s_9 ["_law_kind_here"] a_9 d_9
 a_y:Addr
 d_y:FuncData
 C_y:Fn K mg "_law_small" s_y ["_law_script","_law_at","_law_most"] a_y d_y
 a_3:Addr
 d_3:FuncData
 C_3:Fn K mg "_law_rule" s_3 ["_law_script","_law_at","_law_deep"] a_3 d_3
 a_h:Addr
 d_h:FuncData
 C_h:Fn K mg "_law_rule_text" s_h ["_law_rule_here"] a_h d_h
 a_d:Addr
 d_d:FuncData
 C_d:Fn K mg "is_whole" s_d ["thing"] a_d d_d
 a_15:Addr
 d_15:FuncData
 C_15:Fn K mg "is_bound" GW ["thing"] a_15 d_15
 a_o:Addr
 d_o:FuncData
 C_o:Fn K mg "is_word" s_o ["thing"] a_o d_o
 a_k:Addr
 d_k:FuncData
 C_k:Fn K mg "is_rule_within" s_k ["thing","levels"] a_k d_k
 a_7:Addr
 d_7:FuncData
 C_7:Fn K mg "is_rule" s_7 ["thing"] a_7 d_7
 a_s:Addr
 d_s:FuncData
 C_s:Fn K mg "need_rule" s_s ["rule"] a_s d_s
 a_m:Addr
 d_m:FuncData
 C_m:Fn K mg "is_of_rules" s_m ["word"] a_m d_m
 a_i:Addr
 d_i:FuncData
 C_i:Fn K mg "rule_written" s_i ["rule"] a_i d_i
 a_5:Addr
 d_5:FuncData
 C_5:Fn K mg "rule_text" s_5 ["rule"] a_5 d_5
 a_1f:Addr
 d_1f:FuncData
 C_1f:Fn K mg "need_text" GX ["thing"] a_1f d_1f
 a_10:Addr
 d_10:FuncData
 C_10:Fn K mg "number_in" GY ["text"] a_10 d_10
 a_u:Addr
 d_u:FuncData
 C_u:Fn K mg "single_rule_in" s_u ["pieces"] a_u d_u
 a_r:Addr
 d_r:FuncData
 C_r:Fn K mg "pieces_between" s_r ["text","mark"] a_r d_r
 a_12:Addr
 d_12:FuncData
 C_12:Fn K mg "text_inside" GZ ["text","opening","closing"] a_12 d_12
 a_6:Addr
 d_6:FuncData
 C_6:Fn K mg "rule_in" s_6 ["text","levels"] a_6 d_6
 a_t:Addr
 d_t:FuncData
 C_t:Fn K mg "read_rule" s_t ["text"] a_t d_t
 a_1b:Addr
 d_1b:FuncData
 C_1b:Fn K mg "is_span" s_1b ["low","high","least","most"] a_1b d_1b
 a_j:Addr
 d_j:FuncData
 C_j:Fn K mg "is_tuple_of" s_j ["thing","least","most"] a_j d_j
 a_14:Addr
 d_14:FuncData
 C_14:Fn K mg "is_choice" s_14 ["thing"] a_14 d_14
 a_w:Addr
 d_w:FuncData
 C_w:Fn K mg "are_choices" s_w ["thing"] a_w d_w
 a_a:Addr
 d_a:FuncData
 C_a:Fn K mg "is_kind_within" s_a ["thing","levels"] a_a d_a
 a_1d:Addr
 d_1d:FuncData
 C_1d:Fn K mg "are_kinds_within" gN ["thing","levels"] a_1d d_1d
 a_4:Addr
 d_4:FuncData
 C_4:Fn K mg "is_kind" s_4 ["thing"] a_4 d_4
 a_18:Addr
 d_18:FuncData
 C_18:Fn K mg "need_kind" s_18 ["kind"] a_18 d_18
 a_1:Addr
 d_1:FuncData
 C_1:Fn K mg "count_of" s_1 ["kind"] a_1 d_1
 a_p:Addr
 d_p:FuncData
 C_p:Fn K mg "count_of_parts" s_p ["kinds"] a_p d_p
 a_l:Addr
 d_l:FuncData
 C_l:Fn K mg "count_shorter" s_l ["kind","length"] a_l d_l
 a_11:Addr
 d_11:FuncData
 C_11:Fn K mg "words_of_pick" gQ ["kind"] a_11 d_11
 a_e:Addr
 d_e:FuncData
 C_e:Fn K mg "worth_at" s_e ["kind","number"] a_e d_e
 a_1c:Addr
 d_1c:FuncData
 C_1c:Fn K mg "many_at" s_1c ["kind","number"] a_1c d_1c
 a_n:Addr
 d_n:FuncData
 C_n:Fn K mg "parts_at" s_n ["kinds","number"] a_n d_n
 a_13:Addr
 d_13:FuncData
 C_13:Fn K mg "all_worths" gS ["kind"] a_13 d_13
 a_17:Addr
 d_17:FuncData
 C_17:Fn K mg "are_unlike" gT ["parts"] a_17 d_17
 a_16:Addr
 d_16:FuncData
 C_16:Fn K mg "are_rising" gW ["numbers"] a_16 d_16
 a_1a:Addr
 d_1a:FuncData
 C_1a:Fn K mg "parts_of" s_1a ["worth"] a_1a d_1a
 a_g:Addr
 d_g:FuncData
 C_g:Fn K mg "leaves_of" s_g ["worth"] a_g d_g
 a_z:Addr
 d_z:FuncData
 C_z:Fn K mg "numbers_in" s_z ["worth"] a_z d_z
 a_19:Addr
 d_19:FuncData
 C_19:Fn K mg "is_single_kept" s_19 ["rule","worth"] a_19 d_19
 a_f:Addr
 d_f:FuncData
 C_f:Fn K mg "is_kept" s_f ["rule","worth"] a_f d_f
 a_q:Addr
 d_q:FuncData
 C_q:Fn K mg "keepers" s_q ["kind","rule"] a_q d_q
 a_0:Addr
 d_0:FuncData
 C_0:Fn K mg "law" s_0 ["_law_script"] a_0 d_0
 z_all:mg "all"=none
 z_any:mg "any"=none
 z_bool:mg "bool"=none
 z_enumerate:mg "enumerate"=none
 z_int:mg "int"=none
 z_isinstance:mg "isinstance"=none
 z_len:mg "len"=none
 z_list:mg "list"=none
 z_min:mg "min"=none
 z_range:mg "range"=none
 z_reversed:mg "reversed"=none
 z_set:mg "set"=none
 z_str:mg "str"=none
 z_sum:mg "sum"=none
 z_tuple:mg "tuple"=none
 z_zip:mg "zip"=none
 c_DEEPEST:∃ u,mg "DEEPEST"=some u/\∃ t,u=Value.int 3 t
 c_DEEPEST_RULE:∃ u,mg "DEEPEST_RULE"=some u/\∃ t,u=Value.int 3 t
 c_FARTHEST_BOUND:∃ u,mg "FARTHEST_BOUND"=some u/\∃ t,u=Value.int 50 t
 c_LONGEST_NUMBER:∃ u,mg "LONGEST_NUMBER"=some u/\∃ t,u=Value.int 3 t
 c_MOST_TOLD:∃ u,mg "MOST_TOLD"=some u/\∃ t,u=Value.int 500 t
set_option genInjectivity false in
set_option genSizeOf false in
structure Tq (K:PySem.W.Frag) (mg:Str->Option Value) (base:Heap) (cl:Nat->Value) where
 q_NoKind:Addr
 q_NoRule:Addr
 q_NoText:Addr
 q_TooMany:Addr
 l_NoKind:cl 0= .ref q_NoKind
 l_NoRule:cl 2= .ref q_NoRule
 l_NoText:cl 5= .ref q_NoText
 l_TooMany:cl 3= .ref q_TooMany
 o_NoKind:OwnCls "NoKind" q_NoKind v8 "ValueError.__new__" mg base
 o_NoRule:OwnCls "NoRule" q_NoRule v8 "ValueError.__new__" mg base
 o_NoText:OwnCls "NoText" q_NoText v8 "ValueError.__new__" mg base
 o_TooMany:OwnCls "TooMany" q_TooMany v8 "ValueError.__new__" mg base
section
variable (P:Program) (w:World) {K:PySem.W.Frag} {mg:Str->Option Value} (base:Heap) (cl:Nat->Value) (tx:Tx K mg) (k:Nat) (c:List T->R T)
abbrev G2:Prop:=Zf P w K mg base CX0 k tx.a_1e tx.d_1e ["_law_script","_law_k"] (spP cl 2 c)
abbrev Q_2:Prop:=Zf P w K mg base CX0 k tx.a_2 tx.d_2 ["_law_script","_law_k","_law_many"] (spP cl 3 c)
abbrev Q_x:Prop:=Zf P w K mg base CX0 k tx.a_x tx.d_x ["_law_script","_law_at"] (spP cl 2 c)
abbrev Q_v:Prop:=Zf P w K mg base CX0 k tx.a_v tx.d_v ["_law_script","_law_at"] (spP cl 2 c)
abbrev Q_c:Prop:=Zf P w K mg base CX0 k tx.a_c tx.d_c ["_law_script","_law_at","_law_deep"] (spP cl 3 c)
abbrev Q_b:Prop:=Zf P w K mg base CX0 k tx.a_b tx.d_b ["_law_lists"] (spP cl 1 c)
abbrev Q_8:Prop:=Zf P w K mg base CX0 k tx.a_8 tx.d_8 ["_law_kind_here"] (spP cl 1 c)
abbrev Q_9:Prop:=Zf P w K mg base CX0 k tx.a_9 tx.d_9 ["_law_kind_here"] (spP cl 1 c)
abbrev Q_y:Prop:=Zf P w K mg base CX0 k tx.a_y tx.d_y ["_law_script","_law_at","_law_most"] (spP cl 3 c)
abbrev Q_3:Prop:=Zf P w K mg base CX0 k tx.a_3 tx.d_3 ["_law_script","_law_at","_law_deep"] (spP cl 3 c)
abbrev Q_h:Prop:=Zf P w K mg base CX0 k tx.a_h tx.d_h ["_law_rule_here"] (spP cl 1 c)
abbrev Q_d:Prop:=Zf P w K mg base CX0 k tx.a_d tx.d_d ["thing"] (spP cl 1 c)
abbrev G4:Prop:=Zf P w K mg base CX0 k tx.a_15 tx.d_15 ["thing"] (spP cl 1 c)
abbrev Q_o:Prop:=Zf P w K mg base CX0 k tx.a_o tx.d_o ["thing"] (spP cl 1 c)
abbrev Q_k:Prop:=Zf P w K mg base CX0 k tx.a_k tx.d_k ["thing","levels"] (spP cl 2 c)
abbrev Q_7:Prop:=Zf P w K mg base CX0 k tx.a_7 tx.d_7 ["thing"] (spP cl 1 c)
abbrev Q_s:Prop:=Zf P w K mg base (CX1 P w) k tx.a_s tx.d_s ["rule"] (spP cl 1 c)
abbrev Q_m:Prop:=Zf P w K mg base CX0 k tx.a_m tx.d_m ["word"] (spP cl 1 c)
abbrev Q_i:Prop:=Zf P w K mg base CX0 k tx.a_i tx.d_i ["rule"] (spP cl 1 c)
abbrev Q_5:Prop:=Zf P w K mg base (CX1 P w) k tx.a_5 tx.d_5 ["rule"] (spP cl 1 c)
abbrev G5:Prop:=Zf P w K mg base (CX1 P w) k tx.a_1f tx.d_1f ["thing"] (spP cl 1 c)
abbrev G6:Prop:=Zf P w K mg base (CX1 P w) k tx.a_10 tx.d_10 ["text"] (spP cl 1 c)
abbrev Q_u:Prop:=Zf P w K mg base (CX1 P w) k tx.a_u tx.d_u ["pieces"] (spP cl 1 c)
abbrev Q_r:Prop:=Zf P w K mg base CX0 k tx.a_r tx.d_r ["text","mark"] (spP cl 2 c)
abbrev G7:Prop:=Zf P w K mg base (CX1 P w) k tx.a_12 tx.d_12 ["text","opening","closing"] (spP cl 3 c)
abbrev Q_6:Prop:=Zf P w K mg base (CX1 P w) k tx.a_6 tx.d_6 ["text","levels"] (spP cl 2 c)
abbrev Q_t:Prop:=Zf P w K mg base (CX1 P w) k tx.a_t tx.d_t ["text"] (spP cl 1 c)
abbrev G8:Prop:=Zf P w K mg base CX0 k tx.a_1b tx.d_1b ["low","high","least","most"] (spP cl 4 c)
abbrev Q_j:Prop:=Zf P w K mg base CX0 k tx.a_j tx.d_j ["thing","least","most"] (spP cl 3 c)
abbrev G9:Prop:=Zf P w K mg base CX0 k tx.a_14 tx.d_14 ["thing"] (spP cl 1 c)
abbrev Q_w:Prop:=Zf P w K mg base CX0 k tx.a_w tx.d_w ["thing"] (spP cl 1 c)
abbrev Q_a:Prop:=Zf P w K mg base CX0 k tx.a_a tx.d_a ["thing","levels"] (spP cl 2 c)
abbrev K8:Prop:=Zf P w K mg base CX0 k tx.a_1d tx.d_1d ["thing","levels"] (spP cl 2 c)
abbrev Q_4:Prop:=Zf P w K mg base CX0 k tx.a_4 tx.d_4 ["thing"] (spP cl 1 c)
abbrev Ga:Prop:=Zf P w K mg base (CX1 P w) k tx.a_18 tx.d_18 ["kind"] (spP cl 1 c)
abbrev Q_1:Prop:=Zf P w K mg base CX0 k tx.a_1 tx.d_1 ["kind"] (spP cl 1 c)
abbrev Q_p:Prop:=Zf P w K mg base CX0 k tx.a_p tx.d_p ["kinds"] (spP cl 1 c)
abbrev Q_l:Prop:=Zf P w K mg base CX0 k tx.a_l tx.d_l ["kind","length"] (spP cl 2 c)
abbrev Gb:Prop:=Zf P w K mg base CX0 k tx.a_11 tx.d_11 ["kind"] (spP cl 1 c)
abbrev Q_e:Prop:=Zf P w K mg base CX0 k tx.a_e tx.d_e ["kind","number"] (spP cl 2 c)
abbrev K9:Prop:=Zf P w K mg base CX0 k tx.a_1c tx.d_1c ["kind","number"] (spP cl 2 c)
abbrev Q_n:Prop:=Zf P w K mg base CX0 k tx.a_n tx.d_n ["kinds","number"] (spP cl 2 c)
abbrev Gc:Prop:=Zf P w K mg base (CX1 P w) k tx.a_13 tx.d_13 ["kind"] (spP cl 1 c)
abbrev Gd:Prop:=Zf P w K mg base CX0 k tx.a_17 tx.d_17 ["parts"] (spP cl 1 c)
abbrev Ge:Prop:=Zf P w K mg base CX0 k tx.a_16 tx.d_16 ["numbers"] (spP cl 1 c)
abbrev Gf:Prop:=Zf P w K mg base CX0 k tx.a_1a tx.d_1a ["worth"] (spP cl 1 c)
abbrev Q_g:Prop:=Zf P w K mg base CX0 k tx.a_g tx.d_g ["worth"] (spP cl 1 c)
abbrev Q_z:Prop:=Zf P w K mg base CX0 k tx.a_z tx.d_z ["worth"] (spP cl 1 c)
abbrev Gg:Prop:=Zf P w K mg base CX0 k tx.a_19 tx.d_19 ["rule","worth"] (spP cl 2 c)
abbrev Q_f:Prop:=Zf P w K mg base CX0 k tx.a_f tx.d_f ["rule","worth"] (spP cl 2 c)
abbrev Q_q:Prop:=Zf P w K mg base (CX1 P w) k tx.a_q tx.d_q ["kind","rule"] (spP cl 2 c)
abbrev Q_0:Prop:=Zf P w K mg base (CX1 P w) k tx.a_0 tx.d_0 ["_law_script"] (spP cl 1 c)
end
theorem cZ {X:Cx} {Y:Fx} {cl:Nat->Value} {k j n:Nat} {f:Addr} {fd:FuncData} {ps:List Str} {g:List T->R T} {x:Str} {st:Stmt} {a:Expr} {es:List Expr} {ga:En->R (List T)} {p pos:Pos} (hy:Y.cl=cl) (F:Zf X.prog X.w X.K X.mg X.base CX0 j f fd ps (spP cl n g)) (hr:Jl k X.A) (C:Fn X.K X.mg x st ps f fd) (ha:ux X Y (a :: es) ga) (hj:j<=k:=by omega) (gl:Gl X x:=by rfl) (hd:(x == ("__debug__":Str))=false:=by decide)
  (hs:starEach (a :: es) X.env=(false,eval a X.env) :: starEach es X.env:=by exact Zg rfl) (hz:((backTo pos (starEach es X.env)).any fun x=>x.fst)=false:=by exact j9 rfl):Snd X Y (.Call (.Name x p) (a :: es) [] pos) (zc n g ga):=V4 hy F hr hj gl C.m C.F.kp C.b ha hd hs hz
theorem cX {X:Cx} {Y:Fx} {cl:Nat->Value} {k j n:Nat} {f:Addr} {fd:FuncData} {ps:List Str} {g:List T->R T} {x:Str} {st:Stmt} {a:Expr} {es:List Expr} {ga:En->R (List T)} {p pos:Pos} (hy:Y.cl=cl) (hp:JB (CX1 X.prog X.w) X Y.E) (F:Zf X.prog X.w X.K X.mg X.base (CX1 X.prog X.w) j f fd ps (spP cl n g)) (hr:Jl k X.A) (C:Fn X.K X.mg x st ps f fd) (ha:ux X Y (a :: es) ga) (hj:j<=k:=by omega) (gl:Gl X x:=by rfl) (hd:(x == ("__debug__":Str))=false:=by decide)
  (hs:starEach (a :: es) X.env=(false,eval a X.env) :: starEach es X.env:=by exact Zg rfl) (hz:((backTo pos (starEach es X.env)).any fun x=>x.fst)=false:=by exact j9 rfl):Snd X Y (.Call (.Name x p) (a :: es) [] pos) (zc n g ga):=V6 hy hp F hr hj gl C.m C.F.kp C.b ha hd hs hz
section
variable {P:Program} {w:World} {K:PySem.W.Frag} {mg:Str->Option Value} {base:Heap} {cl:Nat->Value} {tx:Tx K mg}
theorem Gh:G2 P w base cl tx 1 (fun ts=>zn (GG  (en0 2 ts))):=by
 refine Z0 tx.C_1e.F gF rfl (fun cdv A outer s H E Y hy hr=> ?_) (fun ts h=>rfl)
 refine zh ?_ ?_
 refine zA ?_ ?_ ?_
 exact zy qr uA (zo 1 (pv 1)) (Snd.b (ZV (by rfl) tx.z_len (zo 0 (pv 0)))) (zl _)
 exact zk (zq (zN (zb 0 (pv 0)) (zb 1 (pv 1))))
 exact zz
 refine zh ?_ ?_
 refine zA ?_ ?_ ?_
 exact zy zF (zt hr.units) (zo 0 (pv 0)) (Snd.b (JE zi)) (zl _)
 exact zk (zq zd)
 exact zz
 refine zk ?_
 refine zq ?_
 refine zE ?_ ?_
 refine ZU ?_ ?_
 exact zN (zb 0 (pv 0)) (wE (zb 1 (pv 1)) (ZV (by rfl) tx.z_len (zo 0 (pv 0))))
 exact zd
 exact zb 1 (pv 1)
theorem ok_2 {c_1e:List T->R T} (O_1e:G2 P w base cl tx 1 c_1e):Q_2 P w base cl tx 2 (fun ts=>zn (b_2 c_1e (en0 4 ts))):=by
 refine Z0 tx.C_2.F GU rfl (fun cdv A outer s H E Y hy hr=> ?_) (fun ts h=>rfl)
 refine zh ?_ ?_
 refine zZ (i:=3) GU.nd (by rfl) (.inl (by rfl)) ?_
 refine wE ?_ ?_
 refine ZU ?_ ?_
 refine zE ?_ ?_
 exact cZ hy O_1e hr tx.C_1e (za (zb 0 (pv 0)) (za (zb 1 (pv 1)) zi))
 exact ZU zd (zE (zb 1 (pv 1)) zd)
 exact zd
 exact zd
 refine zk ?_
 refine zq ?_
 refine wE ?_ ?_
 refine wE ?_ ?_
 exact zE (ZU (zb 3 (pv 3)) (zb 3 (pv 3))) (Qm (zb 3 (pv 3)) zd)
 exact zd
 exact zb 2 (pv 2)
theorem ok_x {c_2:List T->R T} (O_2:Q_2 P w base cl tx 2 c_2):Q_x P w base cl tx 3 (fun ts=>zn (b_x c_2 (en0 3 ts))):=by
 refine Z0 tx.C_x.F GV rfl (fun cdv A outer s H E Y hy hr=> ?_) (fun ts h=>rfl)
 refine zh ?_ ?_
 exact zZ (i:=2) GV.nd (by rfl) (.inr (by rfl)) zu
 refine zh ?_ ?_
 refine zA ?_ ?_ ?_
 refine zy Up wk ?_ ?_ (zl _)
 refine Snd.b ?_
 refine cZ hy O_2 hr tx.C_2 ?_
 exact za (zb 0 (pv 0)) (za (zb 1 (pv 1)) (za zd zi))
 exact Snd.b zd
 refine zk ?_
 refine zq ?_
 refine zN ?_ ?_
 refine JE ?_
 refine za ?_ ?_
 exact zu
 exact za zu (za zu (za zu zi))
 refine cZ hy O_2 hr tx.C_2 ?_
 refine za ?_ ?_
 exact zb 0 (pv 0)
 exact za (zE (zb 1 (pv 1)) zd) (za zd zi)
 exact zz
 refine zk ?_
 refine zq ?_
 refine Wr ?_
 refine Snd.b ?_
 refine Zo (Zc ["_law_k","_law_script","_law_at","_law_letters"] N_x (ze s_x) (by rfl) (by rfl) (by decide+kernel) (by rfl) ?_ (fun _ _ _ _ _ _=>zC (show List.Nodup (["_law_k","_law_script","_law_at","_law_letters"]:List Str) by decide+kernel) (by rfl) (.inl (by rfl)) (.inr (by rfl))) (zO 0) (zP 0) (fun Y' hy' _ _ _ _ _ _=> ?_) (fun Y' hy' _ _ _ _ _ _=> ?_))
 refine wo (by rfl) tx.z_range ?_
 refine zE ?_ ?_
 exact zd
 refine cZ hy O_2 hr tx.C_2 ?_
 refine za ?_ ?_
 exact zb 0 (pv 0)
 exact za (zE (zb 1 (pv 1)) zd) (za zd zi)
 exact Zl
 refine zN ?_ ?_
 exact zb 3 (pv 3)
 refine cZ (hy'.trans hy) O_2 hr tx.C_2 ?_
 refine za ?_ ?_
 exact zb 1 (pv 1)
 refine za ?_ ?_
 exact zE (zE (zb 2 (pv 2)) zd) (zb 0 (pv 0))
 exact za zd zi
theorem ok_v {c_2 c_x:List T->R T} (O_2:Q_2 P w base cl tx 2 c_2) (O_x:Q_x P w base cl tx 3 c_x):Q_v P w base cl tx 4 (fun ts=>zn (b_v c_2 c_x (en0 6 ts))):=by
 refine Z0 tx.C_v.F xf rfl (fun cdv A outer s H E Y hy hr=> ?_) (fun ts h=>rfl)
 refine zh ?_ ?_
 refine zA ?_ ?_ ?_
 refine zy Up wk ?_ ?_ (zl _)
 refine Snd.b ?_
 refine cZ hy O_2 hr tx.C_2 ?_
 exact za (zb 0 (pv 0)) (za (zb 1 (pv 1)) (za zd zi))
 exact Snd.b zd
 refine zh ?_ ?_
 refine zZ (i:=2) xf.nd (by rfl) (.inl (by rfl)) ?_
 refine jl ?_ ?_
 refine cZ hy O_2 hr tx.C_2 ?_
 refine za ?_ ?_
 exact zb 0 (pv 0)
 exact za (zE (zb 1 (pv 1)) zd) (za zd zi)
 exact zd
 refine zh ?_ ?_
 refine zA ?_ ?_ ?_
 refine zy zF (zt hr.units) ?_ ?_ (zl _)
 refine Snd.b ?_
 refine cZ hy O_2 hr tx.C_2 ?_
 refine za ?_ ?_
 exact zb 0 (pv 0)
 exact za (zE (zb 1 (pv 1)) zd) (za zd zi)
 exact Snd.b zd
 refine zk ?_
 refine zZ (i:=2) xf.nd (by rfl) (.inl (by rfl)) ?_
 refine zN ?_ ?_
 refine JE ?_
 refine za ?_ ?_
 exact Uo zd
 exact za zd (za zd zi)
 refine cZ hy O_2 hr tx.C_2 ?_
 refine za ?_ ?_
 exact zb 0 (pv 0)
 exact za (zE (zb 1 (pv 1)) zd) (za zd zi)
 exact zz
 refine zk ?_
 refine zq ?_
 refine ZN ?_
 refine za ?_ ?_
 exact zu
 refine za ?_ ?_
 exact zb 2 (pv 2)
 refine za ?_ ?_
 refine Qp (by rfl) (by rfl) tx.z_min ?_ ?_
 exact zd
 refine zE ?_ ?_
 exact zb 2 (pv 2)
 refine cZ hy O_2 hr tx.C_2 ?_
 refine za ?_ ?_
 exact zb 0 (pv 0)
 exact za (zE (zb 1 (pv 1)) zd) (za zd zi)
 exact zi
 exact zz
 refine zh ?_ ?_
 exact wn (i:=3) xf.nd (by rfl) (.inl (by rfl)) zi
 refine zh ?_ ?_
 refine JJ PassesOwn.never (by rfl) ?_ ?_ ?_
 refine wo (by rfl) tx.z_range ?_
 refine zE ?_ ?_
 exact zd
 refine cZ hy O_2 hr tx.C_2 ?_
 refine za ?_ ?_
 exact zb 0 (pv 0)
 exact za (zE (zb 1 (pv 1)) zd) (za zd zi)
 exact jK (i:=4) xf.nd (by rfl) (.inl (by rfl))
 refine zh ?_ ?_
 refine zZ (i:=5) xf.nd (by rfl) (.inl (by rfl)) ?_
 refine cZ hy O_x hr tx.C_x ?_
 refine za ?_ ?_
 exact zb 0 (pv 0)
 refine za ?_ ?_
 exact zE (zE (zb 1 (pv 1)) zd) (ZU zd (zb 4 (pv 4)))
 exact zi
 refine zk ?_
 refine zA ?_ ?_ ?_
 exact zy xS (vM hr.units) (zo 5 (pv 5)) (zo 3 (pv 3)) (by rfl)
 exact zk (qA (i:=3) (pv 3) (zb 5 (pv 5)))
 exact zz
 refine zk ?_
 refine zq ?_
 refine ZN ?_
 refine za ?_ ?_
 exact zu
 refine za ?_ ?_
 refine JH (by rfl) tx.z_tuple ?_
 refine Zo (Zc ["_law_k","_law_word","_law_script","_law_at"] N_v (ze s_v) (by rfl) (by rfl) (by decide+kernel) (by rfl) ?_ (fun _ _ _ _ _ _=>Wa (by rfl) (ZA (zC (show List.Nodup (["_law_k","_law_word","_law_script","_law_at"]:List Str) by decide+kernel) (by rfl) (.inl (by rfl)) (.inr (by rfl))) (ZA (zC (show List.Nodup (["_law_k","_law_word","_law_script","_law_at"]:List Str) by decide+kernel) (by rfl) (.inl (by rfl)) (.inr (by rfl))) JA))) (Jq _ 0 1) (Jr 0 1) (fun Y' hy' _ _ _ _ _ _=> ?_) (fun Y' hy' _ _ _ _ _ _=> ?_))
 exact xY (by rfl) tx.z_enumerate (zb 3 (pv 3))
 exact Zl
 refine ZN ?_
 refine za ?_ ?_
 exact zb 1 (pv 1)
 refine za ?_ ?_
 refine zE ?_ ?_
 exact zd
 refine cZ (hy'.trans hy) O_2 hr tx.C_2 ?_
 refine za ?_ ?_
 exact zb 2 (pv 2)
 refine za ?_ ?_
 exact zE (zE (zb 3 (pv 3)) zd) (zb 0 (pv 0))
 exact za zd zi
 exact zi
 exact zi
theorem ok_c {j:Nat} (hj:4<=j) {c_2 c_v c_c:List T->R T} (O_2:Q_2 P w base cl tx 2 c_2) (O_v:Q_v P w base cl tx 4 c_v) (O_c:Q_c P w base cl tx j c_c):Q_c P w base cl tx (j+1) (fun ts=>zn (b_c c_2 c_v c_c (en0 6 ts))):=by
 refine Z0 tx.C_c.F K4 rfl (fun cdv A outer s H E Y hy hr=> ?_) (fun ts h=>rfl)
 refine zh ?_ ?_
 refine zZ (i:=3) K4.nd (by rfl) (.inl (by rfl)) ?_
 refine cZ hy O_2 hr tx.C_2 ?_
 exact za (zb 0 (pv 0)) (za (zb 1 (pv 1)) (za zd zi))
 refine zh ?_ ?_
 refine zA ?_ ?_ ?_
 refine Jp.t ?_
 refine Ur ?_ ?_
 exact zy zF (zt hr.units) (zo 2 (pv 2)) (Snd.b zd) (zl _)
 exact JG (zy qr uA (zo 3 (pv 3)) (Snd.b zd) (zl _))
 refine zk ?_
 refine zq ?_
 refine cZ hy O_v hr tx.C_v ?_
 exact za (zb 0 (pv 0)) (za (zE (zb 1 (pv 1)) zd) zi)
 exact zz
 refine zh ?_ ?_
 refine zA ?_ ?_ ?_
 exact zy qr uA (zo 3 (pv 3)) (Snd.b zd) (zl _)
 refine zh ?_ ?_
 refine Qy (i:=4) (Zc ["_law_k","_law_script","_law_at","_law_deep"] N_c (ze s_c) (by rfl) (by rfl) (by decide+kernel) (by rfl) ?_ (fun _ _ _ _ _ _=>zC (show List.Nodup (["_law_k","_law_script","_law_at","_law_deep"]:List Str) by decide+kernel) (by rfl) (.inl (by rfl)) (.inr (by rfl))) (zO 0) (zP 0) (fun Y' hy' _ _ _ _ _ _=> ?_) (fun Y' hy' _ _ _ _ _ _=> ?_)) K4.nd (by rfl) (.inl (by rfl)) (by rfl)
 refine wo (by rfl) tx.z_range ?_
 refine zE ?_ ?_
 exact zd
 refine cZ hy O_2 hr tx.C_2 ?_
 refine za ?_ ?_
 exact zb 0 (pv 0)
 exact za (zE (zb 1 (pv 1)) zd) (za zd zi)
 exact Zl
 refine cZ (hy'.trans hy) O_c hr tx.C_c ?_
 refine za ?_ ?_
 exact zb 1 (pv 1)
 refine za ?_ ?_
 refine zE ?_ ?_
 exact zE (ZU zd (zb 2 (pv 2))) zd
 exact ZU zd (zb 0 (pv 0))
 exact za (jl (zb 3 (pv 3)) zd) zi
 refine zk ?_
 refine zq ?_
 exact ZN (za zu (za (JH (by rfl) tx.z_tuple (zb 4 (pv 4))) zi))
 exact zz
 refine zh ?_ ?_
 refine zZ (i:=5) K4.nd (by rfl) (.inl (by rfl)) ?_
 refine cZ hy O_2 hr tx.C_2 ?_
 refine za ?_ ?_
 exact zb 0 (pv 0)
 exact za (zE (zb 1 (pv 1)) zd) (za zd zi)
 refine zk ?_
 refine zq ?_
 refine ZN ?_
 refine za ?_ ?_
 exact zu
 refine za ?_ ?_
 refine cZ hy O_c hr tx.C_c ?_
 refine za ?_ ?_
 exact zb 0 (pv 0)
 refine za ?_ ?_
 exact zE (ZU zd (zb 1 (pv 1))) zd
 exact za (jl (zb 2 (pv 2)) zd) zi
 refine za ?_ ?_
 exact zb 5 (pv 5)
 refine za ?_ ?_
 refine Qp (by rfl) (by rfl) tx.z_min ?_ ?_
 exact zd
 refine zE ?_ ?_
 exact zb 5 (pv 5)
 refine cZ hy O_2 hr tx.C_2 ?_
 refine za ?_ ?_
 exact zb 0 (pv 0)
 exact za (zE (zb 1 (pv 1)) zd) (za zd zi)
 exact zi
theorem ok_b:Q_b P w base cl tx 1 (fun ts=>zn (b_b  (en0 5 ts))):=by
 refine Z0 tx.C_b.F xg rfl (fun cdv A outer s H E Y hy hr=> ?_) (fun ts h=>rfl)
 refine zh ?_ ?_
 exact zZ (i:=1) xg.nd (by rfl) (.inl (by rfl)) (JE (za (ZN zi) zi))
 refine zh ?_ ?_
 refine JJ PassesOwn.never (by rfl) ?_ ?_ ?_
 exact ZZ (zb 0 (pv 0))
 exact jK (i:=2) xg.nd (by rfl) (.inl (by rfl))
 refine zh ?_ ?_
 exact wn (i:=3) xg.nd (by rfl) (.inl (by rfl)) zi
 refine zh ?_ ?_
 refine JJ PassesOwn.never (by rfl) ?_ ?_ ?_
 exact ZZ (zb 1 (pv 1))
 exact jK (i:=4) xg.nd (by rfl) (.inr (by rfl))
 refine zk ?_
 refine vT (i:=3) (pv 3) ?_
 refine Zo (Zc ["_law_one","_law_ahead"] N_b (ze s_b) (by rfl) (by rfl) (by decide+kernel) (by rfl) ?_ (fun _ _ _ _ _ _=>zC (show List.Nodup (["_law_one","_law_ahead"]:List Str) by decide+kernel) (by rfl) (.inl (by rfl)) (.inr (by rfl))) (zO 0) (zP 0) (fun Y' hy' _ _ _ _ _ _=> ?_) (fun Y' hy' _ _ _ _ _ _=> ?_))
 exact ZZ (zb 2 (pv 2))
 exact Zl
 exact zE (zb 1 (pv 1)) (ZN (za (zb 0 (pv 0)) zi))
 exact zk (s_mv (i:=1) (j:=3) (pv 3) xg.nd (by rfl) (.inl (by rfl)))
 exact zk (zq (zb 1 (pv 1)))
theorem ok_8 {j:Nat} (hj:1<=j) {c_8 c_b:List T->R T} (O_8:Q_8 P w base cl tx j c_8) (O_b:Q_b P w base cl tx 1 c_b):Q_8 P w base cl tx (j+1) (fun ts=>zn (b_8 c_8 c_b (en0 3 ts))):=by
 refine Z0 tx.C_8.F gG rfl (fun cdv A outer s H E Y hy hr=> ?_) (fun ts h=>rfl)
 refine zh ?_ ?_
 refine zA ?_ ?_ ?_
 exact zy zF (zt hr.units) (Snd.b (zN (zb 0 (pv 0)) zd)) (Snd.b zu) (zl _)
 refine zk ?_
 refine zq ?_
 refine Vf hr.hd (by rfl) tx.z_list (by rfl) tx.z_range ?_ ?_
 exact zN (zb 0 (pv 0)) zd
 exact zE (zN (zb 0 (pv 0)) zd) zd
 exact zz
 refine zh ?_ ?_
 refine zA ?_ ?_ ?_
 exact zy zF (zt hr.units) (Snd.b (zN (zb 0 (pv 0)) zd)) (Snd.b zu) (zl _)
 refine zk ?_
 refine zq ?_
 refine Zo (Zc ["_law_word","_law_heavy"] N_8 (ze s_8) (by rfl) (by rfl) (by decide+kernel) (by rfl) ?_ (fun _ _ _ _ _ _=>Wa (by rfl) (ZA (zC (show List.Nodup (["_law_word","_law_heavy"]:List Str) by decide+kernel) (by rfl) (.inl (by rfl)) (.inr (by rfl))) (ZA (zC (show List.Nodup (["_law_word","_law_heavy"]:List Str) by decide+kernel) (by rfl) (.inl (by rfl)) (.inr (by rfl))) JA))) (Jq _ 0 1) (Jr 0 1) (fun Y' hy' _ _ _ _ _ _=> ?_) (fun Y' hy' _ _ _ _ _ _=> ?_))
 exact ZZ (zN (zb 0 (pv 0)) zd)
 exact Zl
 exact zb 0 (pv 0)
 exact zz
 refine zh ?_ ?_
 refine zA ?_ ?_ ?_
 exact zy zF (zt hr.units) (Snd.b (zN (zb 0 (pv 0)) zd)) (Snd.b zu) (zl _)
 refine zk ?_
 refine zq ?_
 refine cZ hy O_b hr tx.C_b ?_
 refine za ?_ ?_
 refine Zo (Zc ["_law_one"] N_8 (ze s_8) (by rfl) (by rfl) (by decide+kernel) (by rfl) ?_ (fun _ _ _ _ _ _=>zC (show List.Nodup (["_law_one"]:List Str) by decide+kernel) (by rfl) (.inl (by rfl)) (.inr (by rfl))) (zO 0) (zP 0) (fun Y' hy' _ _ _ _ _ _=> ?_) (fun Y' hy' _ _ _ _ _ _=> ?_))
 exact ZZ (zN (zb 0 (pv 0)) zd)
 exact Zl
 exact cZ (hy'.trans hy) O_8 hr tx.C_8 (za (zb 0 (pv 0)) zi)
 exact zi
 exact zz
 refine zh ?_ ?_
 exact wn (i:=1) gG.nd (by rfl) (.inl (by rfl)) zi
 refine zh ?_ ?_
 refine JJ PassesOwn.never (by rfl) ?_ ?_ ?_
 refine Qv (by rfl) tx.z_range ?_ ?_
 exact zN (zb 0 (pv 0)) zd
 exact zE (zN (zb 0 (pv 0)) zd) zd
 exact jK (i:=2) gG.nd (by rfl) (.inl (by rfl))
 refine zk ?_
 refine vT (i:=1) (pv 1) ?_
 refine cZ hy O_b hr tx.C_b ?_
 refine za ?_ ?_
 refine ZU ?_ ?_
 refine JE ?_
 refine za ?_ ?_
 exact cZ hy O_8 hr tx.C_8 (za (zN (zb 0 (pv 0)) zd) zi)
 exact zi
 exact zb 2 (pv 2)
 exact zi
 exact zk (zq (zb 1 (pv 1)))
theorem ok_9 {j:Nat} (hj:9<=j) {c_8 c_9:List T->R T} (O_8:Q_8 P w base cl tx 9 c_8) (O_9:Q_9 P w base cl tx j c_9):Q_9 P w base cl tx (j+1) (fun ts=>zn (b_9 c_8 c_9 (en0 5 ts))):=by
 refine Z0 tx.C_9.F Qf rfl (fun cdv A outer s H E Y hy hr=> ?_) (fun ts h=>rfl)
 refine zh ?_ ?_
 refine zA ?_ ?_ ?_
 refine zy Uq (uB hr.units) ?_ ?_ (by rfl)
 exact Snd.b (zN (zb 0 (pv 0)) zd)
 exact Snd.b (ZN (za zu (za zu zi)))
 refine zk ?_
 exact zq (ZV (by rfl) tx.z_len (Snd.b (cZ hy O_8 hr tx.C_8 (za (zb 0 (pv 0)) zi))))
 exact zz
 refine zh ?_ ?_
 refine zZ (i:=1) Qf.nd (by rfl) (.inl (by rfl)) ?_
 refine kz ?_ ?_ ?_
 exact zy zF (zt hr.units) (Snd.b (zN (zb 0 (pv 0)) zd)) (Snd.b zu) (zl _)
 refine Zo (Zc ["_law_one"] N_9 (ze s_9) (by rfl) (by rfl) (by decide+kernel) (by rfl) ?_ (fun _ _ _ _ _ _=>zC (show List.Nodup (["_law_one"]:List Str) by decide+kernel) (by rfl) (.inl (by rfl)) (.inr (by rfl))) (zO 0) (zP 0) (fun Y' hy' _ _ _ _ _ _=> ?_) (fun Y' hy' _ _ _ _ _ _=> ?_))
 exact ZZ (zN (zb 0 (pv 0)) zd)
 exact Zl
 exact cZ (hy'.trans hy) O_9 hr tx.C_9 (za (zb 0 (pv 0)) zi)
 exact JE zi
 refine zh ?_ ?_
 exact zZ (i:=2) Qf.nd (by rfl) (.inl (by rfl)) zd
 refine zh ?_ ?_
 refine JJ PassesOwn.never (by rfl) ?_ ?_ ?_
 exact ZZ (zb 1 (pv 1))
 exact jK (i:=3) Qf.nd (by rfl) (.inl (by rfl))
 exact zk (zZ (i:=2) Qf.nd (by rfl) (.inl (by rfl)) (ZU (zb 2 (pv 2)) (zb 3 (pv 3))))
 refine zh ?_ ?_
 refine zA ?_ ?_ ?_
 exact zy zF (zt hr.units) (Snd.b (zN (zb 0 (pv 0)) zd)) (Snd.b zu) (zl _)
 refine zh ?_ ?_
 exact zZ (i:=4) Qf.nd (by rfl) (.inl (by rfl)) (cZ hy O_9 hr tx.C_9 (za (zN (zb 0 (pv 0)) zd) zi))
 refine zh ?_ ?_
 refine zZ (i:=2) Qf.nd (by rfl) (.inl (by rfl)) ?_
 refine zE ?_ ?_
 refine uL (by rfl) tx.z_int ?_
 exact ja zF (zt hr.units) (Snd.b (zN (zb 0 (pv 0)) zd)) (Snd.b zd) (zl _)
 refine ZU ?_ ?_
 exact zb 4 (pv 4)
 refine uL (by rfl) tx.z_int ?_
 refine jm ZI ZI Z9 Z9 ?_ ?_ ?_
 exact Snd.b (zN (zb 0 (pv 0)) zd)
 exact Snd.b zd
 exact Snd.b (zN (zb 0 (pv 0)) zd)
 refine zh ?_ ?_
 refine zZ (i:=2) Qf.nd (by rfl) (.inl (by rfl)) ?_
 refine zE ?_ ?_
 exact zb 2 (pv 2)
 refine ZU ?_ ?_
 exact ZU (zb 4 (pv 4)) (zb 4 (pv 4))
 refine uL (by rfl) tx.z_int ?_
 refine jm ZI ZI Z9 Z9 ?_ ?_ ?_
 exact Snd.b (zN (zb 0 (pv 0)) zd)
 exact Snd.b zd
 exact Snd.b (zN (zb 0 (pv 0)) zd)
 refine zk ?_
 refine zZ (i:=2) Qf.nd (by rfl) (.inl (by rfl)) ?_
 refine zE ?_ ?_
 exact zb 2 (pv 2)
 refine ZU ?_ ?_
 exact ZU (ZU (zb 4 (pv 4)) (zb 4 (pv 4))) (zb 4 (pv 4))
 refine uL (by rfl) tx.z_int ?_
 exact ja zF (zt hr.units) (Snd.b (zN (zb 0 (pv 0)) zd)) (Snd.b zd) (zl _)
 exact zz
 exact zk (zq (zb 2 (pv 2)))
theorem ok_y {c_c c_9:List T->R T} (O_c:Q_c P w base cl tx 12 c_c) (O_9:Q_9 P w base cl tx 17 c_9):Q_y P w base cl tx 18 (fun ts=>zn (b_y c_c c_9 (en0 5 ts))):=by
 refine Z0 tx.C_y.F K5 rfl (fun cdv A outer s H E Y hy hr=> ?_) (fun ts h=>rfl)
 refine zh ?_ ?_
 refine zZ (i:=3) K5.nd (by rfl) (.inl (by rfl)) ?_
 refine cZ hy O_c hr tx.C_c ?_
 exact za (zb 0 (pv 0)) (za (zb 1 (pv 1)) (za zd zi))
 refine zh ?_ ?_
 refine JJ PassesOwn.never (by rfl) ?_ ?_ ?_
 exact wo (by rfl) tx.z_range zd
 exact jK (i:=4) K5.nd (by rfl) (.inl (by rfl))
 refine zh ?_ ?_
 refine zA ?_ ?_ ?_
 exact zy ZI Z9 (Snd.b (cZ hy O_9 hr tx.C_9 (za (zb 3 (pv 3)) zi))) (zo 2 (pv 2)) (zl _)
 exact zk (zq (zb 3 (pv 3)))
 exact zz
 refine zk ?_
 refine zZ (i:=3) K5.nd (by rfl) (.inl (by rfl)) ?_
 refine cZ hy O_c hr tx.C_c ?_
 refine za ?_ ?_
 exact zb 0 (pv 0)
 refine za ?_ ?_
 exact zE (zE (zb 1 (pv 1)) zd) (ZU zd (zb 4 (pv 4)))
 exact za zd zi
 refine zk ?_
 refine zq ?_
 refine kz ?_ ?_ ?_
 exact zy ZI Z9 (Snd.b (cZ hy O_9 hr tx.C_9 (za (zb 3 (pv 3)) zi))) (zo 2 (pv 2)) (zl _)
 exact zb 3 (pv 3)
 refine ZN ?_
 refine za ?_ ?_
 exact zu
 exact za (Uo zd) (za zd zi)
theorem ok_3 {j:Nat} (hj:2<=j) {c_2 c_3:List T->R T} (O_2:Q_2 P w base cl tx 2 c_2) (O_3:Q_3 P w base cl tx j c_3):Q_3 P w base cl tx (j+1) (fun ts=>zn (b_3 c_2 c_3 (en0 6 ts))):=by
 refine Z0 tx.C_3.F K6 rfl (fun cdv A outer s H E Y hy hr=> ?_) (fun ts h=>rfl)
 refine zh ?_ ?_
 refine zZ (i:=3) K6.nd (by rfl) (.inl (by rfl)) ?_
 refine cZ hy O_2 hr tx.C_2 ?_
 exact za (zb 0 (pv 0)) (za (zb 1 (pv 1)) (za zd zi))
 refine zh ?_ ?_
 refine zA ?_ ?_ ?_
 refine Jp.t ?_
 refine vQ ?_ ?_
 exact zy Up wk (zo 2 (pv 2)) (Snd.b zd) (zl _)
 exact yq (zy Up wk (zo 3 (pv 3)) (Snd.b zd) (zl _))
 refine zh ?_ ?_
 refine zZ (i:=4) K6.nd (by rfl) (.inl (by rfl)) ?_
 refine cZ hy O_3 hr tx.C_3 ?_
 refine za ?_ ?_
 exact zb 0 (pv 0)
 refine za ?_ ?_
 exact zE (ZU zd (zb 1 (pv 1))) zd
 exact za (jl (zb 2 (pv 2)) zd) zi
 refine zh ?_ ?_
 refine zA ?_ ?_ ?_
 exact zy zF (zt hr.units) (zo 3 (pv 3)) (Snd.b zd) (zl _)
 refine zk ?_
 exact zq (ZN (za zu (za (zb 4 (pv 4)) zi)))
 exact zz
 refine zk ?_
 refine zq ?_
 refine ZN ?_
 refine za ?_ ?_
 refine zN ?_ ?_
 exact JE (za zu (za zu zi))
 exact jl (zb 3 (pv 3)) zd
 refine za ?_ ?_
 exact zb 4 (pv 4)
 refine za ?_ ?_
 refine cZ hy O_3 hr tx.C_3 ?_
 refine za ?_ ?_
 exact zb 0 (pv 0)
 refine za ?_ ?_
 exact zE (ZU zd (zb 1 (pv 1))) zd
 exact za (jl (zb 2 (pv 2)) zd) zi
 exact zi
 exact zz
 refine zh ?_ ?_
 refine zZ (i:=5) K6.nd (by rfl) (.inl (by rfl)) ?_
 refine jl ?_ ?_
 refine cZ hy O_2 hr tx.C_2 ?_
 refine za ?_ ?_
 exact zb 0 (pv 0)
 exact za (zE (zb 1 (pv 1)) zd) (za zd zi)
 exact zd
 refine zh ?_ ?_
 refine zA ?_ ?_ ?_
 exact zy qr uA (Snd.b (wE (zb 3 (pv 3)) zd)) (Snd.b zd) (zl _)
 refine zk ?_
 refine zq ?_
 refine ZN ?_
 refine za ?_ ?_
 exact zu
 refine za ?_ ?_
 exact zb 5 (pv 5)
 refine za ?_ ?_
 refine jl ?_ ?_
 refine zE ?_ ?_
 exact zb 5 (pv 5)
 refine cZ hy O_2 hr tx.C_2 ?_
 refine za ?_ ?_
 exact zb 0 (pv 0)
 exact za (zE (zb 1 (pv 1)) zd) (za zd zi)
 exact zd
 exact zi
 exact zz
 refine zh ?_ ?_
 refine zA ?_ ?_ ?_
 exact zy zF (zt hr.units) (Snd.b (wE (zb 3 (pv 3)) zd)) (Snd.b zd) (zl _)
 refine zk ?_
 refine zq ?_
 refine ZN ?_
 refine za ?_ ?_
 exact zu
 refine za ?_ ?_
 refine cZ hy O_2 hr tx.C_2 ?_
 refine za ?_ ?_
 exact zb 0 (pv 0)
 exact za (zE (zb 1 (pv 1)) zd) (za zd zi)
 refine za ?_ ?_
 refine cZ hy O_2 hr tx.C_2 ?_
 refine za ?_ ?_
 exact zb 0 (pv 0)
 exact za (zE (zb 1 (pv 1)) zd) (za zd zi)
 exact zi
 exact zz
 refine zh ?_ ?_
 refine zA ?_ ?_ ?_
 exact zy zF (zt hr.units) (Snd.b (wE (zb 3 (pv 3)) zd)) (Snd.b zd) (zl _)
 refine zk ?_
 refine zq ?_
 refine ZN ?_
 refine za ?_ ?_
 exact zu
 refine za ?_ ?_
 refine zN ?_ ?_
 refine JE ?_
 refine za ?_ ?_
 exact zu
 exact za zu (za zu (za zu zi))
 refine cZ hy O_2 hr tx.C_2 ?_
 refine za ?_ ?_
 exact zb 0 (pv 0)
 exact za (zE (zb 1 (pv 1)) zd) (za zd zi)
 exact zi
 exact zz
 refine zk ?_
 refine zq ?_
 refine kz ?_ ?_ ?_
 exact zy zF (zt hr.units) (Snd.b (wE (zb 3 (pv 3)) zd)) (Snd.b zd) (zl _)
 exact ZN (za zu zi)
 exact ZN (za zu zi)
theorem ok_h {j:Nat} (hj:0<=j) {c_h:List T->R T} (O_h:Q_h P w base cl tx j c_h):Q_h P w base cl tx (j+1) (fun ts=>zn (b_h c_h (en0 1 ts))):=by
 refine Z0 tx.C_h.F sc_h rfl (fun cdv A outer s H E Y hy hr=> ?_) (fun ts h=>rfl)
 refine zh ?_ ?_
 refine zA ?_ ?_ ?_
 refine zy Uq (uB hr.units) ?_ ?_ (by rfl)
 exact Snd.b (zN (zb 0 (pv 0)) zd)
 refine Snd.b ?_
 refine ZN ?_
 exact za zu (za zu (za zu zi))
 refine zk ?_
 refine zq ?_
 refine zE ?_ ?_
 refine zE ?_ ?_
 exact zE (zN (zb 0 (pv 0)) zd) zu
 refine Wr ?_
 refine Snd.b ?_
 refine Zo (Zc ["_law_one"] N_h (ze s_h) (by rfl) (by rfl) (by decide+kernel) (by rfl) ?_ (fun _ _ _ _ _ _=>zC (show List.Nodup (["_law_one"]:List Str) by decide+kernel) (by rfl) (.inl (by rfl)) (.inr (by rfl))) (zO 0) (zP 0) (fun Y' hy' _ _ _ _ _ _=> ?_) (fun Y' hy' _ _ _ _ _ _=> ?_))
 exact ZZ (JI (zb 0 (pv 0)) (jJ zd) wm)
 exact Zl
 exact cZ (hy'.trans hy) O_h hr tx.C_h (za (zb 0 (pv 0)) zi)
 exact zu
 exact zz
 refine zk ?_
 refine zq ?_
 refine Wr ?_
 refine Snd.b ?_
 refine Zo (Zc ["_law_one"] N_h (ze s_h) (by rfl) (by rfl) (by decide+kernel) (by rfl) ?_ (fun _ _ _ _ _ _=>zC (show List.Nodup (["_law_one"]:List Str) by decide+kernel) (by rfl) (.inl (by rfl)) (.inr (by rfl))) (zO 0) (zP 0) (fun Y' hy' _ _ _ _ _ _=> ?_) (fun Y' hy' _ _ _ _ _ _=> ?_))
 exact ZZ (zb 0 (pv 0))
 exact Zl
 exact yU (by rfl) tx.z_str (zb 0 (pv 0))
theorem ok_d:Q_d P w base cl tx 1 (fun ts=>zn (b_d  (en0 1 ts))):=by
 refine Z0 tx.C_d.F sc_d rfl (fun cdv A outer s H E Y hy hr=> ?_) (fun ts h=>rfl)
 refine zk ?_
 refine zq ?_
 exact j4 (wF (n:="int") (vR _) (by rfl) tx.z_isinstance (by rfl) tx.z_int PyProof.Rows.Boot.«int» (zo 0 (pv 0))) (jo (vP (wF (n:="bool") (qx _) (by rfl) tx.z_isinstance (by rfl) tx.z_bool PyProof.Rows.Boot.«bool» (zo 0 (pv 0)))))
theorem Gi {c_d:List T->R T} (O_d:Q_d P w base cl tx 1 c_d):G4 P w base cl tx 2 (fun ts=>zn (kI c_d (en0 1 ts))):=by
 obtain ⟨u_FARTHEST_BOUND,c_FARTHEST_BOUND⟩:=tx.c_FARTHEST_BOUND
 refine Z0 tx.C_15.F gH rfl (fun cdv A outer s H E Y hy hr=> ?_) (fun ts h=>rfl)
 refine zk ?_
 refine zq ?_
 refine j4 ?_ ?_
 exact cZ hy O_d hr tx.C_d (za (zb 0 (pv 0)) zi)
 refine jo ?_
 exact jm ZI ZI Z9 Z9 (Snd.b (Uo (jN (by rfl) c_FARTHEST_BOUND.1 c_FARTHEST_BOUND.2))) (zo 0 (pv 0)) (Snd.b (jN (by rfl) c_FARTHEST_BOUND.1 c_FARTHEST_BOUND.2))
theorem ok_o:Q_o P w base cl tx 1 (fun ts=>zn (b_o  (en0 1 ts))):=by
 refine Z0 tx.C_o.F sc_o rfl (fun cdv A outer s H E Y hy hr=> ?_) (fun ts h=>rfl)
 refine zh ?_ ?_
 refine zA ?_ ?_ ?_
 refine Jp.t ?_
 refine Ur ?_ ?_
 exact J8 (ji (Snd.b (wF (n:="str") (yr _) (by rfl) tx.z_isinstance (by rfl) tx.z_str PyProof.Rows.Boot.«str» (zo 0 (pv 0)))))
 refine JG ?_
 refine J8 ?_
 refine vN ZI ZI Z9 Z9 ?_ ?_ ?_
 exact Snd.b zd
 exact Snd.b (ZV (by rfl) tx.z_len (zo 0 (pv 0)))
 exact Snd.b zd
 exact zk (zq Ql)
 exact zz
 refine zk ?_
 refine zq ?_
 refine qz hr.hd (by rfl) tx.z_all ?_
 refine Snd.b ?_
 refine Zo (Zc ["sign"] N_o (ze s_o) (by rfl) (by rfl) (by decide+kernel) (by rfl) ?_ (fun _ _ _ _ _ _=>zC (show List.Nodup (["sign"]:List Str) by decide+kernel) (by rfl) (.inl (by rfl)) (.inr (by rfl))) (zO 0) (zP 0) (fun Y' hy' _ _ _ _ _ _=> ?_) (fun Y' hy' _ _ _ _ _ _=> ?_))
 exact ZZ (zb 0 (pv 0))
 exact Zl
 exact jm ZI ZI Z9 Z9 (Snd.b zu) (zo 0 (pv 0)) (Snd.b zu)
theorem ok_k {j:Nat} (hj:2<=j) {c_o c_k c_15:List T->R T} (O_o:Q_o P w base cl tx 1 c_o) (O_k:Q_k P w base cl tx j c_k) (O_15:G4 P w base cl tx 2 c_15):Q_k P w base cl tx (j+1) (fun ts=>zn (b_k c_o c_k c_15 (en0 2 ts))):=by
 refine Z0 tx.C_k.F sc_k rfl (fun cdv A outer s H E Y hy hr=> ?_) (fun ts h=>rfl)
 refine zh ?_ ?_
 refine zA ?_ ?_ ?_
 refine Jp.t ?_
 refine Ur ?_ ?_
 exact zy zF (zt hr.units) (zo 1 (pv 1)) (Snd.b zd) (zl _)
 refine Ur ?_ ?_
 exact J8 (ji (Snd.b (wF (n:="tuple") (jp _) (by rfl) tx.z_isinstance (by rfl) tx.z_tuple PyProof.Rows.Boot.«tuple» (zo 0 (pv 0)))))
 exact JG (zy zF (zt hr.units) (Snd.b (ZV (by rfl) tx.z_len (zo 0 (pv 0)))) (Snd.b zd) (zl _))
 exact zk (zq Ql)
 exact zz
 refine zh ?_ ?_
 refine zA ?_ ?_ ?_
 refine Jp.t ?_
 refine Ur ?_ ?_
 exact zy zF (zt hr.units) (Snd.b (zN (zb 0 (pv 0)) zd)) (Snd.b zu) (zl _)
 refine JG ?_
 exact zy zF (zt hr.units) (Snd.b (zN (zb 0 (pv 0)) zd)) (Snd.b zu) (zl _)
 refine zk ?_
 refine zq ?_
 refine j4 ?_ ?_
 exact ja zF (zt hr.units) (Snd.b (ZV (by rfl) tx.z_len (zo 0 (pv 0)))) (Snd.b zd) (zl _)
 refine j4 ?_ ?_
 exact cZ hy O_15 hr tx.C_15 (za (zN (zb 0 (pv 0)) zd) zi)
 exact jo (cZ hy O_15 hr tx.C_15 (za (zN (zb 0 (pv 0)) zd) zi))
 exact zz
 refine zh ?_ ?_
 refine zA ?_ ?_ ?_
 exact zy zF (zt hr.units) (Snd.b (zN (zb 0 (pv 0)) zd)) (Snd.b zu) (zl _)
 refine zk ?_
 refine zq ?_
 refine j4 ?_ ?_
 exact ja zF (zt hr.units) (Snd.b (ZV (by rfl) tx.z_len (zo 0 (pv 0)))) (Snd.b zd) (zl _)
 exact jo (cZ hy O_o hr tx.C_o (za (zN (zb 0 (pv 0)) zd) zi))
 exact zz
 refine zh ?_ ?_
 refine zA ?_ ?_ ?_
 refine Jp.t ?_
 refine Ur ?_ ?_
 exact zy zF (zt hr.units) (Snd.b (zN (zb 0 (pv 0)) zd)) (Snd.b zu) (zl _)
 refine JG ?_
 exact zy zF (zt hr.units) (Snd.b (zN (zb 0 (pv 0)) zd)) (Snd.b zu) (zl _)
 refine zk ?_
 exact zq (ja zF (zt hr.units) (Snd.b (ZV (by rfl) tx.z_len (zo 0 (pv 0)))) (Snd.b zd) (zl _))
 exact zz
 refine zh ?_ ?_
 refine zA ?_ ?_ ?_
 exact zy zF (zt hr.units) (Snd.b (zN (zb 0 (pv 0)) zd)) (Snd.b zu) (zl _)
 refine zk ?_
 refine zq ?_
 refine j4 ?_ ?_
 exact ja zF (zt hr.units) (Snd.b (ZV (by rfl) tx.z_len (zo 0 (pv 0)))) (Snd.b zd) (zl _)
 refine jo ?_
 refine cZ hy O_k hr tx.C_k ?_
 refine za ?_ ?_
 exact zN (zb 0 (pv 0)) zd
 exact za (jl (zb 1 (pv 1)) zd) zi
 exact zz
 refine zh ?_ ?_
 refine zA ?_ ?_ ?_
 refine Jp.t ?_
 refine Ur ?_ ?_
 exact zy zF (zt hr.units) (Snd.b (zN (zb 0 (pv 0)) zd)) (Snd.b zu) (zl _)
 refine JG ?_
 exact zy zF (zt hr.units) (Snd.b (zN (zb 0 (pv 0)) zd)) (Snd.b zu) (zl _)
 refine zk ?_
 refine zq ?_
 refine j4 ?_ ?_
 exact ja zF (zt hr.units) (Snd.b (ZV (by rfl) tx.z_len (zo 0 (pv 0)))) (Snd.b zd) (zl _)
 refine j4 ?_ ?_
 refine cZ hy O_k hr tx.C_k ?_
 refine za ?_ ?_
 exact zN (zb 0 (pv 0)) zd
 exact za (jl (zb 1 (pv 1)) zd) zi
 refine jo ?_
 refine cZ hy O_k hr tx.C_k ?_
 refine za ?_ ?_
 exact zN (zb 0 (pv 0)) zd
 exact za (jl (zb 1 (pv 1)) zd) zi
 exact zz
 exact zk (zq Ql)
theorem ok_7 {c_k:List T->R T} (O_k:Q_k P w base cl tx 10 c_k):Q_7 P w base cl tx 11 (fun ts=>zn (b_7 c_k (en0 1 ts))):=by
 obtain ⟨u_DEEPEST_RULE,c_DEEPEST_RULE⟩:=tx.c_DEEPEST_RULE
 refine Z0 tx.C_7.F sc_7 rfl (fun cdv A outer s H E Y hy hr=> ?_) (fun ts h=>rfl)
 refine zk ?_
 exact zq (cZ hy O_k hr tx.C_k (za (zb 0 (pv 0)) (za (jN (by rfl) c_DEEPEST_RULE.1 c_DEEPEST_RULE.2) zi)))
theorem ok_s {c_7:List T->R T} (xq:Tq K mg base cl) (O_7:Q_7 P w base cl tx 11 c_7):Q_s P w base cl tx 12 (fun ts=>zn (b_s c_7 (en0 1 ts))):=by
 refine je tx.C_s.F sc_s rfl (fun cdv A outer s H E Y hy hE hr=> ?_) (fun ts h=>rfl)
 refine zk ?_
 refine zA ?_ ?_ ?_
 exact J8 (ji (Snd.b (cZ hy O_7 hr tx.C_7 (za (zb 0 (pv 0)) zi))))
 exact zk (jb (c:=2) xq.o_NoRule PySem.F.excBase_ValueError (by decide) PySem.F.excBase_ValueError hE (by rw [hy]; exact xq.l_NoRule) (by rfl))
 exact zz
theorem ok_m:Q_m P w base cl tx 1 (fun ts=>zn (b_m  (en0 1 ts))):=by
 refine Z0 tx.C_m.F sc_m rfl (fun cdv A outer s H E Y hy hr=> ?_) (fun ts h=>rfl)
 refine zk ?_
 refine zq ?_
 refine KC ?_ ?_
 exact ja zF (zt hr.units) (zo 0 (pv 0)) (Snd.b zu) (zl _)
 refine KC ?_ ?_
 exact ja zF (zt hr.units) (zo 0 (pv 0)) (Snd.b zu) (zl _)
 exact jo (ja zF (zt hr.units) (zo 0 (pv 0)) (Snd.b zu) (zl _))
theorem ok_i {j:Nat} (hj:1<=j) {c_i c_m:List T->R T} (O_i:Q_i P w base cl tx j c_i) (O_m:Q_m P w base cl tx 1 c_m):Q_i P w base cl tx (j+1) (fun ts=>zn (b_i c_i c_m (en0 1 ts))):=by
 refine Z0 tx.C_i.F sc_i rfl (fun cdv A outer s H E Y hy hr=> ?_) (fun ts h=>rfl)
 refine zh ?_ ?_
 refine zA ?_ ?_ ?_
 refine ji ?_
 exact Snd.b (cZ hy O_m hr tx.C_m (za (zN (zb 0 (pv 0)) zd) zi))
 refine zk ?_
 refine zq ?_
 refine zE ?_ ?_
 refine zE ?_ ?_
 exact zE (zN (zb 0 (pv 0)) zd) zu
 refine Wr ?_
 refine Snd.b ?_
 refine Zo (Zc ["part"] N_i (ze s_i) (by rfl) (by rfl) (by decide+kernel) (by rfl) ?_ (fun _ _ _ _ _ _=>zC (show List.Nodup (["part"]:List Str) by decide+kernel) (by rfl) (.inl (by rfl)) (.inr (by rfl))) (zO 0) (zP 0) (fun Y' hy' _ _ _ _ _ _=> ?_) (fun Y' hy' _ _ _ _ _ _=> ?_))
 exact ZZ (JI (zb 0 (pv 0)) (jJ zd) wm)
 exact Zl
 exact cZ (hy'.trans hy) O_i hr tx.C_i (za (zb 0 (pv 0)) zi)
 exact zu
 exact zz
 refine zk ?_
 refine zq ?_
 refine Wr ?_
 refine Snd.b ?_
 refine Zo (Zc ["part"] N_i (ze s_i) (by rfl) (by rfl) (by decide+kernel) (by rfl) ?_ (fun _ _ _ _ _ _=>zC (show List.Nodup (["part"]:List Str) by decide+kernel) (by rfl) (.inl (by rfl)) (.inr (by rfl))) (zO 0) (zP 0) (fun Y' hy' _ _ _ _ _ _=> ?_) (fun Y' hy' _ _ _ _ _ _=> ?_))
 exact ZZ (zb 0 (pv 0))
 exact Zl
 exact yU (by rfl) tx.z_str (zb 0 (pv 0))
theorem ok_5 {c_s c_i:List T->R T} (O_s:Q_s P w base cl tx 12 c_s) (O_i:Q_i P w base cl tx 9 c_i):Q_5 P w base cl tx 13 (fun ts=>zn (b_5 c_s c_i (en0 1 ts))):=by
 refine je tx.C_5.F sc_5 rfl (fun cdv A outer s H E Y hy hE hr=> ?_) (fun ts h=>rfl)
 refine zh ?_ ?_
 exact uG (cX hy (hE ▸ jU) O_s hr tx.C_s (za (zb 0 (pv 0)) zi))
 exact zk (zq (cZ hy O_i hr tx.C_i (za (zb 0 (pv 0)) zi)))
theorem Gj (xq:Tq K mg base cl):G5 P w base cl tx 1 (fun ts=>zn (GH  (en0 1 ts))):=by
 refine je tx.C_1f.F gI rfl (fun cdv A outer s H E Y hy hE hr=> ?_) (fun ts h=>rfl)
 refine zk ?_
 refine zA ?_ ?_ ?_
 exact J8 (ji (Snd.b (wF (n:="str") (yr _) (by rfl) tx.z_isinstance (by rfl) tx.z_str PyProof.Rows.Boot.«str» (zo 0 (pv 0)))))
 exact zk (jb (c:=5) xq.o_NoText PySem.F.excBase_ValueError (by decide) PySem.F.excBase_ValueError hE (by rw [hy]; exact xq.l_NoText) (by rfl))
 exact zz
theorem Gk (xq:Tq K mg base cl):G6 P w base cl tx 1 (fun ts=>zn (kK  (en0 2 ts))):=by
 obtain ⟨u_LONGEST_NUMBER,c_LONGEST_NUMBER⟩:=tx.c_LONGEST_NUMBER
 refine je tx.C_10.F kq rfl (fun cdv A outer s H E Y hy hE hr=> ?_) (fun ts h=>rfl)
 refine zh ?_ ?_
 refine zA ?_ ?_ ?_
 exact zy Up wk (Snd.b (ZV (by rfl) tx.z_len (zo 0 (pv 0)))) (Snd.b (jN (by rfl) c_LONGEST_NUMBER.1 c_LONGEST_NUMBER.2)) (zl _)
 exact zk (jb (c:=5) xq.o_NoText PySem.F.excBase_ValueError (by decide) PySem.F.excBase_ValueError hE (by rw [hy]; exact xq.l_NoText) (by rfl))
 exact zz
 refine zh ?_ ?_
 refine Xr (fun pn xe=> ?_)
 exact zk (zZ (i:=1) kq.nd (by rfl) (.inl (by rfl)) (Xp (by rfl) tx.z_int (zb 0 (pv 0))))
 refine zh ?_ ?_
 refine zA ?_ ?_ ?_
 exact zy qq (uz hr.units) (Snd.b (yU (by rfl) tx.z_str (zb 1 (pv 1)))) (zo 0 (pv 0)) (zl _)
 exact zk (jb (c:=5) xq.o_NoText PySem.F.excBase_ValueError (by decide) PySem.F.excBase_ValueError hE (by rw [hy]; exact xq.l_NoText) (by rfl))
 exact zz
 exact zk (zq (zb 1 (pv 1)))
theorem ok_u {c_10:List T->R T} (O_10:G6 P w base cl tx 1 c_10):Q_u P w base cl tx 2 (fun ts=>zn (b_u c_10 (en0 1 ts))):=by
 refine je tx.C_u.F sc_u rfl (fun cdv A outer s H E Y hy hE hr=> ?_) (fun ts h=>rfl)
 refine zh ?_ ?_
 refine zA ?_ ?_ ?_
 refine Jp.t ?_
 refine Ur ?_ ?_
 exact zy zF (zt hr.units) (Snd.b (zN (zb 0 (pv 0)) zd)) (Snd.b zu) (zl _)
 refine JG ?_
 exact zy zF (zt hr.units) (Snd.b (zN (zb 0 (pv 0)) zd)) (Snd.b zu) (zl _)
 refine zk ?_
 refine zq ?_
 refine zE ?_ ?_
 exact ZN (za (zN (zb 0 (pv 0)) zd) zi)
 refine JH (by rfl) tx.z_tuple ?_
 refine Zo (Zc ["piece"] N_u (ze s_u) (by rfl) (by rfl) (by decide+kernel) (by rfl) ?_ (fun _ _ _ _ _ _=>zC (show List.Nodup (["piece"]:List Str) by decide+kernel) (by rfl) (.inl (by rfl)) (.inr (by rfl))) (zO 0) (zP 0) (fun Y' hy' _ _ _ _ _ _=> ?_) (fun Y' hy' _ _ _ _ _ _=> ?_))
 exact ZZ (JI (zb 0 (pv 0)) (jJ zd) wm)
 exact Zl
 exact cZ (hy'.trans hy) (noex O_10) hr tx.C_10 (za (zb 0 (pv 0)) zi)
 exact zz
 exact zk (zq (JH (by rfl) tx.z_tuple (zb 0 (pv 0))))
theorem ok_r:Q_r P w base cl tx 1 (fun ts=>zn (b_r  (en0 7 ts))):=by
 refine Z0 tx.C_r.F v7 rfl (fun cdv A outer s H E Y hy hr=> ?_) (fun ts h=>rfl)
 refine zh ?_ ?_
 exact wn (i:=2) v7.nd (by rfl) (.inl (by rfl)) zi
 refine zh ?_ ?_
 exact zZ (i:=3) v7.nd (by rfl) (.inl (by rfl)) zd
 refine zh ?_ ?_
 exact zZ (i:=4) v7.nd (by rfl) (.inl (by rfl)) zd
 refine zh ?_ ?_
 refine JJ PassesOwn.never (by rfl) ?_ ?_ ?_
 exact Vn (by rfl) tx.z_enumerate (zb 0 (pv 0))
 exact xW (i:=5) (j:=6) (by rfl) v7.nd (by rfl) (by rfl) (.inl (by rfl)) (.inl (by rfl))
 refine zh ?_ ?_
 refine zA ?_ ?_ ?_
 exact zy QB yQ (zo 6 (pv 6)) (Snd.b zu) (by rfl)
 exact zk (zZ (i:=4) v7.nd (by rfl) (.inl (by rfl)) (zE (zb 4 (pv 4)) zd))
 exact zz
 refine zh ?_ ?_
 refine zA ?_ ?_ ?_
 exact zy QB yQ (zo 6 (pv 6)) (Snd.b zu) (by rfl)
 exact zk (zZ (i:=4) v7.nd (by rfl) (.inl (by rfl)) (jl (zb 4 (pv 4)) zd))
 exact zz
 refine zk ?_
 refine zA ?_ ?_ ?_
 refine Jp.t ?_
 refine vQ ?_ ?_
 exact zy zF (zt hr.units) (zo 4 (pv 4)) (Snd.b zd) (zl _)
 exact yq (ji (Snd.b (Xk (zb 0 (pv 0)) (zb 1 (pv 1)) (zb 5 (pv 5)))))
 refine zh ?_ ?_
 exact qA (i:=2) (pv 2) (Vl (zb 0 (pv 0)) (jJ (zb 3 (pv 3))) (jJ (zb 5 (pv 5))))
 exact zk (zZ (i:=3) v7.nd (by rfl) (.inl (by rfl)) (zE (zb 5 (pv 5)) (ZV (by rfl) tx.z_len (zo 1 (pv 1)))))
 exact zz
 refine zh ?_ ?_
 exact qA (i:=2) (pv 2) (Vl (zb 0 (pv 0)) (jJ (zb 3 (pv 3))) wm)
 exact zk (zq (zb 2 (pv 2)))
theorem Gm (xq:Tq K mg base cl):G7 P w base cl tx 1 (fun ts=>zn (kL  (en0 3 ts))):=by
 refine je tx.C_12.F gJ rfl (fun cdv A outer s H E Y hy hE hr=> ?_) (fun ts h=>rfl)
 refine zh ?_ ?_
 refine zA ?_ ?_ ?_
 refine Jp.t ?_
 refine Ur ?_ ?_
 exact J8 (ji (Snd.b (KZ (zb 0 (pv 0)) (zb 1 (pv 1)))))
 exact JG (J8 (ji (Snd.b (g6 (zb 0 (pv 0)) (zb 2 (pv 2))))))
 exact zk (jb (c:=5) xq.o_NoText PySem.F.excBase_ValueError (by decide) PySem.F.excBase_ValueError hE (by rw [hy]; exact xq.l_NoText) (by rfl))
 exact zz
 refine zk ?_
 refine zq ?_
 refine Vl ?_ ?_ ?_
 exact zb 0 (pv 0)
 exact jJ (ZV (by rfl) tx.z_len (zo 1 (pv 1)))
 exact jJ (Uo (ZV (by rfl) tx.z_len (zo 2 (pv 2))))
theorem ok_6 {j:Nat} (hj:2<=j) {c_12 c_r c_m c_6 c_u:List T->R T} (xq:Tq K mg base cl) (O_12:G7 P w base cl tx 1 c_12) (O_r:Q_r P w base cl tx 1 c_r) (O_m:Q_m P w base cl tx 1 c_m) (O_6:Q_6 P w base cl tx j c_6) (O_u:Q_u P w base cl tx 2 c_u):Q_6 P w base cl tx (j+1) (fun ts=>zn (b_6 c_12 c_r c_m c_6 c_u (en0 4 ts))):=by
 refine je tx.C_6.F gK rfl (fun cdv A outer s H E Y hy hE hr=> ?_) (fun ts h=>rfl)
 refine zh ?_ ?_
 refine zA ?_ ?_ ?_
 exact zy zF (zt hr.units) (zo 1 (pv 1)) (Snd.b zd) (zl _)
 exact zk (jb (c:=5) xq.o_NoText PySem.F.excBase_ValueError (by decide) PySem.F.excBase_ValueError hE (by rw [hy]; exact xq.l_NoText) (by rfl))
 exact zz
 refine zh ?_ ?_
 exact zZ (i:=2) gK.nd (by rfl) (.inl (by rfl)) (gc (zb 0 (pv 0)) zu)
 refine zh ?_ ?_
 refine zA ?_ ?_ ?_
 refine ji ?_
 exact Snd.b (cZ hy O_m hr tx.C_m (za (zN (zb 2 (pv 2)) zd) zi))
 refine zh ?_ ?_
 refine zZ (i:=3) gK.nd (by rfl) (.inl (by rfl)) ?_
 refine cZ hy O_r hr tx.C_r ?_
 refine za ?_ ?_
 refine cX hy (hE ▸ jU) O_12 hr tx.C_12 ?_
 refine za ?_ ?_
 exact zb 0 (pv 0)
 refine za ?_ ?_
 exact zE (zN (zb 2 (pv 2)) zd) zu
 exact za zu zi
 exact za zu zi
 refine zk ?_
 refine zq ?_
 refine zE ?_ ?_
 exact ZN (za (zN (zb 2 (pv 2)) zd) zi)
 refine JH (by rfl) tx.z_tuple ?_
 refine Zo (Zc ["piece","levels"] N_6 (ze s_6) (by rfl) (by rfl) (by decide+kernel) (by rfl) ?_ (fun _ _ _ _ _ _=>zC (show List.Nodup (["piece","levels"]:List Str) by decide+kernel) (by rfl) (.inl (by rfl)) (.inr (by rfl))) (zO 0) (zP 0) (fun Y' hy' _ _ _ _ _ _=> ?_) (fun Y' hy' _ _ _ _ _ _=> ?_))
 exact ZZ (zb 3 (pv 3))
 exact Zl
 refine cZ (hy'.trans hy) (noex O_6) hr tx.C_6 ?_
 exact za (zb 0 (pv 0)) (za (jl (zb 1 (pv 1)) zd) zi)
 exact zz
 refine zk ?_
 exact zq (cX hy (hE ▸ jU) O_u hr tx.C_u (za (gd (zb 0 (pv 0)) zu) zi))
theorem ok_t {c_7 c_1f c_6:List T->R T} (xq:Tq K mg base cl) (O_7:Q_7 P w base cl tx 11 c_7) (O_1f:G5 P w base cl tx 1 c_1f) (O_6:Q_6 P w base cl tx 10 c_6):Q_t P w base cl tx 12 (fun ts=>zn (b_t c_7 c_1f c_6 (en0 2 ts))):=by
 obtain ⟨u_DEEPEST_RULE,c_DEEPEST_RULE⟩:=tx.c_DEEPEST_RULE
 refine je tx.C_t.F sc_t rfl (fun cdv A outer s H E Y hy hE hr=> ?_) (fun ts h=>rfl)
 refine zh ?_ ?_
 exact uG (cX hy (hE ▸ jU) O_1f hr tx.C_1f (za (zb 0 (pv 0)) zi))
 refine zh ?_ ?_
 exact zZ (i:=1) sc_t.nd (by rfl) (.inl (by rfl)) (cX hy (hE ▸ jU) O_6 hr tx.C_6 (za (zb 0 (pv 0)) (za (jN (by rfl) c_DEEPEST_RULE.1 c_DEEPEST_RULE.2) zi)))
 refine zh ?_ ?_
 refine zA ?_ ?_ ?_
 exact J8 (ji (Snd.b (cZ hy O_7 hr tx.C_7 (za (zb 1 (pv 1)) zi))))
 exact zk (jb (c:=5) xq.o_NoText PySem.F.excBase_ValueError (by decide) PySem.F.excBase_ValueError hE (by rw [hy]; exact xq.l_NoText) (by rfl))
 exact zz
 exact zk (zq (zb 1 (pv 1)))
theorem Gn {c_d:List T->R T} (O_d:Q_d P w base cl tx 1 c_d):G8 P w base cl tx 2 (fun ts=>zn (GI c_d (en0 4 ts))):=by
 refine Z0 tx.C_1b.F gL rfl (fun cdv A outer s H E Y hy hr=> ?_) (fun ts h=>rfl)
 refine zk ?_
 refine zq ?_
 refine j4 ?_ ?_
 exact cZ hy O_d hr tx.C_d (za (zb 0 (pv 0)) zi)
 refine j4 ?_ ?_
 exact cZ hy O_d hr tx.C_d (za (zb 1 (pv 1)) zi)
 exact jo (qu ZI ZI ZI Z9 Z9 Z9 (zo 2 (pv 2)) (zo 0 (pv 0)) (zo 1 (pv 1)) (zo 3 (pv 3)))
theorem ok_j:Q_j P w base cl tx 1 (fun ts=>zn (b_j  (en0 3 ts))):=by
 refine Z0 tx.C_j.F sc_j rfl (fun cdv A outer s H E Y hy hr=> ?_) (fun ts h=>rfl)
 refine zk ?_
 refine zq ?_
 refine j4 ?_ ?_
 exact wF (n:="tuple") (jp _) (by rfl) tx.z_isinstance (by rfl) tx.z_tuple PyProof.Rows.Boot.«tuple» (zo 0 (pv 0))
 exact jo (jm ZI ZI Z9 Z9 (zo 1 (pv 1)) (Snd.b (ZV (by rfl) tx.z_len (zo 0 (pv 0)))) (zo 2 (pv 2)))
theorem Go {c_d c_j c_o:List T->R T} (O_d:Q_d P w base cl tx 1 c_d) (O_j:Q_j P w base cl tx 1 c_j) (O_o:Q_o P w base cl tx 1 c_o):G9 P w base cl tx 2 (fun ts=>zn (kN c_d c_j c_o (en0 1 ts))):=by
 refine Z0 tx.C_14.F gM rfl (fun cdv A outer s H E Y hy hr=> ?_) (fun ts h=>rfl)
 refine zk ?_
 refine zq ?_
 refine j4 ?_ ?_
 refine cZ hy O_j hr tx.C_j ?_
 exact za (zb 0 (pv 0)) (za zd (za zd zi))
 refine j4 ?_ ?_
 exact cZ hy O_o hr tx.C_o (za (zN (zb 0 (pv 0)) zd) zi)
 refine j4 ?_ ?_
 exact cZ hy O_d hr tx.C_d (za (zN (zb 0 (pv 0)) zd) zi)
 refine jo ?_
 refine jm ZI ZI Z9 Z9 ?_ ?_ ?_
 exact Snd.b zd
 exact Snd.b (zN (zb 0 (pv 0)) zd)
 exact Snd.b zd
theorem ok_w {c_j c_14:List T->R T} (O_j:Q_j P w base cl tx 1 c_j) (O_14:G9 P w base cl tx 2 c_14):Q_w P w base cl tx 3 (fun ts=>zn (b_w c_j c_14 (en0 2 ts))):=by
 refine Z0 tx.C_w.F sc_w rfl (fun cdv A outer s H E Y hy hr=> ?_) (fun ts h=>rfl)
 refine zh ?_ ?_
 refine zA ?_ ?_ ?_
 refine Jp.t ?_
 refine Ur ?_ ?_
 refine J8 ?_
 refine ji ?_
 refine Snd.b ?_
 refine cZ hy O_j hr tx.C_j ?_
 exact za (zb 0 (pv 0)) (za zd (za zd zi))
 refine JG ?_
 refine J8 ?_
 refine ji ?_
 refine Snd.b ?_
 refine qz hr.hd (by rfl) tx.z_all ?_
 refine Snd.b ?_
 refine Zo (Zc ["part"] N_w (ze s_w) (by rfl) (by rfl) (by decide+kernel) (by rfl) ?_ (fun _ _ _ _ _ _=>zC (show List.Nodup (["part"]:List Str) by decide+kernel) (by rfl) (.inl (by rfl)) (.inr (by rfl))) (zO 0) (zP 0) (fun Y' hy' _ _ _ _ _ _=> ?_) (fun Y' hy' _ _ _ _ _ _=> ?_))
 exact ZZ (zb 0 (pv 0))
 exact Zl
 exact cZ (hy'.trans hy) O_14 hr tx.C_14 (za (zb 0 (pv 0)) zi)
 exact zk (zq Ql)
 exact zz
 refine zh ?_ ?_
 refine Qy (i:=1) (Zc ["choice"] N_w (ze s_w) (by rfl) (by rfl) (by decide+kernel) (by rfl) ?_ (fun _ _ _ _ _ _=>zC (show List.Nodup (["choice"]:List Str) by decide+kernel) (by rfl) (.inl (by rfl)) (.inr (by rfl))) (zO 0) (zP 0) (fun Y' hy' _ _ _ _ _ _=> ?_) (fun Y' hy' _ _ _ _ _ _=> ?_)) sc_w.nd (by rfl) (.inl (by rfl)) (by rfl)
 exact ZZ (zb 0 (pv 0))
 exact Zl
 exact zN (zb 0 (pv 0)) zd
 refine zk ?_
 refine zq ?_
 exact ja zF (zt hr.units) (Snd.b (xZ hr.hd (by rfl) tx.z_len (by rfl) tx.z_set (zo 1 (pv 1)))) (Snd.b (ZV (by rfl) tx.z_len (zo 1 (pv 1)))) (zl _)
theorem ok_a {j:Nat} (hj:3<=j) {c_1b c_a c_w c_1d:List T->R T} (O_1b:G8 P w base cl tx 2 c_1b) (O_a:Q_a P w base cl tx j c_a) (O_w:Q_w P w base cl tx 3 c_w) (O_1d:K8 P w base cl tx j c_1d):Q_a P w base cl tx (j+1) (fun ts=>zn (b_a c_1b c_a c_w c_1d (en0 2 ts))):=by
 refine Z0 tx.C_a.F sc_a rfl (fun cdv A outer s H E Y hy hr=> ?_) (fun ts h=>rfl)
 refine zh ?_ ?_
 refine zA ?_ ?_ ?_
 refine Jp.t ?_
 refine Ur ?_ ?_
 exact zy zF (zt hr.units) (zo 1 (pv 1)) (Snd.b zd) (zl _)
 refine Ur ?_ ?_
 exact J8 (ji (Snd.b (wF (n:="tuple") (jp _) (by rfl) tx.z_isinstance (by rfl) tx.z_tuple PyProof.Rows.Boot.«tuple» (zo 0 (pv 0)))))
 exact JG (zy zF (zt hr.units) (Snd.b (ZV (by rfl) tx.z_len (zo 0 (pv 0)))) (Snd.b zd) (zl _))
 exact zk (zq Ql)
 exact zz
 refine zh ?_ ?_
 refine zA ?_ ?_ ?_
 exact zy zF (zt hr.units) (Snd.b (zN (zb 0 (pv 0)) zd)) (Snd.b zu) (zl _)
 refine zk ?_
 refine zq ?_
 refine j4 ?_ ?_
 exact ja zF (zt hr.units) (Snd.b (ZV (by rfl) tx.z_len (zo 0 (pv 0)))) (Snd.b zd) (zl _)
 refine jo ?_
 refine cZ hy O_1b hr tx.C_1b ?_
 refine za ?_ ?_
 exact zN (zb 0 (pv 0)) zd
 refine za ?_ ?_
 exact zN (zb 0 (pv 0)) zd
 exact za (Uo zd) (za zd zi)
 exact zz
 refine zh ?_ ?_
 refine zA ?_ ?_ ?_
 exact zy zF (zt hr.units) (Snd.b (zN (zb 0 (pv 0)) zd)) (Snd.b zu) (zl _)
 refine zk ?_
 refine zq ?_
 refine j4 ?_ ?_
 exact ja zF (zt hr.units) (Snd.b (ZV (by rfl) tx.z_len (zo 0 (pv 0)))) (Snd.b zd) (zl _)
 exact jo (cZ hy O_w hr tx.C_w (za (zN (zb 0 (pv 0)) zd) zi))
 exact zz
 refine zh ?_ ?_
 refine zA ?_ ?_ ?_
 exact zy zF (zt hr.units) (Snd.b (zN (zb 0 (pv 0)) zd)) (Snd.b zu) (zl _)
 refine zk ?_
 refine zq ?_
 refine j4 ?_ ?_
 exact ja zF (zt hr.units) (Snd.b (ZV (by rfl) tx.z_len (zo 0 (pv 0)))) (Snd.b zd) (zl _)
 refine jo ?_
 refine cZ hy O_1d hr tx.C_1d ?_
 refine za ?_ ?_
 exact zN (zb 0 (pv 0)) zd
 exact za (jl (zb 1 (pv 1)) zd) zi
 exact zz
 refine zh ?_ ?_
 refine zA ?_ ?_ ?_
 exact zy zF (zt hr.units) (Snd.b (zN (zb 0 (pv 0)) zd)) (Snd.b zu) (zl _)
 refine zk ?_
 refine zq ?_
 refine j4 ?_ ?_
 exact ja zF (zt hr.units) (Snd.b (ZV (by rfl) tx.z_len (zo 0 (pv 0)))) (Snd.b zd) (zl _)
 refine j4 ?_ ?_
 refine cZ hy O_1b hr tx.C_1b ?_
 refine za ?_ ?_
 exact zN (zb 0 (pv 0)) zd
 refine za ?_ ?_
 exact zN (zb 0 (pv 0)) zd
 exact za zd (za zd zi)
 refine jo ?_
 refine cZ hy O_a hr tx.C_a ?_
 refine za ?_ ?_
 exact zN (zb 0 (pv 0)) zd
 exact za (jl (zb 1 (pv 1)) zd) zi
 exact zz
 exact zk (zq Ql)
theorem Gp {j:Nat} (hj:3<=j) {c_j c_a:List T->R T} (O_j:Q_j P w base cl tx 1 c_j) (O_a:Q_a P w base cl tx j c_a):K8 P w base cl tx (j+1) (fun ts=>zn (kO c_j c_a (en0 2 ts))):=by
 refine Z0 tx.C_1d.F gO rfl (fun cdv A outer s H E Y hy hr=> ?_) (fun ts h=>rfl)
 refine zk ?_
 refine zq ?_
 refine j4 ?_ ?_
 refine cZ hy O_j hr tx.C_j ?_
 exact za (zb 0 (pv 0)) (za zd (za zd zi))
 refine jo ?_
 refine qz hr.hd (by rfl) tx.z_all ?_
 refine Snd.b ?_
 refine Zo (Zc ["part","levels"] N_1d (ze gN) (by rfl) (by rfl) (by decide+kernel) (by rfl) ?_ (fun _ _ _ _ _ _=>zC (show List.Nodup (["part","levels"]:List Str) by decide+kernel) (by rfl) (.inl (by rfl)) (.inr (by rfl))) (zO 0) (zP 0) (fun Y' hy' _ _ _ _ _ _=> ?_) (fun Y' hy' _ _ _ _ _ _=> ?_))
 exact ZZ (zb 0 (pv 0))
 exact Zl
 exact cZ (hy'.trans hy) O_a hr tx.C_a (za (zb 0 (pv 0)) (za (zb 1 (pv 1)) zi))
theorem ok_4 {c_a:List T->R T} (O_a:Q_a P w base cl tx 23 c_a):Q_4 P w base cl tx 24 (fun ts=>zn (b_4 c_a (en0 1 ts))):=by
 obtain ⟨u_DEEPEST,c_DEEPEST⟩:=tx.c_DEEPEST
 refine Z0 tx.C_4.F sc_4 rfl (fun cdv A outer s H E Y hy hr=> ?_) (fun ts h=>rfl)
 refine zk ?_
 exact zq (cZ hy O_a hr tx.C_a (za (zb 0 (pv 0)) (za (jN (by rfl) c_DEEPEST.1 c_DEEPEST.2) zi)))
theorem Gq {c_4:List T->R T} (xq:Tq K mg base cl) (O_4:Q_4 P w base cl tx 24 c_4):Ga P w base cl tx 25 (fun ts=>zn (kP c_4 (en0 1 ts))):=by
 refine je tx.C_18.F gP rfl (fun cdv A outer s H E Y hy hE hr=> ?_) (fun ts h=>rfl)
 refine zk ?_
 refine zA ?_ ?_ ?_
 exact J8 (ji (Snd.b (cZ hy O_4 hr tx.C_4 (za (zb 0 (pv 0)) zi))))
 exact zk (jb (c:=0) xq.o_NoKind PySem.F.excBase_ValueError (by decide) PySem.F.excBase_ValueError hE (by rw [hy]; exact xq.l_NoKind) (by rfl))
 exact zz
theorem ok_1 {j:Nat} (hj:0<=j) {c_p c_l:List T->R T} (O_p:Q_p P w base cl tx j c_p) (O_l:Q_l P w base cl tx j c_l):Q_1 P w base cl tx (j+1) (fun ts=>zn (b_1 c_p c_l (en0 1 ts))):=by
 refine Z0 tx.C_1.F sc_1 rfl (fun cdv A outer s H E Y hy hr=> ?_) (fun ts h=>rfl)
 refine zh ?_ ?_
 refine zA ?_ ?_ ?_
 exact zy zF (zt hr.units) (Snd.b (zN (zb 0 (pv 0)) zd)) (Snd.b zu) (zl _)
 refine zk ?_
 refine zq ?_
 refine zE ?_ ?_
 exact jl (zN (zb 0 (pv 0)) zd) (zN (zb 0 (pv 0)) zd)
 exact zd
 exact zz
 refine zh ?_ ?_
 refine zA ?_ ?_ ?_
 exact zy zF (zt hr.units) (Snd.b (zN (zb 0 (pv 0)) zd)) (Snd.b zu) (zl _)
 exact zk (zq (ZV (by rfl) tx.z_len (Snd.b (zN (zb 0 (pv 0)) zd))))
 exact zz
 refine zh ?_ ?_
 refine zA ?_ ?_ ?_
 exact zy zF (zt hr.units) (Snd.b (zN (zb 0 (pv 0)) zd)) (Snd.b zu) (zl _)
 refine zk ?_
 exact zq (cZ hy O_p hr tx.C_p (za (zN (zb 0 (pv 0)) zd) zi))
 exact zz
 refine zk ?_
 refine zq ?_
 refine cZ hy O_l hr tx.C_l ?_
 refine za ?_ ?_
 exact zb 0 (pv 0)
 exact za (zE (zN (zb 0 (pv 0)) zd) zd) zi
theorem ok_p {j:Nat} (hj:0<=j) {c_1:List T->R T} (O_1:Q_1 P w base cl tx j c_1):Q_p P w base cl tx (j+1) (fun ts=>zn (b_p c_1 (en0 3 ts))):=by
 refine Z0 tx.C_p.F K7 rfl (fun cdv A outer s H E Y hy hr=> ?_) (fun ts h=>rfl)
 refine zh ?_ ?_
 exact zZ (i:=1) K7.nd (by rfl) (.inl (by rfl)) zd
 refine zh ?_ ?_
 refine JJ PassesOwn.never (by rfl) ?_ ?_ ?_
 exact ZZ (zb 0 (pv 0))
 exact jK (i:=2) K7.nd (by rfl) (.inl (by rfl))
 refine zk ?_
 exact zZ (i:=1) K7.nd (by rfl) (.inl (by rfl)) (ZU (zb 1 (pv 1)) (cZ hy O_1 hr tx.C_1 (za (zb 2 (pv 2)) zi)))
 exact zk (zq (zb 1 (pv 1)))
theorem ok_l {j:Nat} (hj:0<=j) {c_p:List T->R T} (O_p:Q_p P w base cl tx j c_p):Q_l P w base cl tx (j+1) (fun ts=>zn (b_l c_p (en0 2 ts))):=by
 refine Z0 tx.C_l.F sc_l rfl (fun cdv A outer s H E Y hy hr=> ?_) (fun ts h=>rfl)
 refine zk ?_
 refine zq ?_
 refine X5 hr.hd (by rfl) tx.z_sum ?_
 refine Snd.b ?_
 refine Zo (Zc ["each","kind"] N_l (ze s_l) (by rfl) (by rfl) (by decide+kernel) (by rfl) ?_ (fun _ _ _ _ _ _=>zC (show List.Nodup (["each","kind"]:List Str) by decide+kernel) (by rfl) (.inl (by rfl)) (.inr (by rfl))) (zO 0) (zP 0) (fun Y' hy' _ _ _ _ _ _=> ?_) (fun Y' hy' _ _ _ _ _ _=> ?_))
 exact Qv (by rfl) tx.z_range (zN (zb 0 (pv 0)) zd) (zb 1 (pv 1))
 exact Zl
 refine cZ (hy'.trans hy) O_p hr tx.C_p ?_
 refine za ?_ ?_
 refine ZU ?_ ?_
 exact JE (za (zN (zb 1 (pv 1)) zd) zi)
 exact zb 0 (pv 0)
 exact zi
theorem Gr:Gb P w base cl tx 1 (fun ts=>zn (kQ  (en0 1 ts))):=by
 refine Z0 tx.C_11.F gR rfl (fun cdv A outer s H E Y hy hr=> ?_) (fun ts h=>rfl)
 refine zk ?_
 refine zq ?_
 refine Zo (Zc ["choice"] N_11 (ze gQ) (by rfl) (by rfl) (by decide+kernel) (by rfl) ?_ (fun _ _ _ _ _ _=>zC (show List.Nodup (["choice"]:List Str) by decide+kernel) (by rfl) (.inl (by rfl)) (.inr (by rfl))) (zO 0) (zP 0) (fun Y' hy' _ _ _ _ _ _=> ?_) (fun Y' hy' _ _ _ _ _ _=> ?_))
 exact ZZ (zN (zb 0 (pv 0)) zd)
 exact Zl
 exact zN (zb 0 (pv 0)) zd
theorem ok_e {j:Nat} (hj:20<=j) {c_11 c_1c c_n:List T->R T} (O_11:Gb P w base cl tx 1 c_11) (O_1c:K9 P w base cl tx j c_1c) (O_n:Q_n P w base cl tx j c_n):Q_e P w base cl tx (j+1) (fun ts=>zn (b_e c_11 c_1c c_n (en0 2 ts))):=by
 refine Z0 tx.C_e.F sc_e rfl (fun cdv A outer s H E Y hy hr=> ?_) (fun ts h=>rfl)
 refine zh ?_ ?_
 refine zA ?_ ?_ ?_
 exact zy zF (zt hr.units) (Snd.b (zN (zb 0 (pv 0)) zd)) (Snd.b zu) (zl _)
 exact zk (zq (zE (zN (zb 0 (pv 0)) zd) (zb 1 (pv 1))))
 exact zz
 refine zh ?_ ?_
 refine zA ?_ ?_ ?_
 exact zy zF (zt hr.units) (Snd.b (zN (zb 0 (pv 0)) zd)) (Snd.b zu) (zl _)
 refine zk ?_
 exact zq (zN (cZ hy O_11 hr tx.C_11 (za (zb 0 (pv 0)) zi)) (zb 1 (pv 1)))
 exact zz
 refine zh ?_ ?_
 refine zA ?_ ?_ ?_
 exact zy zF (zt hr.units) (Snd.b (zN (zb 0 (pv 0)) zd)) (Snd.b zu) (zl _)
 refine zk ?_
 refine zq ?_
 refine cZ hy O_n hr tx.C_n ?_
 exact za (zN (zb 0 (pv 0)) zd) (za (zb 1 (pv 1)) zi)
 exact zz
 refine zk ?_
 exact zq (cZ hy O_1c hr tx.C_1c (za (zb 0 (pv 0)) (za (zb 1 (pv 1)) zi)))
theorem Gs {j:Nat} (hj:20<=j) {c_l c_n:List T->R T} (O_l:Q_l P w base cl tx 20 c_l) (O_n:Q_n P w base cl tx j c_n):K9 P w base cl tx (j+1) (fun ts=>zn (x9 c_l c_n (en0 3 ts))):=by
 refine Z0 tx.C_1c.F VY rfl (fun cdv A outer s H E Y hy hr=> ?_) (fun ts h=>rfl)
 refine zh ?_ ?_
 exact zZ (i:=2) VY.nd (by rfl) (.inl (by rfl)) (zN (zb 0 (pv 0)) zd)
 refine zh ?_ ?_
 refine vU (n:=8) PassesOwn.never ?_ ?_
 refine zy ZI Z9 ?_ ?_ (zl _)
 refine Snd.b ?_
 refine cZ hy O_l hr tx.C_l ?_
 exact za (zb 0 (pv 0)) (za (zE (zb 2 (pv 2)) zd) zi)
 exact zo 1 (pv 1)
 exact zk (zZ (i:=2) VY.nd (by rfl) (.inl (by rfl)) (zE (zb 2 (pv 2)) zd))
 refine zk ?_
 refine zq ?_
 refine cZ hy O_n hr tx.C_n ?_
 refine za ?_ ?_
 refine ZU ?_ ?_
 exact JE (za (zN (zb 0 (pv 0)) zd) zi)
 exact zb 2 (pv 2)
 refine za ?_ ?_
 refine jl ?_ ?_
 exact zb 1 (pv 1)
 exact cZ hy O_l hr tx.C_l (za (zb 0 (pv 0)) (za (zb 2 (pv 2)) zi))
 exact zi
theorem ok_n {j:Nat} (hj:20<=j) {c_1 c_e:List T->R T} (O_1:Q_1 P w base cl tx 20 c_1) (O_e:Q_e P w base cl tx j c_e):Q_n P w base cl tx (j+1) (fun ts=>zn (b_n c_1 c_e (en0 6 ts))):=by
 refine Z0 tx.C_n.F xh rfl (fun cdv A outer s H E Y hy hr=> ?_) (fun ts h=>rfl)
 refine zh ?_ ?_
 exact wn (i:=2) xh.nd (by rfl) (.inl (by rfl)) zi
 refine zh ?_ ?_
 exact zZ (i:=3) xh.nd (by rfl) (.inl (by rfl)) (zb 1 (pv 1))
 refine zh ?_ ?_
 refine JJ PassesOwn.never (by rfl) ?_ ?_ ?_
 exact KS (by rfl) tx.z_reversed (zb 0 (pv 0))
 exact jK (i:=4) xh.nd (by rfl) (.inl (by rfl))
 refine zh ?_ ?_
 exact zZ (i:=5) xh.nd (by rfl) (.inl (by rfl)) (cZ hy O_1 hr tx.C_1 (za (zb 4 (pv 4)) zi))
 refine zh ?_ ?_
 refine qA (i:=2) (pv 2) ?_
 refine cZ hy O_e hr tx.C_e ?_
 exact za (zb 4 (pv 4)) (za (wE (zb 3 (pv 3)) (zb 5 (pv 5))) zi)
 exact zk (zZ (i:=3) xh.nd (by rfl) (.inl (by rfl)) (Qm (zb 3 (pv 3)) (zb 5 (pv 5))))
 exact zk (zq (Xg hr.hd (by rfl) tx.z_tuple (by rfl) tx.z_reversed (zb 2 (pv 2))))
theorem Gu {c_18 c_1 c_e:List T->R T} (xq:Tq K mg base cl) (O_18:Ga P w base cl tx 25 c_18) (O_1:Q_1 P w base cl tx 20 c_1) (O_e:Q_e P w base cl tx 40 c_e):Gc P w base cl tx 41 (fun ts=>zn (kR c_18 c_1 c_e (en0 2 ts))):=by
 obtain ⟨u_MOST_TOLD,c_MOST_TOLD⟩:=tx.c_MOST_TOLD
 refine je tx.C_13.F kr rfl (fun cdv A outer s H E Y hy hE hr=> ?_) (fun ts h=>rfl)
 refine zh ?_ ?_
 exact uG (cX hy (hE ▸ jU) O_18 hr tx.C_18 (za (zb 0 (pv 0)) zi))
 refine zh ?_ ?_
 exact zZ (i:=1) kr.nd (by rfl) (.inl (by rfl)) (cZ hy O_1 hr tx.C_1 (za (zb 0 (pv 0)) zi))
 refine zh ?_ ?_
 refine zA ?_ ?_ ?_
 exact zy Up wk (zo 1 (pv 1)) (Snd.b (jN (by rfl) c_MOST_TOLD.1 c_MOST_TOLD.2)) (zl _)
 exact zk (jb (c:=3) xq.o_TooMany PySem.F.excBase_ValueError (by decide) PySem.F.excBase_ValueError hE (by rw [hy]; exact xq.l_TooMany) (by rfl))
 exact zz
 refine zk ?_
 refine X6 (Zc ["number","kind"] N_13 (ze gS) (by rfl) (by rfl) (by decide+kernel) (by rfl) ?_ (fun _ _ _ _ _ _=>zC (show List.Nodup (["number","kind"]:List Str) by decide+kernel) (by rfl) (.inl (by rfl)) (.inr (by rfl))) (zO 0) (zP 0) (fun Y' hy' _ _ _ _ _ _=> ?_) (fun Y' hy' _ _ _ _ _ _=> ?_))
 exact wo (by rfl) tx.z_range (zb 1 (pv 1))
 exact Zl
 exact cZ (hy'.trans hy) O_e hr tx.C_e (za (zb 1 (pv 1)) (za (zb 0 (pv 0)) zi))
theorem Gv:Gd P w base cl tx 1 (fun ts=>zn (kT  (en0 1 ts))):=by
 refine Z0 tx.C_17.F gU rfl (fun cdv A outer s H E Y hy hr=> ?_) (fun ts h=>rfl)
 refine zk ?_
 refine zq ?_
 refine vP ?_
 refine KU hr.hd (by rfl) tx.z_any ?_
 refine Snd.b ?_
 refine Zo (Zc ["place","part","parts"] N_17 (ze gT) (by rfl) (by rfl) (by decide+kernel) (by rfl) ?_ (fun _ _ _ _ _ _=>Wa (by rfl) (ZA (zC (show List.Nodup (["place","part","parts"]:List Str) by decide+kernel) (by rfl) (.inl (by rfl)) (.inr (by rfl))) (ZA (zC (show List.Nodup (["place","part","parts"]:List Str) by decide+kernel) (by rfl) (.inl (by rfl)) (.inr (by rfl))) JA))) (Jq _ 0 1) (Jr 0 1) (fun Y' hy' _ _ _ _ _ _=> ?_) (fun Y' hy' _ _ _ _ _ _=> ?_))
 exact Vk (by rfl) tx.z_enumerate (zb 0 (pv 0))
 exact Zl
 refine ja Uq (uB hr.units) ?_ ?_ (by rfl)
 exact zo 1 (pv 1)
 exact Snd.b (JI (zb 2 (pv 2)) wm (jJ (zb 0 (pv 0))))
theorem Gw:Ge P w base cl tx 1 (fun ts=>zn (kW  (en0 1 ts))):=by
 refine Z0 tx.C_16.F gX rfl (fun cdv A outer s H E Y hy hr=> ?_) (fun ts h=>rfl)
 refine zk ?_
 refine zq ?_
 refine qz hr.hd (by rfl) tx.z_all ?_
 refine Snd.b ?_
 refine Zo (Zc ["ahead","number"] N_16 (ze gW) (by rfl) (by rfl) (by decide+kernel) (by rfl) ?_ (fun _ _ _ _ _ _=>Wa (by rfl) (ZA (zC (show List.Nodup (["ahead","number"]:List Str) by decide+kernel) (by rfl) (.inl (by rfl)) (.inr (by rfl))) (ZA (zC (show List.Nodup (["ahead","number"]:List Str) by decide+kernel) (by rfl) (.inl (by rfl)) (.inr (by rfl))) JA))) (Jq _ 0 1) (Jr 0 1) (fun Y' hy' _ _ _ _ _ _=> ?_) (fun Y' hy' _ _ _ _ _ _=> ?_))
 exact KN (by rfl) tx.z_zip (zb 0 (pv 0)) (JI (zb 0 (pv 0)) (jJ zd) wm)
 exact Zl
 exact ja ZI Z9 (zo 0 (pv 0)) (zo 1 (pv 1)) (zl _)
theorem Gx:Gf P w base cl tx 1 (fun ts=>zn (GJ  (en0 1 ts))):=by
 refine Z0 tx.C_1a.F gY rfl (fun cdv A outer s H E Y hy hr=> ?_) (fun ts h=>rfl)
 refine zk ?_
 refine zq ?_
 refine kz ?_ ?_ ?_
 exact ji (Snd.b (wF (n:="tuple") (jp _) (by rfl) tx.z_isinstance (by rfl) tx.z_tuple PyProof.Rows.Boot.«tuple» (zo 0 (pv 0))))
 exact zb 0 (pv 0)
 exact ZN (za (zb 0 (pv 0)) zi)
theorem ok_g {j:Nat} (hj:0<=j) {c_g:List T->R T} (O_g:Q_g P w base cl tx j c_g):Q_g P w base cl tx (j+1) (fun ts=>zn (b_g c_g (en0 3 ts))):=by
 refine Z0 tx.C_g.F gZ rfl (fun cdv A outer s H E Y hy hr=> ?_) (fun ts h=>rfl)
 refine zh ?_ ?_
 refine zA ?_ ?_ ?_
 exact J8 (ji (Snd.b (wF (n:="tuple") (jp _) (by rfl) tx.z_isinstance (by rfl) tx.z_tuple PyProof.Rows.Boot.«tuple» (zo 0 (pv 0)))))
 exact zk (zq (JE (za (zb 0 (pv 0)) zi)))
 exact zz
 refine zh ?_ ?_
 exact wn (i:=1) gZ.nd (by rfl) (.inl (by rfl)) zi
 refine zh ?_ ?_
 refine JJ PassesOwn.never (by rfl) ?_ ?_ ?_
 exact ZZ (zb 0 (pv 0))
 exact jK (i:=2) gZ.nd (by rfl) (.inl (by rfl))
 exact zk (vT (i:=1) (pv 1) (cZ hy O_g hr tx.C_g (za (zb 2 (pv 2)) zi)))
 exact zk (zq (zb 1 (pv 1)))
theorem ok_z {c_d c_g:List T->R T} (O_d:Q_d P w base cl tx 1 c_d) (O_g:Q_g P w base cl tx 8 c_g):Q_z P w base cl tx 9 (fun ts=>zn (b_z c_d c_g (en0 1 ts))):=by
 refine Z0 tx.C_z.F sc_z rfl (fun cdv A outer s H E Y hy hr=> ?_) (fun ts h=>rfl)
 refine zk ?_
 refine zq ?_
 refine Zo (Zc ["leaf"] N_z (ze s_z) (by rfl) (by rfl) (by decide+kernel) (by rfl) ?_ (fun _ _ _ _ _ _=>zC (show List.Nodup (["leaf"]:List Str) by decide+kernel) (by rfl) (.inl (by rfl)) (.inr (by rfl))) (zO 0) (zP 0) (fun Y' hy' _ _ _ _ _ _=> ?_) (fun Y' hy' _ _ _ _ _ _=> ?_))
 exact ZZ (cZ hy O_g hr tx.C_g (za (zb 0 (pv 0)) zi))
 exact Qx (ji (Snd.b (cZ (hy'.trans hy) O_d hr tx.C_d (za (zb 0 (pv 0)) zi))))
 exact zb 0 (pv 0)
theorem Gy {c_1a c_g c_z c_16 c_17:List T->R T} (O_1a:Gf P w base cl tx 1 c_1a) (O_g:Q_g P w base cl tx 8 c_g) (O_z:Q_z P w base cl tx 9 c_z) (O_16:Ge P w base cl tx 1 c_16) (O_17:Gd P w base cl tx 1 c_17):Gg P w base cl tx 10 (fun ts=>zn (kZ c_1a c_g c_z c_16 c_17 (en0 2 ts))):=by
 refine Z0 tx.C_19.F G1 rfl (fun cdv A outer s H E Y hy hr=> ?_) (fun ts h=>rfl)
 refine zh ?_ ?_
 refine zA ?_ ?_ ?_
 exact zy zF (zt hr.units) (Snd.b (zN (zb 0 (pv 0)) zd)) (Snd.b zu) (zl _)
 refine zk ?_
 refine zq ?_
 refine jm ZI ZI Z9 Z9 ?_ ?_ ?_
 exact Snd.b (zN (zb 0 (pv 0)) zd)
 exact Snd.b (X5 hr.hd (by rfl) tx.z_sum (Snd.b (cZ hy O_z hr tx.C_z (za (zb 1 (pv 1)) zi))))
 exact Snd.b (zN (zb 0 (pv 0)) zd)
 exact zz
 refine zh ?_ ?_
 refine zA ?_ ?_ ?_
 exact zy zF (zt hr.units) (Snd.b (zN (zb 0 (pv 0)) zd)) (Snd.b zu) (zl _)
 refine zk ?_
 refine zq ?_
 refine jm ZI ZI Z9 Z9 ?_ ?_ ?_
 exact Snd.b (zN (zb 0 (pv 0)) zd)
 exact Snd.b (ZV (by rfl) tx.z_len (Snd.b (cZ hy O_1a hr tx.C_1a (za (zb 1 (pv 1)) zi))))
 exact Snd.b (zN (zb 0 (pv 0)) zd)
 exact zz
 refine zh ?_ ?_
 refine zA ?_ ?_ ?_
 exact zy zF (zt hr.units) (Snd.b (zN (zb 0 (pv 0)) zd)) (Snd.b zu) (zl _)
 refine zk ?_
 refine zq ?_
 refine ja Uq (uB hr.units) ?_ ?_ (by rfl)
 exact Snd.b (zN (zb 0 (pv 0)) zd)
 exact Snd.b (cZ hy O_g hr tx.C_g (za (zb 1 (pv 1)) zi))
 exact zz
 refine zh ?_ ?_
 refine zA ?_ ?_ ?_
 exact zy zF (zt hr.units) (Snd.b (zN (zb 0 (pv 0)) zd)) (Snd.b zu) (zl _)
 refine zk ?_
 refine zq ?_
 exact cZ hy O_16 hr tx.C_16 (za (cZ hy O_z hr tx.C_z (za (zb 1 (pv 1)) zi)) zi)
 exact zz
 refine zk ?_
 refine zq ?_
 exact cZ hy O_17 hr tx.C_17 (za (cZ hy O_1a hr tx.C_1a (za (zb 1 (pv 1)) zi)) zi)
theorem ok_f {j:Nat} (hj:10<=j) {c_f c_19:List T->R T} (O_f:Q_f P w base cl tx j c_f) (O_19:Gg P w base cl tx 10 c_19):Q_f P w base cl tx (j+1) (fun ts=>zn (b_f c_f c_19 (en0 2 ts))):=by
 refine Z0 tx.C_f.F sc_f rfl (fun cdv A outer s H E Y hy hr=> ?_) (fun ts h=>rfl)
 refine zh ?_ ?_
 refine zA ?_ ?_ ?_
 exact zy zF (zt hr.units) (Snd.b (zN (zb 0 (pv 0)) zd)) (Snd.b zu) (zl _)
 refine zk ?_
 refine zq ?_
 refine vP ?_
 refine cZ hy O_f hr tx.C_f ?_
 exact za (zN (zb 0 (pv 0)) zd) (za (zb 1 (pv 1)) zi)
 exact zz
 refine zh ?_ ?_
 refine zA ?_ ?_ ?_
 exact zy zF (zt hr.units) (Snd.b (zN (zb 0 (pv 0)) zd)) (Snd.b zu) (zl _)
 refine zk ?_
 refine zq ?_
 refine j4 ?_ ?_
 refine cZ hy O_f hr tx.C_f ?_
 exact za (zN (zb 0 (pv 0)) zd) (za (zb 1 (pv 1)) zi)
 refine jo ?_
 refine cZ hy O_f hr tx.C_f ?_
 exact za (zN (zb 0 (pv 0)) zd) (za (zb 1 (pv 1)) zi)
 exact zz
 refine zh ?_ ?_
 refine zA ?_ ?_ ?_
 exact zy zF (zt hr.units) (Snd.b (zN (zb 0 (pv 0)) zd)) (Snd.b zu) (zl _)
 refine zk ?_
 refine zq ?_
 refine KC ?_ ?_
 refine cZ hy O_f hr tx.C_f ?_
 exact za (zN (zb 0 (pv 0)) zd) (za (zb 1 (pv 1)) zi)
 refine jo ?_
 refine cZ hy O_f hr tx.C_f ?_
 exact za (zN (zb 0 (pv 0)) zd) (za (zb 1 (pv 1)) zi)
 exact zz
 refine zk ?_
 exact zq (cZ hy O_19 hr tx.C_19 (za (zb 0 (pv 0)) (za (zb 1 (pv 1)) zi)))
theorem ok_q {c_13 c_s c_f:List T->R T} (O_13:Gc P w base cl tx 41 c_13) (O_s:Q_s P w base cl tx 12 c_s) (O_f:Q_f P w base cl tx 18 c_f):Q_q P w base cl tx 42 (fun ts=>zn (b_q c_13 c_s c_f (en0 2 ts))):=by
 refine je tx.C_q.F sc_q rfl (fun cdv A outer s H E Y hy hE hr=> ?_) (fun ts h=>rfl)
 refine zh ?_ ?_
 exact uG (cX hy (hE ▸ jU) O_s hr tx.C_s (za (zb 1 (pv 1)) zi))
 refine zk ?_
 refine zq ?_
 refine Zo (Zc ["worth","rule"] N_q (ze s_q) (by rfl) (by rfl) (by decide+kernel) (by rfl) ?_ (fun _ _ _ _ _ _=>zC (show List.Nodup (["worth","rule"]:List Str) by decide+kernel) (by rfl) (.inl (by rfl)) (.inr (by rfl))) (zO 0) (zP 0) (fun Y' hy' _ _ _ _ _ _=> ?_) (fun Y' hy' _ _ _ _ _ _=> ?_))
 exact ZZ (cX hy (hE ▸ jU) O_13 hr tx.C_13 (za (zb 0 (pv 0)) zi))
 refine Qx ?_
 refine ji ?_
 exact Snd.b (cZ (hy'.trans hy) O_f hr tx.C_f (za (zb 1 (pv 1)) (za (zb 0 (pv 0)) zi)))
 exact zb 0 (pv 0)
theorem ok_0 {c_y c_3 c_q c_h c_5 c_t:List T->R T} (O_y:Q_y P w base cl tx 18 c_y) (O_3:Q_3 P w base cl tx 10 c_3) (O_q:Q_q P w base cl tx 42 c_q) (O_h:Q_h P w base cl tx 8 c_h) (O_5:Q_5 P w base cl tx 13 c_5) (O_t:Q_t P w base cl tx 12 c_t):Q_0 P w base cl tx 43 (fun ts=>zn (b_0 c_y c_3 c_q c_h c_5 c_t (en0 5 ts))):=by
 refine je tx.C_0.F kt rfl (fun cdv A outer s H E Y hy hE hr=> ?_) (fun ts h=>rfl)
 refine zh ?_ ?_
 refine zZ (i:=1) kt.nd (by rfl) (.inl (by rfl)) ?_
 refine cZ hy O_y hr tx.C_y ?_
 exact za (zb 0 (pv 0)) (za zd (za zd zi))
 refine zh ?_ ?_
 refine JJ PassesOwn.leaving (by rfl) ?_ ?_ ?_
 exact wo (by rfl) tx.z_range zd
 exact jK (i:=2) kt.nd (by rfl) (.inl (by rfl))
 refine zh ?_ ?_
 refine zZ (i:=3) kt.nd (by rfl) (.inl (by rfl)) ?_
 refine cZ hy O_3 hr tx.C_3 ?_
 refine za ?_ ?_
 exact zb 0 (pv 0)
 refine za ?_ ?_
 exact zE zd (ZU zd (zb 2 (pv 2)))
 exact za zd zi
 refine zh ?_ ?_
 exact zZ (i:=4) kt.nd (by rfl) (.inl (by rfl)) (cZ hy O_h hr tx.C_h (za (zb 3 (pv 3)) zi))
 refine zh ?_ ?_
 refine zA ?_ ?_ ?_
 refine Jp.t ?_
 refine Ur ?_ ?_
 exact zy qq (uz hr.units) (Snd.b (cX hy (hE ▸ jU) O_5 hr tx.C_5 (za (zb 3 (pv 3)) zi))) (zo 4 (pv 4)) (zl _)
 refine JG ?_
 exact zy qq (uz hr.units) (Snd.b (cX hy (hE ▸ jU) O_t hr tx.C_t (za (zb 4 (pv 4)) zi))) (zo 3 (pv 3)) (zl _)
 exact zk (zq Ql)
 exact zz
 refine zk ?_
 refine zA ?_ ?_ ?_
 refine Jp.t ?_
 refine vQ ?_ ?_
 exact zy zF (zt hr.units) (zo 2 (pv 2)) (Snd.b zd) (zl _)
 refine yq ?_
 refine zy qq (uz hr.units) ?_ ?_ (zl _)
 refine Snd.b ?_
 refine cX hy (hE ▸ jU) O_q hr tx.C_q ?_
 refine za ?_ ?_
 exact zb 1 (pv 1)
 exact za (cX hy (hE ▸ jU) O_t hr tx.C_t (za (zb 4 (pv 4)) zi)) zi
 exact Snd.b (cX hy (hE ▸ jU) O_q hr tx.C_q (za (zb 1 (pv 1)) (za (zb 3 (pv 3)) zi)))
 exact zk (zq Ql)
 exact zz
 refine zk ?_
 refine zq ?_
 refine ja zF (zt hr.units) ?_ ?_ (zl _)
 refine Snd.b ?_
 refine cX hy (hE ▸ jU) O_5 hr tx.C_5 ?_
 refine za ?_ ?_
 refine ZN ?_
 refine za ?_ ?_
 exact zu
 refine za ?_ ?_
 refine ZN ?_
 refine za ?_ ?_
 exact zu
 exact za (ZN (za zu zi)) zi
 refine za ?_ ?_
 refine ZN ?_
 refine za ?_ ?_
 exact zu
 exact za (Uo zd) (za zd zi)
 exact zi
 exact zi
 exact Snd.b zu
end
theorem Zw {P:Program} {w:World} {K:PySem.W.Frag} {mg:Str->Option Value} {base:Heap} {CX:CXT} {cl:Nat->Value} {k n:Nat} {f:Addr} {fd:FuncData} {ps:List Str} (hn:n=ps.length):Zf P w K mg base CX k f fd ps (spP cl n (fun _=> .bad)):=
 ⟨fun vs H Q E h=>by rw [← hn]; exact spP.len vs H Q E h,fun A outer s H args us vs Q E _ _ _ _ ⟨B,ts,_,_,_,q⟩=>q.elim⟩
section
variable {P:Program} {w:World} {K:PySem.W.Frag} {mg:Str->Option Value} {base:Heap} {cl:Nat->Value} {tx:Tx K mg}
theorem ku (xq:Tq K mg base cl):Q_0 P w base cl tx 43 f_0:=by
 have O_1e:G2 P w base cl tx 1 Xs:=Gh
 have O_2:Q_2 P w base cl tx 2 f_2:=ok_2 O_1e
 have O_x:Q_x P w base cl tx 3 f_x:=ok_x O_2
 have O_v:Q_v P w base cl tx 4 f_v:=ok_v O_2 O_x
 have R_c:∀ n:Nat,Q_c P w base cl tx (4+n) (S_c n 0):=by
  intro n
  induction n with
  | zero=>exact Zw rfl
  | succ n ih=>
   exact ok_c (j:=4+n) (by omega) O_2 O_v ih
 have O_c:Q_c P w base cl tx 12 (f_c 8):=(R_c 8)
 have O_b:Q_b P w base cl tx 1 f_b:=ok_b
 have R_8:∀ n:Nat,Q_8 P w base cl tx (1+n) (S_8 n 0):=by
  intro n
  induction n with
  | zero=>exact Zw rfl
  | succ n ih=>
   exact ok_8 (j:=1+n) (by omega) ih O_b
 have O_8:Q_8 P w base cl tx 9 (f_8 8):=(R_8 8)
 have R_9:∀ n:Nat,Q_9 P w base cl tx (9+n) (S_9 n 0):=by
  intro n
  induction n with
  | zero=>exact Zw rfl
  | succ n ih=>
   exact ok_9 (j:=9+n) (by omega) O_8 ih
 have O_9:Q_9 P w base cl tx 17 (f_9 8):=(R_9 8)
 have O_y:Q_y P w base cl tx 18 f_y:=ok_y O_c O_9
 have R_3:∀ n:Nat,Q_3 P w base cl tx (2+n) (S_3 n 0):=by
  intro n
  induction n with
  | zero=>exact Zw rfl
  | succ n ih=>
   exact ok_3 (j:=2+n) (by omega) O_2 ih
 have O_3:Q_3 P w base cl tx 10 (f_3 8):=(R_3 8)
 have R_h:∀ n:Nat,Q_h P w base cl tx (0+n) (S_h n 0):=by
  intro n
  induction n with
  | zero=>exact Zw rfl
  | succ n ih=>
   exact ok_h (j:=0+n) (by omega) ih
 have O_h:Q_h P w base cl tx 8 (f_h 8):=(R_h 8)
 have O_d:Q_d P w base cl tx 1 f_d:=ok_d
 have O_15:G4 P w base cl tx 2 kJ:=Gi O_d
 have O_o:Q_o P w base cl tx 1 f_o:=ok_o
 have R_k:∀ n:Nat,Q_k P w base cl tx (2+n) (S_k n 0):=by
  intro n
  induction n with
  | zero=>exact Zw rfl
  | succ n ih=>
   exact ok_k (j:=2+n) (by omega) O_o ih O_15
 have O_k:Q_k P w base cl tx 10 (f_k 8):=(R_k 8)
 have O_7:Q_7 P w base cl tx 11 f_7:=ok_7 O_k
 have O_s:Q_s P w base cl tx 12 f_s:=ok_s xq O_7
 have O_m:Q_m P w base cl tx 1 f_m:=ok_m
 have R_i:∀ n:Nat,Q_i P w base cl tx (1+n) (S_i n 0):=by
  intro n
  induction n with
  | zero=>exact Zw rfl
  | succ n ih=>
   exact ok_i (j:=1+n) (by omega) ih O_m
 have O_i:Q_i P w base cl tx 9 (f_i 8):=(R_i 8)
 have O_5:Q_5 P w base cl tx 13 f_5:=ok_5 O_s O_i
 have O_1f:G5 P w base cl tx 1 gh:=Gj xq
 have O_10:G6 P w base cl tx 1 QD:=Gk xq
 have O_u:Q_u P w base cl tx 2 f_u:=ok_u O_10
 have O_r:Q_r P w base cl tx 1 f_r:=ok_r
 have O_12:G7 P w base cl tx 1 Vp:=Gm xq
 have R_6:∀ n:Nat,Q_6 P w base cl tx (2+n) (S_6 n 0):=by
  intro n
  induction n with
  | zero=>exact Zw rfl
  | succ n ih=>
   exact ok_6 (j:=2+n) (by omega) xq O_12 O_r O_m ih O_u
 have O_6:Q_6 P w base cl tx 10 (f_6 8):=(R_6 8)
 have O_t:Q_t P w base cl tx 12 f_t:=ok_t xq O_7 O_1f O_6
 have O_1b:G8 P w base cl tx 2 kM:=Gn O_d
 have O_j:Q_j P w base cl tx 1 f_j:=ok_j
 have O_14:G9 P w base cl tx 2 Vq:=Go O_d O_j O_o
 have O_w:Q_w P w base cl tx 3 f_w:=ok_w O_j O_14
 have R_a:∀ n:Nat,Q_a P w base cl tx (3+n) (S_a n 0)/\K8 P w base cl tx (3+n) (S_a n 1):=by
  intro n
  induction n with
  | zero=>exact ⟨Zw rfl,Zw rfl⟩
  | succ n ih=>
   exact ⟨ok_a (j:=3+n) (by omega) O_1b ih.1 O_w ih.2,Gp (j:=3+n) (by omega) O_j ih.1⟩
 have O_a:Q_a P w base cl tx 23 (f_a 20):=(R_a 20).1
 have O_1d:K8 P w base cl tx 23 (f_1d 20):=(R_a 20).2
 have O_4:Q_4 P w base cl tx 24 f_4:=ok_4 O_a
 have O_18:Ga P w base cl tx 25 x8:=Gq xq O_4
 have R_1:∀ n:Nat,Q_1 P w base cl tx (0+n) (S_1 n 0)/\Q_p P w base cl tx (0+n) (S_1 n 1)/\Q_l P w base cl tx (0+n) (S_1 n 2):=by
  intro n
  induction n with
  | zero=>exact ⟨Zw rfl,Zw rfl,Zw rfl⟩
  | succ n ih=>
   exact ⟨ok_1 (j:=0+n) (by omega) ih.2.1 ih.2.2,ok_p (j:=0+n) (by omega) ih.1,ok_l (j:=0+n) (by omega) ih.2.1⟩
 have O_1:Q_1 P w base cl tx 20 (f_1 20):=(R_1 20).1
 have O_p:Q_p P w base cl tx 20 (f_p 20):=(R_1 20).2.1
 have O_l:Q_l P w base cl tx 20 (f_l 20):=(R_1 20).2.2
 have O_11:Gb P w base cl tx 1 Xt:=Gr
 have R_e:∀ n:Nat,Q_e P w base cl tx (20+n) (S_e n 0)/\K9 P w base cl tx (20+n) (S_e n 1)/\Q_n P w base cl tx (20+n) (S_e n 2):=by
  intro n
  induction n with
  | zero=>exact ⟨Zw rfl,Zw rfl,Zw rfl⟩
  | succ n ih=>
   exact ⟨ok_e (j:=20+n) (by omega) O_11 ih.2.1 ih.2.2,Gs (j:=20+n) (by omega) O_l ih.2.2,ok_n (j:=20+n) (by omega) O_1 ih.1⟩
 have O_e:Q_e P w base cl tx 40 (f_e 20):=(R_e 20).1
 have O_1c:K9 P w base cl tx 40 (f_1c 20):=(R_e 20).2.1
 have O_n:Q_n P w base cl tx 40 (f_n 20):=(R_e 20).2.2
 have O_13:Gc P w base cl tx 41 kS:=Gu xq O_18 O_1 O_e
 have O_17:Gd P w base cl tx 1 kU:=Gv
 have O_16:Ge P w base cl tx 1 kX:=Gw
 have O_1a:Gf P w base cl tx 1 kY:=Gx
 have R_g:∀ n:Nat,Q_g P w base cl tx (0+n) (S_g n 0):=by
  intro n
  induction n with
  | zero=>exact Zw rfl
  | succ n ih=>
   exact ok_g (j:=0+n) (by omega) ih
 have O_g:Q_g P w base cl tx 8 (f_g 8):=(R_g 8)
 have O_z:Q_z P w base cl tx 9 f_z:=ok_z O_d O_g
 have O_19:Gg P w base cl tx 10 Xu:=Gy O_1a O_g O_z O_16 O_17
 have R_f:∀ n:Nat,Q_f P w base cl tx (10+n) (S_f n 0):=by
  intro n
  induction n with
  | zero=>exact Zw rfl
  | succ n ih=>
   exact ok_f (j:=10+n) (by omega) ih O_19
 have O_f:Q_f P w base cl tx 18 (f_f 8):=(R_f 8)
 have O_q:Q_q P w base cl tx 42 f_q:=ok_q O_13 O_s O_f
 have O_0:Q_0 P w base cl tx 43 f_0:=ok_0 O_y O_3 O_q O_h O_5 O_t
 exact O_0
end
def v9:List Str:=["NoKind","NoWorth","NoRule","TooMany","Ended","NoText","NoBack"]
def clK (K:PySem.W.Frag) (c:Nat):Value:=match PySem.W.nsIn K mainGlobals (v9.getD c "") with
 | some (some v)=>v
 | _=> .none
theorem Ub {K:PySem.W.Frag} {c:Nat} {x:Str} {q:Addr} (hx:v9.getD c ""=x) (h:PySem.W.nsIn K mainGlobals x=some (some (.ref q))):clK K c= .ref q:=by unfold clK; rw [hx,h]
theorem Uc {K:PySem.W.Frag} {base:Heap} {mg:Str->Option Value} {x:Str} {C:Addr} {bmB:List Value} {newId:String} (KB:K.In base) (hb:mg x=some (.ref C)) (h:PySem.W.excIn K C bmB newId=true):OwnCls x C bmB newId mg base:=by
 unfold PySem.W.excIn at h
 split at h
 ·rename_i dd cd sl hC
  split at h
  ·rename_i C1 bm a0 a1 a2 a3 m a5 hm hs
   simp only [Bool.and_eq_true,beq_iff_eq,Bool.not_eq_true'] at h
   obtain ⟨⟨⟨⟨⟨h1,h2⟩,h3⟩,h4⟩,h5⟩,h6⟩:=h
   subst h1 h2
   cases cd with
   | mk nm bs mro ns qn hd sn sub ab col del=>
    dsimp only at hm h3 h5 h6
    subst hm h3
    obtain rfl:sl= #[a0,a1,a2,a3,some (.builtin m),a5]:=by
     cases sl; simp only at hs; rw [hs]
    exact ⟨hb,bm,ns,nm,qn,bs,hd,sn,sub,ab,col,dd,a0,a1,a2,a3,a5,_,KB _ _ hC, .of_isNs (PySem.W.isNs_of_in KB h5),PySem.W.nsMap_none_of_in KB h5 h6,PySem.W.tail_of_in KB h4⟩
  ·cases h
 ·cases h
theorem fn1 {K:PySem.W.Frag} {h:Heap} {mg:Str->Option Value} {f:Addr} {od an:Option Addr} {sl:Array (Option Value)} {oc kV dc pm cd ct:Value} {x:Str} {st:Stmt} {ps:List Str} (X:K.In h) (G:h.Ns mainGlobals mg) (e:PySem.W.nsIn K mainGlobals x=some (some (.ref f))) (l:K.lookup f=some ⟨oc,od, .func (PySem.W.fnOf x x (jj st) (ZH st) (ze st) .none kV dc pm an cd ct),sl⟩) (g:PySem.W.codeIn K cd x=true) (k:PySem.W.keepIn K (.ref f)=true)
  (hb:∀ F:Fun K x x st f (PySem.W.fnOf x x (jj st) (ZH st) (ze st) .none kV dc pm an cd ct),L2.Binds K (PySem.W.fnOf x x (jj st) (ZH st) (ze st) .none kV dc pm an cd ct) ps []):Fn K mg x st ps f (PySem.W.fnOf x x (jj st) (ZH st) (ze st) .none kV dc pm an cd ct):=
 have F:=xR (st:=st) l g k
 ⟨F,hb F,PySem.W.mg_of X G e⟩
theorem fin_ {l:PySem.W.OpenLaw} {w:World} {K:PySem.W.Frag} {h:Heap} {mg:Str->Option Value} {fa:Addr} (X:K.In h) (G:h.Ns mainGlobals mg) (hfa:mg "law"=some (.ref fa)) (tx:Tx K mg) (hB:∀ (s:Shared) (v:Value),BindsTo s tx.d_0 ⟨[v],[]⟩ [("_law_script",v)]) {q_NoKind q_NoRule q_NoText q_TooMany:Addr} (n_NoKind:PySem.W.nsIn K mainGlobals "NoKind"=some (some (.ref q_NoKind))) (n_NoRule:PySem.W.nsIn K mainGlobals "NoRule"=some (some (.ref q_NoRule))) (n_NoText:PySem.W.nsIn K mainGlobals "NoText"=some (some (.ref q_NoText))) (n_TooMany:PySem.W.nsIn K mainGlobals "TooMany"=some (some (.ref q_TooMany))) (b_o_NoKind:PySem.W.excIn K q_NoKind v8 "ValueError.__new__"=true) (b_o_NoRule:PySem.W.excIn K q_NoRule v8 "ValueError.__new__"=true) (b_o_NoText:PySem.W.excIn K q_NoText v8 "ValueError.__new__"=true) (b_o_TooMany:PySem.W.excIn K q_TooMany v8 "ValueError.__new__"=true):∃ fd:FuncData,(∀ (s:Shared) (v:Value),BindsTo s fd ⟨[v],[]⟩ [("_law_script",v)])/\∀ base:Heap,K.In base->base.Ns mainGlobals mg->Zf l.prog w K mg base (CX1 l.prog w) 43 fa fd ["_law_script"] (spP (clK K) 1 f_0):=by
 have e:=hfa.symm.trans tx.C_0.m
 cases e
 exact ⟨tx.d_0,hB,fun base KB _=>ku ⟨q_NoKind,q_NoRule,q_NoText,q_TooMany,(Ub (x:="NoKind") rfl n_NoKind),(Ub (x:="NoRule") rfl n_NoRule),(Ub (x:="NoText") rfl n_NoText),(Ub (x:="TooMany") rfl n_TooMany),(Uc KB (PySem.W.mg_of X G n_NoKind) b_o_NoKind),(Uc KB (PySem.W.mg_of X G n_NoRule) b_o_NoRule),(Uc KB (PySem.W.mg_of X G n_NoText) b_o_NoText),(Uc KB (PySem.W.mg_of X G n_TooMany) b_o_TooMany)⟩⟩
def um (K:PySem.W.Frag):Bool:=K.all fun p=> !(p.2.cls == Value.type "list")
theorem VZ {K:PySem.W.Frag} (h:um K=true) {a:Addr} {o:Obj} (e:K.lookup a=some o) (c:o.cls=Value.type "list"):False:=by
 have hm:(a,o)∈K:=by
  clear h
  induction K with
  | nil=>cases e
  | cons p r ih=>
   obtain ⟨b,u⟩:=p
   by_cases hb:a=b
   ·subst hb
    have e' :some u=some o:=by simpa [List.lookup_cons] using e
    cases e'; exact List.mem_cons_self
   ·have e' :r.lookup a=some o:=by rw [List.lookup_cons,(beq_eq_false_iff_ne.mpr hb)] at e; exact e
    exact List.mem_cons_of_mem _ (ih e')
 have:=List.all_eq_true.mp h _ hm
 rw [c] at this
 simp at this
theorem kv {cl:Nat->Value} {K:PySem.W.Frag} {H:Hp} {a:Addr} {ns:List Int} (hL:f_0 [.fz (ns.map T.int)]= .ok (.bl true)) (hK:um K=true) (hO:kx H) (hS:SqL K H a (ns.map V.int)):spP cl 1 f_0 [.ref a] H (fun v _=>v= .bl true) fun _ _ _=>False:=by
 have scrR:∀ ns:List Int,zR H (ns.map V.int) (ns.map T.int):=fun ns=>by
  induction ns with
  | nil=>exact .nil
  | cons n r ih=>exact .cons (.int n) ih
 rcases hS with (h | ⟨o,h⟩) | ⟨o,its,n,e,c,_⟩
 ·rcases hO a with z | ⟨ob,xs,z⟩ <;> (rw [h] at z; cases z)
 ·refine ⟨H,[.fz (ns.map T.int)],rfl,zK.refl H, .cons (.fz h (scrR ns)) .nil, ?_⟩
  rw [hL]
  intro v H' _ r
  cases r; rfl
 ·exact (VZ hK e c).elim
theorem walk {l:PySem.W.OpenLaw} {q:Program} {loose:List Str} {XP:(Str->Option Value)->Heap->Prop} {YP:World->Heap->Prop} {d:DefRec} {K:Params->PySem.W.Frag} (hn:l.most=some 63) (hdf:d.params.defaults=[])
  (hL:∀ ns:List Int,ns.length<=63->f_0 [.fz (ns.map T.int)]= .ok (.bl true)) (hK:∀ p,um (K p)=true)
  (hY:∀ (w:World) (h:Heap),YP w h->(K w.params).In h)
  (F:∀ (w:World) (mg:Str->Option Value) (fa:Addr) (h:Heap),(K w.params).In h->h.Ns mainGlobals mg->mg d.name=some (.ref fa)->
   ∃ fd:FuncData,(∀ (s:Shared) (u:Value),BindsTo s fd ⟨[u],[]⟩ [("_law_script",u)])/\∀ base:Heap,(K w.params).In base->base.Ns mainGlobals mg->Zf l.prog w (K w.params) mg base (CX1 l.prog w) 43 fa fd ["_law_script"] (spP (clK (K w.params)) 1 f_0)):
  PySem.W.WalkO q loose XP YP l.row.toRowW d [] (fun f vs=>PySem.call f vs):=
 L2.walk_of (n:=63) (k:=43) (x:="_law_script") (CX:=fun w=>(CX1 l.prog w)) (sp:=fun w=>spP (clK (K w.params)) 1 f_0) hn (by decide) hdf ⟨rfl,by decide,by decide⟩ hY F (fun w H a ns hl hO hS=>kv (hL ns hl) (hK w.params) hO hS) fun _ _ _ _ _ ⟨_,_,_,_,_,_,_,z⟩=>z
end G
namespace PySem.W.Fast
def tw13658882318529082440:=0
def tw15773837522828622813:=0
def tw2183972353299003035:=0
def tw18078132302863730168:=0
def tw2705150751851692459:=0
def tw13747316746342801009:=0
def tw5616868914193950685:=0
def tw17979244698203764060:=0
def tw13649565541125904606:=0
def tw4635118587815558781:=0
def tw14045281300313556212:=0
def tw10801804857977604130:=0
def tw12711984227070987854:=0
def tw14635917155406823856:=0
def tw18140144359713567675:=0
def tw11025599902072032271:=0
def tw10193088388134996232:=0
def tw9948257290733040840:=0
def tw13638766295043930373:=0
def tw1128338266866519796:=0
def tw7882602526757013427:=0
def tw13808614777644112227:=0
def tw7800869373150227504:=0
def tw6231211262931438655:=0
def tw12993293607214795898:=0
def tw18054019221620596023:=0
def tw12415280294971199487:=0
def tw17933609372122475133:=0
def tw14430526319668539041:=0
def tw1580968204260555760:=0
def tw10004926914945235490:=0
def tw12489213723721788156:=0
def tw7241334846775013622:=0
def tw10409275494093669562:=0
def tw1768300650210743252:=0
def tw8636800719990451800:=0
def tw4953404193735566405:=0
def tw11879855336980154909:=0
def tw10476757923777208944:=0
def tw16532730152501713930:=0
def tw2810288820596254313:=0
def tw791536874413136240:=0
def tw215611648261957784:=0
def tw11843183498247516943:=0
def tw14116380323848207079:=0
def tw3791195794135998001:=0
def tw6718825938712878770:=0
def tw14786528779169205815:=0
def tw4266269931987140378:=0
def tw4400588974520846282:=0
def tw1567606961656649983:=0
def tw11578684063191375080:=0
def tw8821640821869664220:=0
def tw17503637420671957059:=0
def tw5787543713181051661:=0
def tw12266818217289668309:=0
def tw1074634021074004425:=0
def tw8326285678103806956:=0
def tw5618649092319446265:=0
def tw15157165551797548864:=0
def tw13315772624552422198:=0
def tw15418106273218079661:=0
def tw17469312375568592389:=0
def tw17118986808437191760:=0
def tw16969069666444705059:=0
def tw2850784324120466504:=0
def tw6869955753930067025:=0
def tw11963053283798497604:=0
def tw6196652587448465240:=0
def tw15061815767153630623:=0
end PySem.W.Fast
open PySem PySem.W PyProof.Rows
set_option maxRecDepth 100000 in
set_option maxHeartbeats 0 in
theorem PySem.Challenge.cw_worthkinds_k73_whole_rule_texts_holds : PySem.Challenge.rw_worthkinds_k73_whole_rule_texts.Holds := by
 w_on; o_law; k_head; (case hw=>w_witness2)
 k_fill
 refine G.walk (l:=PySem.Challenge.rw_worthkinds_k73_whole_rule_texts) rfl rfl G.GS ?nl (fun w h Y=>PySem.W.kIn_of Y) ?F
 case nl=>intro p; kernel_rfl
 case F=>
  intro w mg fa h KX G0 hmg
  obtain ⟨a0,d0,C0⟩:∃ a d,G.Fn _ mg "_law_cell" G.GT ["_law_script","_law_k"] a d:=by
   refine' ⟨_,_,G.fn1 KX G0 ?e ?l ?g ?k (fun F=>F.binds (ps:=["_law_script","_law_k"]) fun _ _ _ _ _ _ us hl=>match us,hl with | [_,_],_=>rfl)⟩
   (case e=>k_is)
   (case l=>k_is)
   (case g=>k_is)
   (case k=>k_is)
  obtain ⟨a1,d1,C1⟩:∃ a d,G.Fn _ mg "_law_pick" G.s_2 ["_law_script","_law_k","_law_many"] a d:=by
   refine' ⟨_,_,G.fn1 KX G0 ?e ?l ?g ?k (fun F=>F.binds (ps:=["_law_script","_law_k","_law_many"]) fun _ _ _ _ _ _ us hl=>match us,hl with | [_,_,_],_=>rfl)⟩
   (case e=>k_is)
   (case l=>k_is)
   (case g=>k_is)
   (case k=>k_is)
  obtain ⟨a2,d2,C2⟩:∃ a d,G.Fn _ mg "_law_word_of" G.s_x ["_law_script","_law_at"] a d:=by
   refine' ⟨_,_,G.fn1 KX G0 ?e ?l ?g ?k (fun F=>F.binds (ps:=["_law_script","_law_at"]) fun _ _ _ _ _ _ us hl=>match us,hl with | [_,_],_=>rfl)⟩
   (case e=>k_is)
   (case l=>k_is)
   (case g=>k_is)
   (case k=>k_is)
  obtain ⟨a3,d3,C3⟩:∃ a d,G.Fn _ mg "_law_leaf_kind" G.s_v ["_law_script","_law_at"] a d:=by
   refine' ⟨_,_,G.fn1 KX G0 ?e ?l ?g ?k (fun F=>F.binds (ps:=["_law_script","_law_at"]) fun _ _ _ _ _ _ us hl=>match us,hl with | [_,_],_=>rfl)⟩
   (case e=>k_is)
   (case l=>k_is)
   (case g=>k_is)
   (case k=>k_is)
  obtain ⟨a4,d4,C4⟩:∃ a d,G.Fn _ mg "_law_kind" G.s_c ["_law_script","_law_at","_law_deep"] a d:=by
   refine' ⟨_,_,G.fn1 KX G0 ?e ?l ?g ?k (fun F=>F.binds (ps:=["_law_script","_law_at","_law_deep"]) fun _ _ _ _ _ _ us hl=>match us,hl with | [_,_,_],_=>rfl)⟩
   (case e=>k_is)
   (case l=>k_is)
   (case g=>k_is)
   (case k=>k_is)
  obtain ⟨a5,d5,C5⟩:∃ a d,G.Fn _ mg "_law_rows_of" G.s_b ["_law_lists"] a d:=by
   refine' ⟨_,_,G.fn1 KX G0 ?e ?l ?g ?k (fun F=>F.binds (ps:=["_law_lists"]) fun _ _ _ _ _ _ us hl=>match us,hl with | [_],_=>rfl)⟩
   (case e=>k_is)
   (case l=>k_is)
   (case g=>k_is)
   (case k=>k_is)
  obtain ⟨a6,d6,C6⟩:∃ a d,G.Fn _ mg "_law_all" G.s_8 ["_law_kind_here"] a d:=by
   refine' ⟨_,_,G.fn1 KX G0 ?e ?l ?g ?k (fun F=>F.binds (ps:=["_law_kind_here"]) fun _ _ _ _ _ _ us hl=>match us,hl with | [_],_=>rfl)⟩
   (case e=>k_is)
   (case l=>k_is)
   (case g=>k_is)
   (case k=>k_is)
  obtain ⟨a7,d7,C7⟩:∃ a d,G.Fn _ mg "_law_size" G.s_9 ["_law_kind_here"] a d:=by
   refine' ⟨_,_,G.fn1 KX G0 ?e ?l ?g ?k (fun F=>F.binds (ps:=["_law_kind_here"]) fun _ _ _ _ _ _ us hl=>match us,hl with | [_],_=>rfl)⟩
   (case e=>k_is)
   (case l=>k_is)
   (case g=>k_is)
   (case k=>k_is)
  obtain ⟨a8,d8,C8⟩:∃ a d,G.Fn _ mg "_law_small" G.s_y ["_law_script","_law_at","_law_most"] a d:=by
   refine' ⟨_,_,G.fn1 KX G0 ?e ?l ?g ?k (fun F=>F.binds (ps:=["_law_script","_law_at","_law_most"]) fun _ _ _ _ _ _ us hl=>match us,hl with | [_,_,_],_=>rfl)⟩
   (case e=>k_is)
   (case l=>k_is)
   (case g=>k_is)
   (case k=>k_is)
  obtain ⟨a9,d9,C9⟩:∃ a d,G.Fn _ mg "_law_rule" G.s_3 ["_law_script","_law_at","_law_deep"] a d:=by
   refine' ⟨_,_,G.fn1 KX G0 ?e ?l ?g ?k (fun F=>F.binds (ps:=["_law_script","_law_at","_law_deep"]) fun _ _ _ _ _ _ us hl=>match us,hl with | [_,_,_],_=>rfl)⟩
   (case e=>k_is)
   (case l=>k_is)
   (case g=>k_is)
   (case k=>k_is)
  obtain ⟨a10,d10,C10⟩:∃ a d,G.Fn _ mg "_law_rule_text" G.s_h ["_law_rule_here"] a d:=by
   refine' ⟨_,_,G.fn1 KX G0 ?e ?l ?g ?k (fun F=>F.binds (ps:=["_law_rule_here"]) fun _ _ _ _ _ _ us hl=>match us,hl with | [_],_=>rfl)⟩
   (case e=>k_is)
   (case l=>k_is)
   (case g=>k_is)
   (case k=>k_is)
  obtain ⟨a11,d11,C11⟩:∃ a d,G.Fn _ mg "is_whole" G.s_d ["thing"] a d:=by
   refine' ⟨_,_,G.fn1 KX G0 ?e ?l ?g ?k (fun F=>F.binds (ps:=["thing"]) fun _ _ _ _ _ _ us hl=>match us,hl with | [_],_=>rfl)⟩
   (case e=>k_is)
   (case l=>k_is)
   (case g=>k_is)
   (case k=>k_is)
  obtain ⟨a12,d12,C12⟩:∃ a d,G.Fn _ mg "is_bound" G.GW ["thing"] a d:=by
   refine' ⟨_,_,G.fn1 KX G0 ?e ?l ?g ?k (fun F=>F.binds (ps:=["thing"]) fun _ _ _ _ _ _ us hl=>match us,hl with | [_],_=>rfl)⟩
   (case e=>k_is)
   (case l=>k_is)
   (case g=>k_is)
   (case k=>k_is)
  obtain ⟨a13,d13,C13⟩:∃ a d,G.Fn _ mg "is_word" G.s_o ["thing"] a d:=by
   refine' ⟨_,_,G.fn1 KX G0 ?e ?l ?g ?k (fun F=>F.binds (ps:=["thing"]) fun _ _ _ _ _ _ us hl=>match us,hl with | [_],_=>rfl)⟩
   (case e=>k_is)
   (case l=>k_is)
   (case g=>k_is)
   (case k=>k_is)
  obtain ⟨a14,d14,C14⟩:∃ a d,G.Fn _ mg "is_rule_within" G.s_k ["thing","levels"] a d:=by
   refine' ⟨_,_,G.fn1 KX G0 ?e ?l ?g ?k (fun F=>F.binds (ps:=["thing","levels"]) fun _ _ _ _ _ _ us hl=>match us,hl with | [_,_],_=>rfl)⟩
   (case e=>k_is)
   (case l=>k_is)
   (case g=>k_is)
   (case k=>k_is)
  obtain ⟨a15,d15,C15⟩:∃ a d,G.Fn _ mg "is_rule" G.s_7 ["thing"] a d:=by
   refine' ⟨_,_,G.fn1 KX G0 ?e ?l ?g ?k (fun F=>F.binds (ps:=["thing"]) fun _ _ _ _ _ _ us hl=>match us,hl with | [_],_=>rfl)⟩
   (case e=>k_is)
   (case l=>k_is)
   (case g=>k_is)
   (case k=>k_is)
  obtain ⟨a16,d16,C16⟩:∃ a d,G.Fn _ mg "need_rule" G.s_s ["rule"] a d:=by
   refine' ⟨_,_,G.fn1 KX G0 ?e ?l ?g ?k (fun F=>F.binds (ps:=["rule"]) fun _ _ _ _ _ _ us hl=>match us,hl with | [_],_=>rfl)⟩
   (case e=>k_is)
   (case l=>k_is)
   (case g=>k_is)
   (case k=>k_is)
  obtain ⟨a17,d17,C17⟩:∃ a d,G.Fn _ mg "is_of_rules" G.s_m ["word"] a d:=by
   refine' ⟨_,_,G.fn1 KX G0 ?e ?l ?g ?k (fun F=>F.binds (ps:=["word"]) fun _ _ _ _ _ _ us hl=>match us,hl with | [_],_=>rfl)⟩
   (case e=>k_is)
   (case l=>k_is)
   (case g=>k_is)
   (case k=>k_is)
  obtain ⟨a18,d18,C18⟩:∃ a d,G.Fn _ mg "rule_written" G.s_i ["rule"] a d:=by
   refine' ⟨_,_,G.fn1 KX G0 ?e ?l ?g ?k (fun F=>F.binds (ps:=["rule"]) fun _ _ _ _ _ _ us hl=>match us,hl with | [_],_=>rfl)⟩
   (case e=>k_is)
   (case l=>k_is)
   (case g=>k_is)
   (case k=>k_is)
  obtain ⟨a19,d19,C19⟩:∃ a d,G.Fn _ mg "rule_text" G.s_5 ["rule"] a d:=by
   refine' ⟨_,_,G.fn1 KX G0 ?e ?l ?g ?k (fun F=>F.binds (ps:=["rule"]) fun _ _ _ _ _ _ us hl=>match us,hl with | [_],_=>rfl)⟩
   (case e=>k_is)
   (case l=>k_is)
   (case g=>k_is)
   (case k=>k_is)
  obtain ⟨a20,d20,C20⟩:∃ a d,G.Fn _ mg "need_text" G.GX ["thing"] a d:=by
   refine' ⟨_,_,G.fn1 KX G0 ?e ?l ?g ?k (fun F=>F.binds (ps:=["thing"]) fun _ _ _ _ _ _ us hl=>match us,hl with | [_],_=>rfl)⟩
   (case e=>k_is)
   (case l=>k_is)
   (case g=>k_is)
   (case k=>k_is)
  obtain ⟨a21,d21,C21⟩:∃ a d,G.Fn _ mg "number_in" G.GY ["text"] a d:=by
   refine' ⟨_,_,G.fn1 KX G0 ?e ?l ?g ?k (fun F=>F.binds (ps:=["text"]) fun _ _ _ _ _ _ us hl=>match us,hl with | [_],_=>rfl)⟩
   (case e=>k_is)
   (case l=>k_is)
   (case g=>k_is)
   (case k=>k_is)
  obtain ⟨a22,d22,C22⟩:∃ a d,G.Fn _ mg "single_rule_in" G.s_u ["pieces"] a d:=by
   refine' ⟨_,_,G.fn1 KX G0 ?e ?l ?g ?k (fun F=>F.binds (ps:=["pieces"]) fun _ _ _ _ _ _ us hl=>match us,hl with | [_],_=>rfl)⟩
   (case e=>k_is)
   (case l=>k_is)
   (case g=>k_is)
   (case k=>k_is)
  obtain ⟨a23,d23,C23⟩:∃ a d,G.Fn _ mg "pieces_between" G.s_r ["text","mark"] a d:=by
   refine' ⟨_,_,G.fn1 KX G0 ?e ?l ?g ?k (fun F=>F.binds (ps:=["text","mark"]) fun _ _ _ _ _ _ us hl=>match us,hl with | [_,_],_=>rfl)⟩
   (case e=>k_is)
   (case l=>k_is)
   (case g=>k_is)
   (case k=>k_is)
  obtain ⟨a24,d24,C24⟩:∃ a d,G.Fn _ mg "text_inside" G.GZ ["text","opening","closing"] a d:=by
   refine' ⟨_,_,G.fn1 KX G0 ?e ?l ?g ?k (fun F=>F.binds (ps:=["text","opening","closing"]) fun _ _ _ _ _ _ us hl=>match us,hl with | [_,_,_],_=>rfl)⟩
   (case e=>k_is)
   (case l=>k_is)
   (case g=>k_is)
   (case k=>k_is)
  obtain ⟨a25,d25,C25⟩:∃ a d,G.Fn _ mg "rule_in" G.s_6 ["text","levels"] a d:=by
   refine' ⟨_,_,G.fn1 KX G0 ?e ?l ?g ?k (fun F=>F.binds (ps:=["text","levels"]) fun _ _ _ _ _ _ us hl=>match us,hl with | [_,_],_=>rfl)⟩
   (case e=>k_is)
   (case l=>k_is)
   (case g=>k_is)
   (case k=>k_is)
  obtain ⟨a26,d26,C26⟩:∃ a d,G.Fn _ mg "read_rule" G.s_t ["text"] a d:=by
   refine' ⟨_,_,G.fn1 KX G0 ?e ?l ?g ?k (fun F=>F.binds (ps:=["text"]) fun _ _ _ _ _ _ us hl=>match us,hl with | [_],_=>rfl)⟩
   (case e=>k_is)
   (case l=>k_is)
   (case g=>k_is)
   (case k=>k_is)
  obtain ⟨a27,d27,C27⟩:∃ a d,G.Fn _ mg "is_span" G.s_1b ["low","high","least","most"] a d:=by
   refine' ⟨_,_,G.fn1 KX G0 ?e ?l ?g ?k (fun F=>F.binds (ps:=["low","high","least","most"]) fun _ _ _ _ _ _ us hl=>match us,hl with | [_,_,_,_],_=>rfl)⟩
   (case e=>k_is)
   (case l=>k_is)
   (case g=>k_is)
   (case k=>k_is)
  obtain ⟨a28,d28,C28⟩:∃ a d,G.Fn _ mg "is_tuple_of" G.s_j ["thing","least","most"] a d:=by
   refine' ⟨_,_,G.fn1 KX G0 ?e ?l ?g ?k (fun F=>F.binds (ps:=["thing","least","most"]) fun _ _ _ _ _ _ us hl=>match us,hl with | [_,_,_],_=>rfl)⟩
   (case e=>k_is)
   (case l=>k_is)
   (case g=>k_is)
   (case k=>k_is)
  obtain ⟨a29,d29,C29⟩:∃ a d,G.Fn _ mg "is_choice" G.s_14 ["thing"] a d:=by
   refine' ⟨_,_,G.fn1 KX G0 ?e ?l ?g ?k (fun F=>F.binds (ps:=["thing"]) fun _ _ _ _ _ _ us hl=>match us,hl with | [_],_=>rfl)⟩
   (case e=>k_is)
   (case l=>k_is)
   (case g=>k_is)
   (case k=>k_is)
  obtain ⟨a30,d30,C30⟩:∃ a d,G.Fn _ mg "are_choices" G.s_w ["thing"] a d:=by
   refine' ⟨_,_,G.fn1 KX G0 ?e ?l ?g ?k (fun F=>F.binds (ps:=["thing"]) fun _ _ _ _ _ _ us hl=>match us,hl with | [_],_=>rfl)⟩
   (case e=>k_is)
   (case l=>k_is)
   (case g=>k_is)
   (case k=>k_is)
  obtain ⟨a31,d31,C31⟩:∃ a d,G.Fn _ mg "is_kind_within" G.s_a ["thing","levels"] a d:=by
   refine' ⟨_,_,G.fn1 KX G0 ?e ?l ?g ?k (fun F=>F.binds (ps:=["thing","levels"]) fun _ _ _ _ _ _ us hl=>match us,hl with | [_,_],_=>rfl)⟩
   (case e=>k_is)
   (case l=>k_is)
   (case g=>k_is)
   (case k=>k_is)
  obtain ⟨a32,d32,C32⟩:∃ a d,G.Fn _ mg "are_kinds_within" G.gN ["thing","levels"] a d:=by
   refine' ⟨_,_,G.fn1 KX G0 ?e ?l ?g ?k (fun F=>F.binds (ps:=["thing","levels"]) fun _ _ _ _ _ _ us hl=>match us,hl with | [_,_],_=>rfl)⟩
   (case e=>k_is)
   (case l=>k_is)
   (case g=>k_is)
   (case k=>k_is)
  obtain ⟨a33,d33,C33⟩:∃ a d,G.Fn _ mg "is_kind" G.s_4 ["thing"] a d:=by
   refine' ⟨_,_,G.fn1 KX G0 ?e ?l ?g ?k (fun F=>F.binds (ps:=["thing"]) fun _ _ _ _ _ _ us hl=>match us,hl with | [_],_=>rfl)⟩
   (case e=>k_is)
   (case l=>k_is)
   (case g=>k_is)
   (case k=>k_is)
  obtain ⟨a34,d34,C34⟩:∃ a d,G.Fn _ mg "need_kind" G.s_18 ["kind"] a d:=by
   refine' ⟨_,_,G.fn1 KX G0 ?e ?l ?g ?k (fun F=>F.binds (ps:=["kind"]) fun _ _ _ _ _ _ us hl=>match us,hl with | [_],_=>rfl)⟩
   (case e=>k_is)
   (case l=>k_is)
   (case g=>k_is)
   (case k=>k_is)
  obtain ⟨a35,d35,C35⟩:∃ a d,G.Fn _ mg "count_of" G.s_1 ["kind"] a d:=by
   refine' ⟨_,_,G.fn1 KX G0 ?e ?l ?g ?k (fun F=>F.binds (ps:=["kind"]) fun _ _ _ _ _ _ us hl=>match us,hl with | [_],_=>rfl)⟩
   (case e=>k_is)
   (case l=>k_is)
   (case g=>k_is)
   (case k=>k_is)
  obtain ⟨a36,d36,C36⟩:∃ a d,G.Fn _ mg "count_of_parts" G.s_p ["kinds"] a d:=by
   refine' ⟨_,_,G.fn1 KX G0 ?e ?l ?g ?k (fun F=>F.binds (ps:=["kinds"]) fun _ _ _ _ _ _ us hl=>match us,hl with | [_],_=>rfl)⟩
   (case e=>k_is)
   (case l=>k_is)
   (case g=>k_is)
   (case k=>k_is)
  obtain ⟨a37,d37,C37⟩:∃ a d,G.Fn _ mg "count_shorter" G.s_l ["kind","length"] a d:=by
   refine' ⟨_,_,G.fn1 KX G0 ?e ?l ?g ?k (fun F=>F.binds (ps:=["kind","length"]) fun _ _ _ _ _ _ us hl=>match us,hl with | [_,_],_=>rfl)⟩
   (case e=>k_is)
   (case l=>k_is)
   (case g=>k_is)
   (case k=>k_is)
  obtain ⟨a38,d38,C38⟩:∃ a d,G.Fn _ mg "words_of_pick" G.gQ ["kind"] a d:=by
   refine' ⟨_,_,G.fn1 KX G0 ?e ?l ?g ?k (fun F=>F.binds (ps:=["kind"]) fun _ _ _ _ _ _ us hl=>match us,hl with | [_],_=>rfl)⟩
   (case e=>k_is)
   (case l=>k_is)
   (case g=>k_is)
   (case k=>k_is)
  obtain ⟨a39,d39,C39⟩:∃ a d,G.Fn _ mg "worth_at" G.s_e ["kind","number"] a d:=by
   refine' ⟨_,_,G.fn1 KX G0 ?e ?l ?g ?k (fun F=>F.binds (ps:=["kind","number"]) fun _ _ _ _ _ _ us hl=>match us,hl with | [_,_],_=>rfl)⟩
   (case e=>k_is)
   (case l=>k_is)
   (case g=>k_is)
   (case k=>k_is)
  obtain ⟨a40,d40,C40⟩:∃ a d,G.Fn _ mg "many_at" G.s_1c ["kind","number"] a d:=by
   refine' ⟨_,_,G.fn1 KX G0 ?e ?l ?g ?k (fun F=>F.binds (ps:=["kind","number"]) fun _ _ _ _ _ _ us hl=>match us,hl with | [_,_],_=>rfl)⟩
   (case e=>k_is)
   (case l=>k_is)
   (case g=>k_is)
   (case k=>k_is)
  obtain ⟨a41,d41,C41⟩:∃ a d,G.Fn _ mg "parts_at" G.s_n ["kinds","number"] a d:=by
   refine' ⟨_,_,G.fn1 KX G0 ?e ?l ?g ?k (fun F=>F.binds (ps:=["kinds","number"]) fun _ _ _ _ _ _ us hl=>match us,hl with | [_,_],_=>rfl)⟩
   (case e=>k_is)
   (case l=>k_is)
   (case g=>k_is)
   (case k=>k_is)
  obtain ⟨a42,d42,C42⟩:∃ a d,G.Fn _ mg "all_worths" G.gS ["kind"] a d:=by
   refine' ⟨_,_,G.fn1 KX G0 ?e ?l ?g ?k (fun F=>F.binds (ps:=["kind"]) fun _ _ _ _ _ _ us hl=>match us,hl with | [_],_=>rfl)⟩
   (case e=>k_is)
   (case l=>k_is)
   (case g=>k_is)
   (case k=>k_is)
  obtain ⟨a43,d43,C43⟩:∃ a d,G.Fn _ mg "are_unlike" G.gT ["parts"] a d:=by
   refine' ⟨_,_,G.fn1 KX G0 ?e ?l ?g ?k (fun F=>F.binds (ps:=["parts"]) fun _ _ _ _ _ _ us hl=>match us,hl with | [_],_=>rfl)⟩
   (case e=>k_is)
   (case l=>k_is)
   (case g=>k_is)
   (case k=>k_is)
  obtain ⟨a44,d44,C44⟩:∃ a d,G.Fn _ mg "are_rising" G.gW ["numbers"] a d:=by
   refine' ⟨_,_,G.fn1 KX G0 ?e ?l ?g ?k (fun F=>F.binds (ps:=["numbers"]) fun _ _ _ _ _ _ us hl=>match us,hl with | [_],_=>rfl)⟩
   (case e=>k_is)
   (case l=>k_is)
   (case g=>k_is)
   (case k=>k_is)
  obtain ⟨a45,d45,C45⟩:∃ a d,G.Fn _ mg "parts_of" G.s_1a ["worth"] a d:=by
   refine' ⟨_,_,G.fn1 KX G0 ?e ?l ?g ?k (fun F=>F.binds (ps:=["worth"]) fun _ _ _ _ _ _ us hl=>match us,hl with | [_],_=>rfl)⟩
   (case e=>k_is)
   (case l=>k_is)
   (case g=>k_is)
   (case k=>k_is)
  obtain ⟨a46,d46,C46⟩:∃ a d,G.Fn _ mg "leaves_of" G.s_g ["worth"] a d:=by
   refine' ⟨_,_,G.fn1 KX G0 ?e ?l ?g ?k (fun F=>F.binds (ps:=["worth"]) fun _ _ _ _ _ _ us hl=>match us,hl with | [_],_=>rfl)⟩
   (case e=>k_is)
   (case l=>k_is)
   (case g=>k_is)
   (case k=>k_is)
  obtain ⟨a47,d47,C47⟩:∃ a d,G.Fn _ mg "numbers_in" G.s_z ["worth"] a d:=by
   refine' ⟨_,_,G.fn1 KX G0 ?e ?l ?g ?k (fun F=>F.binds (ps:=["worth"]) fun _ _ _ _ _ _ us hl=>match us,hl with | [_],_=>rfl)⟩
   (case e=>k_is)
   (case l=>k_is)
   (case g=>k_is)
   (case k=>k_is)
  obtain ⟨a48,d48,C48⟩:∃ a d,G.Fn _ mg "is_single_kept" G.s_19 ["rule","worth"] a d:=by
   refine' ⟨_,_,G.fn1 KX G0 ?e ?l ?g ?k (fun F=>F.binds (ps:=["rule","worth"]) fun _ _ _ _ _ _ us hl=>match us,hl with | [_,_],_=>rfl)⟩
   (case e=>k_is)
   (case l=>k_is)
   (case g=>k_is)
   (case k=>k_is)
  obtain ⟨a49,d49,C49⟩:∃ a d,G.Fn _ mg "is_kept" G.s_f ["rule","worth"] a d:=by
   refine' ⟨_,_,G.fn1 KX G0 ?e ?l ?g ?k (fun F=>F.binds (ps:=["rule","worth"]) fun _ _ _ _ _ _ us hl=>match us,hl with | [_,_],_=>rfl)⟩
   (case e=>k_is)
   (case l=>k_is)
   (case g=>k_is)
   (case k=>k_is)
  obtain ⟨a50,d50,C50⟩:∃ a d,G.Fn _ mg "keepers" G.s_q ["kind","rule"] a d:=by
   refine' ⟨_,_,G.fn1 KX G0 ?e ?l ?g ?k (fun F=>F.binds (ps:=["kind","rule"]) fun _ _ _ _ _ _ us hl=>match us,hl with | [_,_],_=>rfl)⟩
   (case e=>k_is)
   (case l=>k_is)
   (case g=>k_is)
   (case k=>k_is)
  obtain ⟨a51,d51,C51,hB⟩:∃ a d,G.Fn _ mg "law" G.s_0 ["_law_script"] a d/\∀ (s:PySem.Shared) (v:PySem.Value),BindsTo s d ⟨[v],[]⟩ [("_law_script",v)]:=by
   refine' ⟨_,_,G.fn1 KX G0 ?e ?l ?g ?k (fun F=>F.binds (ps:=["_law_script"]) fun _ _ _ _ _ _ us hl=>match us,hl with | [_],_=>rfl),fun s v=> .of_eq rfl⟩
   (case e=>k_is)
   (case l=>k_is)
   (case g=>k_is)
   (case k=>k_is)
  refine' G.fin_ KX G0 hmg ⟨a0,d0,C0,a1,d1,C1,a2,d2,C2,a3,d3,C3,a4,d4,C4,a5,d5,C5,a6,d6,C6,a7,d7,C7,a8,d8,C8,a9,d9,C9,a10,d10,C10,a11,d11,C11,a12,d12,C12,a13,d13,C13,a14,d14,C14,a15,d15,C15,a16,d16,C16,a17,d17,C17,a18,d18,C18,a19,d19,C19,a20,d20,C20,a21,d21,C21,a22,d22,C22,a23,d23,C23,a24,d24,C24,a25,d25,C25,a26,d26,C26,a27,d27,C27,a28,d28,C28,a29,d29,C29,a30,d30,C30,a31,d31,C31,a32,d32,C32,a33,d33,C33,a34,d34,C34,a35,d35,C35,a36,d36,C36,a37,d37,C37,a38,d38,C38,a39,d39,C39,a40,d40,C40,a41,d41,C41,a42,d42,C42,a43,d43,C43,a44,d44,C44,a45,d45,C45,a46,d46,C46,a47,d47,C47,a48,d48,C48,a49,d49,C49,a50,d50,C50,a51,d51,C51,PySem.W.mg_none_of KX G0 (by k_is),PySem.W.mg_none_of KX G0 (by k_is),PySem.W.mg_none_of KX G0 (by k_is),PySem.W.mg_none_of KX G0 (by k_is),PySem.W.mg_none_of KX G0 (by k_is),PySem.W.mg_none_of KX G0 (by k_is),PySem.W.mg_none_of KX G0 (by k_is),PySem.W.mg_none_of KX G0 (by k_is),PySem.W.mg_none_of KX G0 (by k_is),PySem.W.mg_none_of KX G0 (by k_is),PySem.W.mg_none_of KX G0 (by k_is),PySem.W.mg_none_of KX G0 (by k_is),PySem.W.mg_none_of KX G0 (by k_is),PySem.W.mg_none_of KX G0 (by k_is),PySem.W.mg_none_of KX G0 (by k_is),PySem.W.mg_none_of KX G0 (by k_is),⟨_,PySem.W.mg_of KX G0 (by k_is),_,rfl⟩,⟨_,PySem.W.mg_of KX G0 (by k_is),_,rfl⟩,⟨_,PySem.W.mg_of KX G0 (by k_is),_,rfl⟩,⟨_,PySem.W.mg_of KX G0 (by k_is),_,rfl⟩,⟨_,PySem.W.mg_of KX G0 (by k_is),_,rfl⟩⟩ hB ?n0 ?n1 ?n2 ?n3 ?b0 ?b1 ?b2 ?b3
  (case n0=>k_is)
  (case n1=>k_is)
  (case n2=>k_is)
  (case n3=>k_is)
  (case b0=>kernel_rfl)
  (case b1=>kernel_rfl)
  (case b2=>kernel_rfl)
  (case b3=>kernel_rfl)
